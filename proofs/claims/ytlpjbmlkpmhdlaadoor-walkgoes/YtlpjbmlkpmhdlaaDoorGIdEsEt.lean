/- Several texts of ours in one: Id, Es, Et. -/
import Derived.Test.YtlpjbmlkpmhdlaaDoorGIcHtHw
import Derived.Test.YtlpjbmlkpmhdlaaDoorGHvErHx
import Derived.Test.YtlpjbmlkpmhdlaaDoorGRfSmHe
import Derived.Test.YtlpjbmlkpmhdlaaDoorGVmRN
import Derived.LoopTactic
import Derived.Lib.SmallJoins
import Derived.StillTailTactics
/- exact, of two paths that are the same; same, of a memory and the document's. (Laid by tools/gen_id.py.) -/
namespace Go.Proofs.YtlpjbmlkpmhdlaaDoor
set_option linter.unusedVariables false
set_option linter.unusedSimpArgs false
open Go.ChangeShapes Go.WideShapes Go.ChangeAt Go.RowKit Go.Joins

set_option maxRecDepth 100000 in
set_option maxHeartbeats 1600000 in
theorem exact_any (w : World) (P : Pth) (A A' : Option Addr) (N c c' : Nat) (hN : P.steps.length = N) (h1 : StepsIn w (.slice A N c) P.steps) (h2 : StepsIn w (.slice A' N c') P.steps) (hn : N ≤ 1000) (hw : ∀ k, k < P.steps.length → W64 (stepAt P.steps k).2.2) :
    Calls Tryd.prog 14 #[pathV (.slice A N c) P.why P.W P.U P.X P.lev P.fr, pathV (.slice A' N c') P.why P.W P.U P.X P.lev P.fr] w fun e w' => e = .returned (.bool true) ∧ Below w.heap.size w w' := by
  have H0 := Lib.hid (RTwo.start (P := P) (Q := P) h1 h2)
  have HN := Lib.hid hN
  have C : ∀ w', StepsIn w' (.slice A N c) P.steps → StepsIn w' (.slice A' N c') P.steps → Calls Tryd.prog 22 #[pathV (.slice A N c) P.why P.W P.U P.X P.lev P.fr, pathV (.slice A' N c') P.why P.W P.U P.X P.lev P.fr] w' fun e w'' => e = .returned (.bool true) ∧ Below w'.heap.size w' w'' := fun w' i1 i2 => by
    rw [← alikeP_self P]; exact rsame_all w' P P A A' N N c c' hN hN i1 i2 (by unfold maxLen; omega) hw hw
  clear h1 h2 hN hw
  go_enter Tryd.func14, Tryd.ntmps14
  go_upto_region 1 with fail
  generalize hw0 : (w.alloc _).alloc _ = w0
  have H1 : Hid (RTwo w w0 w.heap.size (.slice A N c) P (w.heap.size + 1) (.slice A' N c') P) := Lib.hid (by rw [← hw0]; exact H0.out)
  clear hw0 H0
  obtain ⟨p0, p1, p2, p3, p4, p5, p6⟩ := H1.out.boxP.seven
  obtain ⟨q0, q1, q2, q3, q4, q5, q6⟩ := H1.out.boxQ.seven
  go_upto_region 3 with (first | (go_at_call 22; refine (C _ H1.out.stepsP H1.out.stepsQ).mono ?_; rintro e w1 ⟨rfl, hB1⟩; have H2 := Lib.hid (H1.out.quiet hB1); clear hB1 H1 p0 p1 p2 p3 p4 p5 p6 q0 q1 q2 q3 q4 q5 q6))
  clear C
  go_wp2
  go_loopw [5] (fun i wr => ∃ k : Nat, k ≤ N ∧ i = .int .i64 k ∧ RTwo w wr w.heap.size (.slice A N c) P (w.heap.size + 1) (.slice A' N c') P) (fun i _ => (N - intOf i).toNat)
  case atStart => exact ⟨0, by omega, rfl, H2.out⟩
  case round =>
    obtain ⟨k, hk, rfl, hB⟩ := hrel
    clear H2
    have HB := Lib.hid hB
    clear hB
    obtain ⟨p0, p1, p2, p3, p4, p5, p6⟩ := HB.out.boxP.seven
    by_cases hlt : k < N
    · obtain ⟨ad, rfl, d0, d1, d2⟩ := steps_at HB.out.stepsP (k := k) (by rw [HN.out]; exact hlt)
      obtain ⟨ad', rfl, g0, g1, g2⟩ := steps_at HB.out.stepsQ (k := k) (by rw [HN.out]; exact hlt)
      obtain ⟨q0, q1, q2, q3, q4, q5, q6⟩ := HB.out.boxQ.seven
      generalize (stepAt P.steps k).1 = l at *
      generalize (stepAt P.steps k).2.1 = s at *
      generalize (stepAt P.steps k).2.2 = x at *
      have HB2 : ∀ n, Hid (RTwo w (wr.drewN n) w.heap.size (.slice (some ad) N c) P (w.heap.size + 1) (.slice (some ad') N c') P) := fun n => Lib.hid (HB.out.quiet (drewN_below _ _))
      clear HB
      go_wp2
      go_quiet (fail)
      go_wp2
      go_roundw
      case rel => exact ⟨k + 1, by omega, by go_num, (HB2 _).out⟩
      case measure => simp [intOf]; omega
    · have hle : N ≤ k := by omega
      obtain rfl : k = N := by omega
      go_wp2
      go_ret
      exact ⟨rfl, HB.out.below⟩

theorem word_own {L : List (Int × Int)} (h : Ris L) {k : Nat} (hk : k < L.length) : wordL L (L.getD k (0, 0)).1 = (L.getD k (0, 0)).2 := by
  refine wordL_hit L _ k hk (fun j hj e => ?_) rfl
  have := List.pairwise_iff_getElem.1 h.up j k (by omega) hk hj
  simp [List.getD, List.getElem?_eq_getElem hk, List.getElem?_eq_getElem (show j < L.length by omega)] at e
  omega
theorem slot_own {L : List (Int × Int)} (h : Ris L) {k : Nat} (hk : k < L.length) : (L.getD k (0, 0)).1 % 8 = 0 ∧ 0 ≤ (L.getD k (0, 0)).1 :=
  h.al (L.getD k (0, 0)) (by simp [List.getD, List.getElem?_eq_getElem hk])

/-- same, in its loop -/
structure Sme (w wr : World) (M : Int) (vs vt : Value) (f : Int → Int) (tr : List Int) (L : List (Int × Int)) : Prop where
  box : Blk wr w.heap.size (docCells M vs vt) 34
  below : Below w.heap.size w wr
/-- what the region of same keeps -/
def RegM (w1 : World) (b : Nat) (M : Int) (vs vt : Value) (w' : World) : Prop := Blk w' b (docCells M vs vt) 34 ∧ Kept w1 w'
theorem regm_step {w1 : World} {b : Nat} {M : Int} {vs vt : Value} {w2 w3 : World} (h : RegM w1 b M vs vt w2) (hb : Below w2.heap.size w2 w3) : RegM w1 b M vs vt w3 := ⟨h.1.below hb, Kept.step hb h.2⟩

set_option maxRecDepth 100000 in
set_option maxHeartbeats 3200000 in
theorem same8_any {w : World} {F : Nat → Prop} {m : Nat} {M : Int} {f : Int → Int} {tr : List Int} {n : Nat} {vs vt : Value} {L : List (Int × Int)} (h : Mem w F m M f tr n) (hd : Doc w M vs vt f tr L) (hl : L.length < 90000) (ht : tr.length < 90000) (hn : n < 1000000) :
    Calls Tryd.prog 16 #[.pointer (some ⟨m, 0, none⟩), .agg (docCells M vs vt)] w fun e w' => e = .returned (.bool true) ∧ Below w.heap.size w w' := by
  obtain ⟨A, c, A', c', rfl, rfl⟩ := hd.form
  have HM := Lib.hid h
  have HD := Lib.hid hd
  have HR : Hid (Blk (w.alloc (.cells (docCells M (.slice A L.length c) (.slice A' tr.length c')) 34)) w.heap.size (docCells M (.slice A L.length c) (.slice A' tr.length c')) 34 ∧ Below w.heap.size w (w.alloc (.cells (docCells M (.slice A L.length c) (.slice A' tr.length c')) 34))) := Lib.hid ⟨Blk.new _ _ _, below_alloc1 _ _⟩
  clear h hd
  go_enter Tryd.func16, Tryd.ntmps16
  go_wp2
  go_loopw [5] (fun i wr => ∃ k : Nat, k ≤ L.length ∧ i = .int .i64 k ∧ Blk wr w.heap.size (docCells M (.slice A L.length c) (.slice A' tr.length c')) 34 ∧ Below w.heap.size w wr) (fun i _ => (L.length - intOf i).toNat)
  case atStart => exact ⟨0, by omega, rfl, HR.out.1, HR.out.2⟩
  case round =>
    obtain ⟨k, hk, rfl, hX, hB⟩ := hrel
    clear HR
    have HX := Lib.hid hX
    have HB := Lib.hid hB
    clear hX hB
    obtain ⟨p0, p1, p2⟩ := HX.out.three
    by_cases hlt : k < L.length
    · obtain ⟨A1, c1, hv, hc⟩ := SlotsOwn.form (own_below HD.out.slots HB.out)
      obtain ⟨g, hA, d0, d1⟩ := hc k hlt
      obtain ⟨rfl, _⟩ : A = A1 ∧ True := by simp at hv; exact ⟨hv.1, trivial⟩
      subst hA
      have hs := slot_own HD.out.ris hlt
      have he : errS M (L.getD k (0, 0)).1 = 0 := HD.out.ins _ (by simp [List.getD, List.getElem?_eq_getElem hlt])
      have hsw : W64 (L.getD k (0, 0)).1 := by
        have h1 := (errS_in he).1
        have h2 := sizeM_bd HM.out.bits
        exact ⟨hs.2, by omega⟩
      have hpv : peekV M f (L.getD k (0, 0)).1 = (L.getD k (0, 0)).2 := by
        rw [show peekV M f (L.getD k (0, 0)).1 = f ((L.getD k (0, 0)).1 / 8) from if_pos he, HD.out.agree, aligned hs.1, word_own HD.out.ris hlt]
      have C := mpeek_any (HM.out.kept HB.out) (L.getD k (0, 0)).1 hsw
      rw [he, hpv] at C
      clear hv hc hs he hsw hpv
      generalize (L.getD k (0, 0)).1 = s at *
      generalize (L.getD k (0, 0)).2 = x at *
      go_wp2_with (first | (go_at_call 24; refine C.mono ?_; rintro e w' ⟨rfl, rfl⟩))
      go_roundw
      case rel => exact ⟨k + 1, by omega, by go_num, HX.out, HB.out⟩
      case measure => simp [intOf]; omega
    · have hle : L.length ≤ k := by omega
      have CBt : ∀ w', Kept wr w' → Calls Tryd.prog 39 #[.pointer (some ⟨m, 0, none⟩)] w' fun e w'' => e = .returned (.int .i64 M) ∧ w' = w'' := fun w' hk => mbits_any ((HM.out.kept HB.out).kept hk)
      have CT : ∀ w', Kept wr w' → Calls Tryd.prog 29 #[.pointer (some ⟨m, 0, none⟩)] w' fun e w'' => ∃ v', e = .returned v' ∧ w''.ownsRow w'.heap.size 23 1 v' tr.length (tr.map (Value.int .u64)) ∧ Below w'.heap.size w' w'' := fun w' hk => mtrace_any ((HM.out.kept HB.out).kept hk) hn
      have HWo := Lib.hid (own_below HD.out.words HB.out : WordsOwn wr (.slice A' tr.length c') tr)
      clear hk hlt
      go_upto_region 7 with fail
      have H0 : RegM wr w.heap.size M (.slice A L.length c) (.slice A' tr.length c') wr.drew := ⟨HX.out, Kept.drew0 _⟩
      clear HX p0 p1 p2
      refine wp_region_held_drew (S := RegM wr w.heap.size M (.slice A L.length c) (.slice A' tr.length c')) (by kernel_rfl) H0 (fun hHeld => ?_)
      clear H0
      generalize wr.drew = wd at *
      refine anyH_take (i := 0) (v := ?_) rfl (by kernel_rfl) (by kernel_rfl) (by kernel_rfl) (fun _ _ _ h => h) (by rfl) (by assumption) ?_ ?_
      rotate_left
      · intro w hSw
        go_simp
        (try with_reducible rfl)
      (try simp only [Act.put, List.setIfInBounds_toArray, List.set_cons_zero, List.set_cons_succ])
      refine anyH_take (i := 2) (v := ?_) rfl (by kernel_rfl) (by kernel_rfl) (by kernel_rfl) (fun _ _ _ h => h) (by rfl) (by assumption) ?_ ?_
      rotate_left
      · intro w hSw
        go_simp
        (try with_reducible rfl)
      (try simp only [Act.put, List.setIfInBounds_toArray, List.set_cons_zero, List.set_cons_succ])
      refine anyH_take (i := 3) (v := ?_) rfl (by kernel_rfl) (by kernel_rfl) (by kernel_rfl) (fun _ _ _ h => h) (by rfl) (by assumption) ?_ ?_
      rotate_left
      · intro w hSw
        obtain ⟨hA, hk9⟩ := hSw
        obtain ⟨b0, b1, b2⟩ := hA.three
        go_simp
        (try with_reducible rfl)
      (try simp only [Act.put, List.setIfInBounds_toArray, List.set_cons_zero, List.set_cons_succ])
      refine wpAnyH_ready (rs := [1]) (by kernel_rfl) (by simp) ?_
      refine anyH_one rfl (fun K hK => ?_) ?_
      · go_simp
        refine (CBt _ hHeld.2).mono ?_
        rintro e w4 ⟨rfl, rfl⟩
        refine hK.out _ _ (hHeld) (fun hHeld => ?_)
        clear hK K
        (try simp only [Act.put, List.setIfInBounds_toArray, List.set_cons_zero, List.set_cons_succ])
        refine anyH_take (i := 4) (v := ?_) rfl (by kernel_rfl) (by kernel_rfl) (by kernel_rfl) (fun _ _ _ h => h) (by rfl) (by assumption) ?_ ?_
        rotate_left
        · intro w hSw
          go_simp
          (try with_reducible rfl)
        (try simp only [Act.put, List.setIfInBounds_toArray, List.set_cons_zero, List.set_cons_succ])
        refine anyH_take (i := 5) (v := ?_) rfl (by kernel_rfl) (by kernel_rfl) (by kernel_rfl) (fun _ _ _ h => h) (by rfl) (by assumption) ?_ ?_
        rotate_left
        · intro w hSw
          go_simp
          (try with_reducible rfl)
        (try simp only [Act.put, List.setIfInBounds_toArray, List.set_cons_zero, List.set_cons_succ])
        refine anyH_take (i := 6) (v := ?_) rfl (by kernel_rfl) (by kernel_rfl) (by kernel_rfl) (fun _ _ _ h => h) (by rfl) (by assumption) ?_ ?_
        rotate_left
        · intro w hSw
          go_simp
          (try with_reducible rfl)
        (try simp only [Act.put, List.setIfInBounds_toArray, List.set_cons_zero, List.set_cons_succ])
        refine anyH_take (i := 8) (v := ?_) rfl (by kernel_rfl) (by kernel_rfl) (by kernel_rfl) (fun _ _ _ h => h) (by rfl) (by assumption) ?_ ?_
        rotate_left
        · intro w hSw
          go_simp
          (try with_reducible rfl)
        (try simp only [Act.put, List.setIfInBounds_toArray, List.set_cons_zero, List.set_cons_succ])
        refine anyH_take (i := 9) (v := ?_) rfl (by kernel_rfl) (by kernel_rfl) (by kernel_rfl) (fun _ _ _ h => h) (by rfl) (by assumption) ?_ ?_
        rotate_left
        · intro w hSw
          obtain ⟨hA, hk9⟩ := hSw
          obtain ⟨b0, b1, b2⟩ := hA.three
          go_simp
          (try with_reducible rfl)
        (try simp only [Act.put, List.setIfInBounds_toArray, List.set_cons_zero, List.set_cons_succ])
        refine wpAnyH_ready (rs := [7]) (by kernel_rfl) (by simp) ?_
        refine anyH_one rfl (fun K hK => ?_) ?_
        · go_simp
          have hHeld0 := hHeld
          refine (CT _ hHeld.2).mono ?_
          rintro e w5 ⟨v5, rfl, hO, hb5⟩
          obtain ⟨A5, c5, rfl⟩ := own_len hO
          refine hK.out _ _ (regm_step hHeld hb5) (fun hHeld => ?_)
          clear hK K
          (try simp only [Act.put, List.setIfInBounds_toArray, List.set_cons_zero, List.set_cons_succ])
          refine wpAnyH_ready (rs := [10]) (by kernel_rfl) (by simp) ?_
          refine anyH_one rfl (fun K hK => ?_) ?_
          · go_simp
            refine (same_any _ _ _ tr (row_zero hO) (own_below (own_below HWo.out hHeld0.2) hb5) (by omega)).mono ?_
            rintro e w6 ⟨rfl, ny, rfl⟩
            refine hK.out _ _ (regm_step hHeld (drewN_below _ _)) (fun hHeld => ?_)
            clear hK K
            (try simp only [Act.put, List.setIfInBounds_toArray, List.set_cons_zero, List.set_cons_succ])
            refine anyH_take (i := 11) (v := ?_) rfl (by kernel_rfl) (by kernel_rfl) (by kernel_rfl) (fun _ _ _ h => h) (by rfl) (by assumption) ?_ ?_
            rotate_left
            · intro w hSw
              go_simp
              (try with_reducible rfl)
            (try simp only [Act.put, List.setIfInBounds_toArray, List.set_cons_zero, List.set_cons_succ])
            refine wpAnyH_ready (rs := [12]) (by kernel_rfl) (by simp) ?_
            refine anyH_one rfl (fun K hK => ?_) ?_
            · go_simp
              refine hK.out _ _ hHeld (fun hHeld => ?_)
              clear hK K
              (try simp only [Act.put, List.setIfInBounds_toArray, List.set_cons_zero, List.set_cons_succ])
              refine wpAnyH_done (by kernel_rfl) ?_ _
              have HE := Lib.hid (HB.out.trans (Below.mono hHeld.2 HB.out.size))
              clear hHeld
              go_wp2
              go_ret
              exact ⟨rfl, HE.out⟩
            exact AllReadyH.nil
          exact AllReadyH.nil
        exact AllReadyH.nil
      exact AllReadyH.nil
end Go.Proofs.YtlpjbmlkpmhdlaaDoor
/- dormerref05.Reserved: what may not be, by the document's own answer. -/
namespace Go.Proofs.YtlpjbmlkpmhdlaaDoor
set_option linter.unusedVariables false
set_option linter.unusedSimpArgs false
open Go.ChangeShapes Go.WideShapes Go.ChangeAt Go.RowKit Go.Joins

theorem some_int (x lo hi : Int) (w : World) (hx : W64 x) (h0 : 0 ≤ lo) (h : lo ≤ hi + 1) (h63 : hi ≤ 63) (hh : 0 ≤ hi) {m : Int} (hm : maskF lo (hi + 1 - lo) = m) :
    Calls Tryd.prog 72 #[.int .u64 x, .int .i64 lo, .int .i64 hi] w fun e w' => e = .returned (.bool (hasF x m)) ∧ w = w' := by
  obtain ⟨a, rfl⟩ := Int.eq_ofNat_of_zero_le h0
  obtain ⟨b, rfl⟩ := Int.eq_ofNat_of_zero_le hh
  subst hm
  exact some_any x a b w hx (by omega) (by omega)

theorem some_12 (x b : Int) (w : World) (hx : W64 x) (h : b < 12) : Calls Tryd.prog 72 #[.int .u64 x, .int .i64 12, .int .i64 51] w fun e w' => e = .returned (.bool (hasF x (beyondF b))) ∧ w = w' :=
  some_int x 12 51 w hx (by decide) (by decide) (by decide) (by decide) (by unfold beyondF lowB; rw [if_pos h]; rfl)
theorem some_52 (x b : Int) (w : World) (hx : W64 x) (h : 52 < b) : Calls Tryd.prog 72 #[.int .u64 x, .int .i64 52, .int .i64 51] w fun e w' => e = .returned (.bool (hasF x (beyondF b))) ∧ w = w' :=
  some_int x 52 51 w hx (by decide) (by decide) (by decide) (by decide) (by
    unfold beyondF lowB
    rw [if_neg (by omega), mask_no (isF_no (by omega)), mask_no (isF_no (by omega))])
theorem some_b (x b : Int) (w : World) (hx : W64 x) (h : 12 ≤ b) (h' : b ≤ 52) : Calls Tryd.prog 72 #[.int .u64 x, .int .i64 b, .int .i64 51] w fun e w' => e = .returned (.bool (hasF x (beyondF b))) ∧ w = w' :=
  some_int x b 51 w hx (by omega) (by omega) (by decide) (by decide) (by unfold beyondF lowB; rw [if_neg (by omega)]; rfl)
theorem some_20 (x : Int) (w : World) (hx : W64 x) : Calls Tryd.prog 72 #[.int .u64 x, .int .i64 13, .int .i64 20] w fun e w' => e = .returned (.bool (hasF x (maskF 13 8))) ∧ w = w' :=
  some_int x 13 20 w hx (by decide) (by decide) (by decide) (by decide) rfl
theorem some_29 (x : Int) (w : World) (hx : W64 x) : Calls Tryd.prog 72 #[.int .u64 x, .int .i64 13, .int .i64 29] w fun e w' => e = .returned (.bool (hasF x (maskF 13 17))) ∧ w = w' :=
  some_int x 13 29 w hx (by decide) (by decide) (by decide) (by decide) rfl
theorem rleaf2_any (x : Int) (w : World) (hx : W64 x) : Calls Tryd.prog 48 #[.int .u64 x, .int .i64 2] w fun e w' => e = .returned (.bool (bitF x 7)) ∧ w = w' := by
  have := rleaf_any x 2 w hx; rwa [leaf_two] at this
theorem rleaf3_any (x : Int) (w : World) (hx : W64 x) : Calls Tryd.prog 48 #[.int .u64 x, .int .i64 3] w fun e w' => e = .returned (.bool (bitF x 7)) ∧ w = w' := by
  have := rleaf_any x 3 w hx; rwa [leaf_three] at this

/- walks -/
set_option maxHeartbeats 1600000 in
theorem rres_lo (x l b : Int) (nxe : Bool) (w : World) (hx : W64 x) (h : b < 12) :
    Calls Tryd.prog 46 #[.int .u64 x, .int .i64 l, .int .i64 b, .bool nxe] w fun e w' => e = .returned (.bool (resF x l b nxe)) ∧ w = w' := by
  obtain ⟨r, hr0⟩ : ∃ r, resF x l b nxe = r := ⟨_, rfl⟩
  rw [hr0]
  have hr := Lib.hid hr0
  clear hr0
  obtain rfl | rfl | rfl | ⟨l4, l2, l3⟩ : l = 4 ∨ l = 2 ∨ l = 3 ∨ (l ≠ 4 ∧ l ≠ 2 ∧ l ≠ 3) := by omega
  · cases h1 : hasF x (beyondF b) <;> cases h2 : bitF x 63 <;> cases nxe <;> cases h7 : bitF x 7
    all_goals
      go_enter Tryd.func46, Tryd.ntmps46
      go_wp2_with (first | (go_at_call 45; refine (rbit_any _ _ _ hx).mono ?_; rintro e w' ⟨rfl, rfl⟩) | (go_at_call 48; first | ((with_reducible refine (rleaf2_any _ _ hx).mono ?_); rintro e w' ⟨rfl, rfl⟩) | ((with_reducible refine (rleaf3_any _ _ hx).mono ?_); rintro e w' ⟨rfl, rfl⟩)) | (go_at_call 72; first | ((with_reducible refine (some_20 _ _ hx).mono ?_); rintro e w' ⟨rfl, rfl⟩) | ((with_reducible refine (some_29 _ _ hx).mono ?_); rintro e w' ⟨rfl, rfl⟩) | ((with_reducible refine (some_12 _ b _ hx h).mono ?_); rintro e w' ⟨rfl, rfl⟩)))
      go_ret
      exact ⟨ret_bool (by rw [← hr.out]; simp [resF, h1, h2, h7]), rfl⟩
  · cases h1 : hasF x (beyondF b) <;> cases h2 : bitF x 63 <;> cases nxe <;> cases h7 : bitF x 7 <;> cases h8 : hasF x (maskF 13 8)
    all_goals
      go_enter Tryd.func46, Tryd.ntmps46
      go_wp2_with (first | (go_at_call 45; refine (rbit_any _ _ _ hx).mono ?_; rintro e w' ⟨rfl, rfl⟩) | (go_at_call 48; first | ((with_reducible refine (rleaf2_any _ _ hx).mono ?_); rintro e w' ⟨rfl, rfl⟩) | ((with_reducible refine (rleaf3_any _ _ hx).mono ?_); rintro e w' ⟨rfl, rfl⟩)) | (go_at_call 72; first | ((with_reducible refine (some_20 _ _ hx).mono ?_); rintro e w' ⟨rfl, rfl⟩) | ((with_reducible refine (some_29 _ _ hx).mono ?_); rintro e w' ⟨rfl, rfl⟩) | ((with_reducible refine (some_12 _ b _ hx h).mono ?_); rintro e w' ⟨rfl, rfl⟩)))
      go_ret
      exact ⟨ret_bool (by rw [← hr.out]; simp [resF, h1, h2, h7, h8]), rfl⟩
  · cases h1 : hasF x (beyondF b) <;> cases h2 : bitF x 63 <;> cases nxe <;> cases h7 : bitF x 7 <;> cases h8 : hasF x (maskF 13 17)
    all_goals
      go_enter Tryd.func46, Tryd.ntmps46
      go_wp2_with (first | (go_at_call 45; refine (rbit_any _ _ _ hx).mono ?_; rintro e w' ⟨rfl, rfl⟩) | (go_at_call 48; first | ((with_reducible refine (rleaf2_any _ _ hx).mono ?_); rintro e w' ⟨rfl, rfl⟩) | ((with_reducible refine (rleaf3_any _ _ hx).mono ?_); rintro e w' ⟨rfl, rfl⟩)) | (go_at_call 72; first | ((with_reducible refine (some_20 _ _ hx).mono ?_); rintro e w' ⟨rfl, rfl⟩) | ((with_reducible refine (some_29 _ _ hx).mono ?_); rintro e w' ⟨rfl, rfl⟩) | ((with_reducible refine (some_12 _ b _ hx h).mono ?_); rintro e w' ⟨rfl, rfl⟩)))
      go_ret
      exact ⟨ret_bool (by rw [← hr.out]; simp [resF, h1, h2, h7, h8]), rfl⟩
  · have c4 : (l == 4) = false := by simp [l4]
    have c2 : (l == 2) = false := by simp [l2]
    have c3 : (l == 3) = false := by simp [l3]
    clear l4 l2 l3
    cases h1 : hasF x (beyondF b) <;> cases h2 : bitF x 63 <;> cases nxe
    all_goals
      go_enter Tryd.func46, Tryd.ntmps46
      go_wp2_with (first | (go_at_call 45; refine (rbit_any _ _ _ hx).mono ?_; rintro e w' ⟨rfl, rfl⟩) | (go_at_call 48; first | ((with_reducible refine (rleaf2_any _ _ hx).mono ?_); rintro e w' ⟨rfl, rfl⟩) | ((with_reducible refine (rleaf3_any _ _ hx).mono ?_); rintro e w' ⟨rfl, rfl⟩)) | (go_at_call 72; first | ((with_reducible refine (some_20 _ _ hx).mono ?_); rintro e w' ⟨rfl, rfl⟩) | ((with_reducible refine (some_29 _ _ hx).mono ?_); rintro e w' ⟨rfl, rfl⟩) | ((with_reducible refine (some_12 _ b _ hx h).mono ?_); rintro e w' ⟨rfl, rfl⟩)))
      go_ret
      exact ⟨ret_bool (by rw [← hr.out]; simp [resF, h1, h2, c4, c2, c3]), rfl⟩

set_option maxHeartbeats 1600000 in
theorem rres_hi (x l b : Int) (nxe : Bool) (w : World) (hx : W64 x) (h : 52 < b) :
    Calls Tryd.prog 46 #[.int .u64 x, .int .i64 l, .int .i64 b, .bool nxe] w fun e w' => e = .returned (.bool (resF x l b nxe)) ∧ w = w' := by
  have h12 : ¬ b < 12 := by omega
  obtain ⟨r, hr0⟩ : ∃ r, resF x l b nxe = r := ⟨_, rfl⟩
  rw [hr0]
  have hr := Lib.hid hr0
  clear hr0
  obtain rfl | rfl | rfl | ⟨l4, l2, l3⟩ : l = 4 ∨ l = 2 ∨ l = 3 ∨ (l ≠ 4 ∧ l ≠ 2 ∧ l ≠ 3) := by omega
  · cases h1 : hasF x (beyondF b) <;> cases h2 : bitF x 63 <;> cases nxe <;> cases h7 : bitF x 7
    all_goals
      go_enter Tryd.func46, Tryd.ntmps46
      go_wp2_with (first | (go_at_call 45; refine (rbit_any _ _ _ hx).mono ?_; rintro e w' ⟨rfl, rfl⟩) | (go_at_call 48; first | ((with_reducible refine (rleaf2_any _ _ hx).mono ?_); rintro e w' ⟨rfl, rfl⟩) | ((with_reducible refine (rleaf3_any _ _ hx).mono ?_); rintro e w' ⟨rfl, rfl⟩)) | (go_at_call 72; first | ((with_reducible refine (some_20 _ _ hx).mono ?_); rintro e w' ⟨rfl, rfl⟩) | ((with_reducible refine (some_29 _ _ hx).mono ?_); rintro e w' ⟨rfl, rfl⟩) | ((with_reducible refine (some_52 _ b _ hx h).mono ?_); rintro e w' ⟨rfl, rfl⟩)))
      go_ret
      exact ⟨ret_bool (by rw [← hr.out]; simp [resF, h1, h2, h7]), rfl⟩
  · cases h1 : hasF x (beyondF b) <;> cases h2 : bitF x 63 <;> cases nxe <;> cases h7 : bitF x 7 <;> cases h8 : hasF x (maskF 13 8)
    all_goals
      go_enter Tryd.func46, Tryd.ntmps46
      go_wp2_with (first | (go_at_call 45; refine (rbit_any _ _ _ hx).mono ?_; rintro e w' ⟨rfl, rfl⟩) | (go_at_call 48; first | ((with_reducible refine (rleaf2_any _ _ hx).mono ?_); rintro e w' ⟨rfl, rfl⟩) | ((with_reducible refine (rleaf3_any _ _ hx).mono ?_); rintro e w' ⟨rfl, rfl⟩)) | (go_at_call 72; first | ((with_reducible refine (some_20 _ _ hx).mono ?_); rintro e w' ⟨rfl, rfl⟩) | ((with_reducible refine (some_29 _ _ hx).mono ?_); rintro e w' ⟨rfl, rfl⟩) | ((with_reducible refine (some_52 _ b _ hx h).mono ?_); rintro e w' ⟨rfl, rfl⟩)))
      go_ret
      exact ⟨ret_bool (by rw [← hr.out]; simp [resF, h1, h2, h7, h8]), rfl⟩
  · cases h1 : hasF x (beyondF b) <;> cases h2 : bitF x 63 <;> cases nxe <;> cases h7 : bitF x 7 <;> cases h8 : hasF x (maskF 13 17)
    all_goals
      go_enter Tryd.func46, Tryd.ntmps46
      go_wp2_with (first | (go_at_call 45; refine (rbit_any _ _ _ hx).mono ?_; rintro e w' ⟨rfl, rfl⟩) | (go_at_call 48; first | ((with_reducible refine (rleaf2_any _ _ hx).mono ?_); rintro e w' ⟨rfl, rfl⟩) | ((with_reducible refine (rleaf3_any _ _ hx).mono ?_); rintro e w' ⟨rfl, rfl⟩)) | (go_at_call 72; first | ((with_reducible refine (some_20 _ _ hx).mono ?_); rintro e w' ⟨rfl, rfl⟩) | ((with_reducible refine (some_29 _ _ hx).mono ?_); rintro e w' ⟨rfl, rfl⟩) | ((with_reducible refine (some_52 _ b _ hx h).mono ?_); rintro e w' ⟨rfl, rfl⟩)))
      go_ret
      exact ⟨ret_bool (by rw [← hr.out]; simp [resF, h1, h2, h7, h8]), rfl⟩
  · have c4 : (l == 4) = false := by simp [l4]
    have c2 : (l == 2) = false := by simp [l2]
    have c3 : (l == 3) = false := by simp [l3]
    clear l4 l2 l3
    cases h1 : hasF x (beyondF b) <;> cases h2 : bitF x 63 <;> cases nxe
    all_goals
      go_enter Tryd.func46, Tryd.ntmps46
      go_wp2_with (first | (go_at_call 45; refine (rbit_any _ _ _ hx).mono ?_; rintro e w' ⟨rfl, rfl⟩) | (go_at_call 48; first | ((with_reducible refine (rleaf2_any _ _ hx).mono ?_); rintro e w' ⟨rfl, rfl⟩) | ((with_reducible refine (rleaf3_any _ _ hx).mono ?_); rintro e w' ⟨rfl, rfl⟩)) | (go_at_call 72; first | ((with_reducible refine (some_20 _ _ hx).mono ?_); rintro e w' ⟨rfl, rfl⟩) | ((with_reducible refine (some_29 _ _ hx).mono ?_); rintro e w' ⟨rfl, rfl⟩) | ((with_reducible refine (some_52 _ b _ hx h).mono ?_); rintro e w' ⟨rfl, rfl⟩)))
      go_ret
      exact ⟨ret_bool (by rw [← hr.out]; simp [resF, h1, h2, c4, c2, c3]), rfl⟩

set_option maxHeartbeats 1600000 in
theorem rres_mid (x l b : Int) (nxe : Bool) (w : World) (hx : W64 x) (h : 12 ≤ b) (h' : b ≤ 52) :
    Calls Tryd.prog 46 #[.int .u64 x, .int .i64 l, .int .i64 b, .bool nxe] w fun e w' => e = .returned (.bool (resF x l b nxe)) ∧ w = w' := by
  obtain ⟨r, hr0⟩ : ∃ r, resF x l b nxe = r := ⟨_, rfl⟩
  rw [hr0]
  have hr := Lib.hid hr0
  clear hr0
  obtain rfl | rfl | rfl | ⟨l4, l2, l3⟩ : l = 4 ∨ l = 2 ∨ l = 3 ∨ (l ≠ 4 ∧ l ≠ 2 ∧ l ≠ 3) := by omega
  · cases h1 : hasF x (beyondF b) <;> cases h2 : bitF x 63 <;> cases nxe <;> cases h7 : bitF x 7
    all_goals
      go_enter Tryd.func46, Tryd.ntmps46
      go_wp2_with (first | (go_at_call 45; refine (rbit_any _ _ _ hx).mono ?_; rintro e w' ⟨rfl, rfl⟩) | (go_at_call 48; first | ((with_reducible refine (rleaf2_any _ _ hx).mono ?_); rintro e w' ⟨rfl, rfl⟩) | ((with_reducible refine (rleaf3_any _ _ hx).mono ?_); rintro e w' ⟨rfl, rfl⟩)) | (go_at_call 72; first | ((with_reducible refine (some_20 _ _ hx).mono ?_); rintro e w' ⟨rfl, rfl⟩) | ((with_reducible refine (some_29 _ _ hx).mono ?_); rintro e w' ⟨rfl, rfl⟩) | ((with_reducible refine (some_b _ b _ hx h h').mono ?_); rintro e w' ⟨rfl, rfl⟩)))
      go_ret
      exact ⟨ret_bool (by rw [← hr.out]; simp [resF, h1, h2, h7]), rfl⟩
  · cases h1 : hasF x (beyondF b) <;> cases h2 : bitF x 63 <;> cases nxe <;> cases h7 : bitF x 7 <;> cases h8 : hasF x (maskF 13 8)
    all_goals
      go_enter Tryd.func46, Tryd.ntmps46
      go_wp2_with (first | (go_at_call 45; refine (rbit_any _ _ _ hx).mono ?_; rintro e w' ⟨rfl, rfl⟩) | (go_at_call 48; first | ((with_reducible refine (rleaf2_any _ _ hx).mono ?_); rintro e w' ⟨rfl, rfl⟩) | ((with_reducible refine (rleaf3_any _ _ hx).mono ?_); rintro e w' ⟨rfl, rfl⟩)) | (go_at_call 72; first | ((with_reducible refine (some_20 _ _ hx).mono ?_); rintro e w' ⟨rfl, rfl⟩) | ((with_reducible refine (some_29 _ _ hx).mono ?_); rintro e w' ⟨rfl, rfl⟩) | ((with_reducible refine (some_b _ b _ hx h h').mono ?_); rintro e w' ⟨rfl, rfl⟩)))
      go_ret
      exact ⟨ret_bool (by rw [← hr.out]; simp [resF, h1, h2, h7, h8]), rfl⟩
  · cases h1 : hasF x (beyondF b) <;> cases h2 : bitF x 63 <;> cases nxe <;> cases h7 : bitF x 7 <;> cases h8 : hasF x (maskF 13 17)
    all_goals
      go_enter Tryd.func46, Tryd.ntmps46
      go_wp2_with (first | (go_at_call 45; refine (rbit_any _ _ _ hx).mono ?_; rintro e w' ⟨rfl, rfl⟩) | (go_at_call 48; first | ((with_reducible refine (rleaf2_any _ _ hx).mono ?_); rintro e w' ⟨rfl, rfl⟩) | ((with_reducible refine (rleaf3_any _ _ hx).mono ?_); rintro e w' ⟨rfl, rfl⟩)) | (go_at_call 72; first | ((with_reducible refine (some_20 _ _ hx).mono ?_); rintro e w' ⟨rfl, rfl⟩) | ((with_reducible refine (some_29 _ _ hx).mono ?_); rintro e w' ⟨rfl, rfl⟩) | ((with_reducible refine (some_b _ b _ hx h h').mono ?_); rintro e w' ⟨rfl, rfl⟩)))
      go_ret
      exact ⟨ret_bool (by rw [← hr.out]; simp [resF, h1, h2, h7, h8]), rfl⟩
  · have c4 : (l == 4) = false := by simp [l4]
    have c2 : (l == 2) = false := by simp [l2]
    have c3 : (l == 3) = false := by simp [l3]
    clear l4 l2 l3
    cases h1 : hasF x (beyondF b) <;> cases h2 : bitF x 63 <;> cases nxe
    all_goals
      go_enter Tryd.func46, Tryd.ntmps46
      go_wp2_with (first | (go_at_call 45; refine (rbit_any _ _ _ hx).mono ?_; rintro e w' ⟨rfl, rfl⟩) | (go_at_call 48; first | ((with_reducible refine (rleaf2_any _ _ hx).mono ?_); rintro e w' ⟨rfl, rfl⟩) | ((with_reducible refine (rleaf3_any _ _ hx).mono ?_); rintro e w' ⟨rfl, rfl⟩)) | (go_at_call 72; first | ((with_reducible refine (some_20 _ _ hx).mono ?_); rintro e w' ⟨rfl, rfl⟩) | ((with_reducible refine (some_29 _ _ hx).mono ?_); rintro e w' ⟨rfl, rfl⟩) | ((with_reducible refine (some_b _ b _ hx h h').mono ?_); rintro e w' ⟨rfl, rfl⟩)))
      go_ret
      exact ⟨ret_bool (by rw [← hr.out]; simp [resF, h1, h2, c4, c2, c3]), rfl⟩

theorem rres_any (x l b : Int) (nxe : Bool) (w : World) (hx : W64 x) :
    Calls Tryd.prog 46 #[.int .u64 x, .int .i64 l, .int .i64 b, .bool nxe] w fun e w' => e = .returned (.bool (resF x l b nxe)) ∧ w = w' := by
  by_cases h : b < 12
  · exact rres_lo x l b nxe w hx h
  · by_cases h2 : 52 < b
    · exact rres_hi x l b nxe w hx h2
    · exact rres_mid x l b nxe w hx (by omega) (by omega)
end Go.Proofs.YtlpjbmlkpmhdlaaDoor
/- dormerref05.Parse: what the document's own answer says of a word. -/
namespace Go.Proofs.YtlpjbmlkpmhdlaaDoor
set_option linter.unusedVariables false
set_option linter.unusedSimpArgs false
open Go.ChangeShapes Go.WideShapes Go.ChangeAt Go.RowKit Go.Joins

/-- of the bits of x the first k, then none -/
def partT (x : Int) (k : Nat) : Array Value := ((List.range 64).map fun j : Nat => Value.bool (decide (j < k) && bitF x (j : Int))).toArray

theorem partT_get (x : Int) (k : Nat) {j : Nat} (hj : j < 64) : (partT x k)[j]? = some (.bool (decide (j < k) && bitF x (j : Int))) := by
  simp [partT, List.getElem?_map, List.getElem?_range hj]

theorem partT_set (x : Int) {k : Nat} : (partT x k).setIfInBounds k (.bool (bitF x (k : Int))) = partT x (k + 1) := by
  apply Array.ext
  · simp [partT]
  · intro j h1 h2
    have hj : j < 64 := by simpa [partT] using h2
    rw [Array.getElem_setIfInBounds (by simpa [partT] using hj)]
    by_cases e : k = j
    · subst e; simp [partT]
    · rw [if_neg e]
      by_cases c : j < k
      · simp [partT, c, show j < k + 1 by omega]
      · simp [partT, c, show ¬ j < k + 1 by omega]

def offT : Array Value := ((List.range 64).map fun _ : Nat => Value.bool false).toArray
theorem partT_zero (x : Int) : partT x 0 = offT := by simp [partT, offT]

/-- block g holds the cells cs, of bools, none frozen -/
def RowT (w : World) (g : Nat) (cs : Array Value) : Prop := w.heap[g]? = some (.cells cs 4 (0, 0))
abbrev noE : Array Value := #[.bool false, .bool false, .bool false, .bool false, .bool false, .bool false, .bool false, .int .u64 0]

theorem stillOf {P : Program} {f : FuncId} {args : Array Value} {w : World} {v : Value} (h : Calls P f args w fun e w' => e = .returned v ∧ w = w') : Calls P f args w fun e w' => e = .returned v ∧ w' = w :=
  h.mono fun _ _ ⟨he, hw⟩ => ⟨he, hw.symm⟩

theorem size_alloc (v : World) (o : Obj) : (v.alloc o).heap.size = v.heap.size + 1 := by simp

theorem alloc_old (w : World) (o : Obj) {i : Nat} (h : i < w.heap.size) : (w.alloc o).heap[i]? = w.heap[i]? := by
  show (w.heap.push o)[i]? = w.heap[i]?
  rw [Array.getElem?_push_lt h, Array.getElem?_eq_getElem h]

end Go.Proofs.YtlpjbmlkpmhdlaaDoor
