/- Several texts of ours in one: Id, Kg, L9g. -/
import Derived.Test.YtopmmlcjlopmaaaGreatDoorGIcIfHw
import Derived.Test.YtopmmlcjlopmaaaGreatDoorGHvHxKd
import Derived.Test.YtopmmlcjlopmaaaGreatDoorGRfSmHe
import Derived.Test.YtopmmlcjlopmaaaGreatDoorGBxKfSo
import Derived.Test.YtopmmlcjlopmaaaGreatDoorGGuKcKe
import Derived.Test.YtopmmlcjlopmaaaGreatDoorGL9fL9aIb
import Derived.Test.YtopmmlcjlopmaaaGreatDoorGL4cHrL9s
/- exact, of two paths that are the same; same, of a memory and the document's. (Laid by tools/gen_id.py.) -/
namespace Go.Proofs.YtopmmlcjlopmaaaGreatDoor
set_option linter.unusedVariables false
set_option linter.unusedSimpArgs false
open Go.ChangeShapes Go.WideShapes Go.ChangeAt Go.RowKit Go.Joins

theorem word_own {L : List (Int × Int)} (h : Ris L) {k : Nat} (hk : k < L.length) : wordL L (L.getD k (0, 0)).1 = (L.getD k (0, 0)).2 := by
  refine wordL_hit L _ k hk (fun j hj e => ?_) rfl
  have := List.pairwise_iff_getElem.1 h.up j k (by omega) hk hj
  simp [List.getD, List.getElem?_eq_getElem hk, List.getElem?_eq_getElem (show j < L.length by omega)] at e
  omega
theorem slot_own {L : List (Int × Int)} (h : Ris L) {k : Nat} (hk : k < L.length) : (L.getD k (0, 0)).1 % 8 = 0 ∧ 0 ≤ (L.getD k (0, 0)).1 :=
  h.al (L.getD k (0, 0)) (by simp [List.getD, List.getElem?_eq_getElem hk])

/-- what the region of same keeps -/
def RegM (w1 : World) (b : Nat) (M : Int) (vs vt : Value) (w' : World) : Prop := Blk w' b (docCells M vs vt) 45 ∧ Kept w1 w'
theorem regm_step {w1 : World} {b : Nat} {M : Int} {vs vt : Value} {w2 w3 : World} (h : RegM w1 b M vs vt w2) (hb : Below w2.heap.size w2 w3) : RegM w1 b M vs vt w3 := ⟨h.1.below hb, Kept.step hb h.2⟩

end Go.Proofs.YtopmmlcjlopmaaaGreatDoor
/- same of layer 9, of a memory and the document's. (Laid by tools/gen_kg.py.) -/
namespace Go.Proofs.YtopmmlcjlopmaaaGreatDoor
set_option linter.unusedVariables false
set_option linter.unusedSimpArgs false
open Go.ChangeShapes Go.WideShapes Go.ChangeAt Go.RowKit Go.Joins

set_option maxRecDepth 100000 in
set_option maxHeartbeats 3200000 in
theorem same9_any {w : World} {F : Nat → Prop} {m : Nat} {M : Int} {f : Int → Int} {tr : List Int} {n : Nat} {vs vt : Value} {L : List (Int × Int)} (h : Mem w F m M f tr n) (hd : Doc w M vs vt f tr L) (hl : L.length < 90000) (ht : tr.length < 90000) (hn : n < 1000000) :
    Calls Tryz.prog 15 #[.pointer (some ⟨m, 0, none⟩), .agg (docCells M vs vt)] w fun e w' => e = .returned (.bool true) ∧ Below w.heap.size w w' := by
  obtain ⟨A, c, A', c', rfl, rfl⟩ := hd.form
  have HM := Lib.hid h
  have HD := Lib.hid hd
  have HR : Hid (Blk (w.alloc (.cells (docCells M (.slice A L.length c) (.slice A' tr.length c')) 45)) w.heap.size (docCells M (.slice A L.length c) (.slice A' tr.length c')) 45 ∧ Below w.heap.size w (w.alloc (.cells (docCells M (.slice A L.length c) (.slice A' tr.length c')) 45))) := Lib.hid ⟨Blk.new _ _ _, below_alloc1 _ _⟩
  clear h hd
  go_enter Tryz.func15, Tryz.ntmps15
  go_wp2
  go_loopw [5] (fun i wr => ∃ k : Nat, k ≤ L.length ∧ i = .int .i64 k ∧ Blk wr w.heap.size (docCells M (.slice A L.length c) (.slice A' tr.length c')) 45 ∧ Below w.heap.size w wr) (fun i _ => (L.length - intOf i).toNat)
  case atStart => exact ⟨0, by omega, rfl, HR.out.1, HR.out.2⟩
  case round =>
    obtain ⟨k, hk, rfl, hX, hB⟩ := hrel
    clear HR
    have HX := Lib.hid hX
    have HB := Lib.hid hB
    clear hX hB
    obtain ⟨p0, p1, p2⟩ := HX.out.three
    by_cases hlt : k < L.length
    · obtain ⟨A1, c1, hv, hc⟩ := SlotsOwn.form (own_below HD.out.slots HB.out)
      obtain ⟨g, hA, d0, d1⟩ := hc k hlt
      obtain ⟨rfl, _⟩ : A = A1 ∧ True := by simp at hv; exact ⟨hv.1, trivial⟩
      subst hA
      have hs := slot_own HD.out.ris hlt
      have he : errS M (L.getD k (0, 0)).1 = 0 := HD.out.ins _ (by simp [List.getD, List.getElem?_eq_getElem hlt])
      have hsw : W64 (L.getD k (0, 0)).1 := by
        have h1 := (errS_in he).1
        have h2 := sizeM_bd HM.out.bits
        exact ⟨hs.2, by omega⟩
      have hpv : peekV M f (L.getD k (0, 0)).1 = (L.getD k (0, 0)).2 := by
        rw [show peekV M f (L.getD k (0, 0)).1 = f ((L.getD k (0, 0)).1 / 8) from if_pos he, HD.out.agree, aligned hs.1, word_own HD.out.ris hlt]
      have C := mpeek_any (HM.out.kept HB.out) (L.getD k (0, 0)).1 hsw
      rw [he, hpv] at C
      clear hv hc hs he hsw hpv
      generalize (L.getD k (0, 0)).1 = s at *
      generalize (L.getD k (0, 0)).2 = x at *
      go_wp2_with (first | (go_at_call 38; refine C.mono ?_; rintro e w' ⟨rfl, rfl⟩))
      go_roundw
      case rel => exact ⟨k + 1, by omega, by go_num, HX.out, HB.out⟩
      case measure => simp [intOf]; omega
    · have hle : L.length ≤ k := by omega
      have CT : ∀ w', Kept wr w' → Calls Tryz.prog 20 #[.pointer (some ⟨m, 0, none⟩)] w' fun e w'' => ∃ v', e = .returned v' ∧ w''.ownsRow w'.heap.size 23 1 v' tr.length (tr.map (Value.int .u64)) ∧ Below w'.heap.size w' w'' := fun w' hk => mtrace_any ((HM.out.kept HB.out).kept hk) hn
      have HWo := Lib.hid (own_below HD.out.words HB.out : WordsOwn wr (.slice A' tr.length c') tr)
      clear hk hlt
      go_upto_region 7 with fail
      have H0 : RegM wr w.heap.size M (.slice A L.length c) (.slice A' tr.length c') wr.drew := ⟨HX.out, Kept.drew0 _⟩
      clear HX p0 p1 p2
      refine wp_region_held_drew (S := RegM wr w.heap.size M (.slice A L.length c) (.slice A' tr.length c')) (by kernel_rfl) H0 (fun hHeld => ?_)
      clear H0
      generalize wr.drew = wd at *
      refine anyH_take (i := 0) (v := ?_) rfl (by kernel_rfl) (by kernel_rfl) (by kernel_rfl) (fun _ _ _ h => h) (by rfl) (by assumption) ?_ ?_
      rotate_left
      · intro w hSw
        go_simp
        (try with_reducible rfl)
      (try simp only [Act.put, List.setIfInBounds_toArray, List.set_cons_zero, List.set_cons_succ])
      refine anyH_take (i := 2) (v := ?_) rfl (by kernel_rfl) (by kernel_rfl) (by kernel_rfl) (fun _ _ _ h => h) (by rfl) (by assumption) ?_ ?_
      rotate_left
      · intro w hSw
        go_simp
        (try with_reducible rfl)
      (try simp only [Act.put, List.setIfInBounds_toArray, List.set_cons_zero, List.set_cons_succ])
      refine anyH_take (i := 3) (v := ?_) rfl (by kernel_rfl) (by kernel_rfl) (by kernel_rfl) (fun _ _ _ h => h) (by rfl) (by assumption) ?_ ?_
      rotate_left
      · intro w hSw
        obtain ⟨hA, hk9⟩ := hSw
        obtain ⟨b0, b1, b2⟩ := hA.three
        go_simp
        (try with_reducible rfl)
      (try simp only [Act.put, List.setIfInBounds_toArray, List.set_cons_zero, List.set_cons_succ])
      refine wpAnyH_ready (rs := [1]) (by kernel_rfl) (by simp) ?_
      refine anyH_one rfl (fun K hK => ?_) ?_
      · go_simp
        have hHeld0 := hHeld
        refine (CT _ hHeld.2).mono ?_
        rintro e w5 ⟨v5, rfl, hO, hb5⟩
        obtain ⟨A5, c5, rfl⟩ := own_len hO
        refine hK.out _ _ (regm_step hHeld hb5) (fun hHeld => ?_)
        clear hK K
        (try simp only [Act.put, List.setIfInBounds_toArray, List.set_cons_zero, List.set_cons_succ])
        refine wpAnyH_ready (rs := [4]) (by kernel_rfl) (by simp) ?_
        refine anyH_one rfl (fun K hK => ?_) ?_
        · go_simp
          refine (same_any _ _ _ tr (row_zero hO) (own_below (own_below HWo.out hHeld0.2) hb5) (by omega)).mono ?_
          rintro e w6 ⟨rfl, ny, rfl⟩
          refine hK.out _ _ (regm_step hHeld (drewN_below _ _)) (fun hHeld => ?_)
          clear hK K
          (try simp only [Act.put, List.setIfInBounds_toArray, List.set_cons_zero, List.set_cons_succ])
          refine wpAnyH_ready (rs := [5]) (by kernel_rfl) (by simp) ?_
          refine anyH_one rfl (fun K hK => ?_) ?_
          · go_simp
            refine hK.out _ _ hHeld (fun hHeld => ?_)
            clear hK K
            (try simp only [Act.put, List.setIfInBounds_toArray, List.set_cons_zero, List.set_cons_succ])
            refine wpAnyH_done (by kernel_rfl) ?_ _
            have HE := Lib.hid (HB.out.trans (Below.mono hHeld.2 HB.out.size))
            clear hHeld
            go_wp2
            go_ret
            exact ⟨rfl, HE.out⟩
          exact AllReadyH.nil
        exact AllReadyH.nil
      exact AllReadyH.nil
end Go.Proofs.YtopmmlcjlopmaaaGreatDoor
/- The walk of RefwalkGoes. (Laid by tools/gen_l9.py.) -/
namespace Go.Proofs.YtopmmlcjlopmaaaGreatDoor
set_option linter.unusedVariables false
set_option linter.unusedSimpArgs false
open Go.ChangeShapes Go.WideShapes Go.ChangeAt Go.RowKit Go.Joins

/-- what the document's Translate answers in the law -/
def DAns (w : World) (X : Ans) (P : Pth) (g : Int → Int) (T : List Int) (e : Ending) (w' : World) : Prop :=
  ∃ v vs' vt' L', e = .returned (.tuple #[.agg (docCells 16 vs' vt'), .agg (ansCells X), .agg (pathCells v P)]) ∧ Doc w' 16 vs' vt' g T L' ∧ L'.length ≤ 200 ∧ StepsOwn 97 w' w.heap.size v P.steps ∧ Below w.heap.size w w'
/-- what the law needs of either way behind the program's own call -/
def DocT (f : Int → Int) (u : Usx) (a : Int) (X : Ans) (P : Pth) (g : Int → Int) (T : List Int) : Prop :=
  ∀ (w' : World) (vs : Value) (L : List (Int × Int)), Doc w' 16 vs (.slice none 0 0) f [] L → L.length ≤ 100 → Calls Tryz.prog 10 #[.agg (docCells 16 vs (.slice none 0 0)), useV u, .int .u64 a] w' (DAns w' X P g T)
def AnsC (w : World) (pa : Int) (ev : Value) (X : Ans) : Prop :=
  ∀ w', Below w.heap.size w w' → Calls Tryz.prog 12 #[.int .u64 pa, ev] w' fun e w'' => e = .returned (.agg (ansCells X)) ∧ Below w'.heap.size w' w''

theorem docT_gp {f : Int → Int} {u : Usx} {a : Int} (ha : W64 a) (hc : canonF a = false) : DocT f u a ⟨0, 5, 0, 0⟩ (offP 0) f [] := fun w' vs L hD hL => by
  refine (rtrans_gp hD u a ha hc).mono ?_
  rintro e w'' ⟨rfl, hD2, hB⟩
  exact ⟨.slice none 0 0, _, _, L, rfl, hD2, by omega, StepsOwn.nil _ _ _, hB⟩
theorem docT_any {f : Int → Int} {u : Usx} {a : Int} (hwd : ∀ j, W64 (f j)) (hr : W64 u.root) (ha : W64 a) (hc : canonF a = true) (P : Pth) (hP : walkZ 16 f a u.nxe 4 (tableF u.root) true true true = P) : DocT f u a (jans P u a) P (outF 16 f P u) ([] ++ slotsP P.steps) := fun w' vs L hD hL => by
  have hf := walk_four f hwd a u.nxe (tableF u.root) true true true P hP
  refine (rtrans_any hD ⟨by decide, by decide⟩ (by omega) (by simp) hwd u a hr ha hc P hP hf.2.1 fun k hk => (hf.2.2 k hk).1).mono ?_
  rintro e w'' ⟨v, vs', vt', L', rfl, hD2, hL2, hS, _, hB⟩
  exact ⟨v, vs', vt', L', rfl, hD2, by have := hf.2.1; omega, hS, hB⟩

set_option maxRecDepth 100000 in
set_option maxHeartbeats 3200000 in
theorem refwalkGoes_walk (A : Option Addr) (c : Nat) (ds : List (Int × Int × Int × Int)) (u : Usx) (a : Int) (w : World) (hs : Shifts w) (hg : ErrT w) (hl : ds.length ≤ maxLen) (hd : PutsIn w A ds) (hok : PutsOk ds) (hr : W64 u.root) (ha : W64 a) :
    Calls Tryz.prog 3 #[.slice A ds.length c, useV u, .int .u64 a] w fun e w' => e = .returned (.bool true) ∧ Below w.heap.size w w' := by
  have HS := Lib.hid hs
  have HE := Lib.hid hg
  have hz := size_shifts hs
  obtain ⟨f, hf⟩ : ∃ f, putSt ds (mostP ds) = f := ⟨_, rfl⟩
  have HB := Lib.hid (fun w1 (hb : Below w.heap.size w w1) => built_any w1 A c ds hl (puts_below hd hb) hok)
  rw [hf] at HB
  have HC := Lib.hid (fun w1 (hb : Below w.heap.size w w1) => rbuilt_any w1 A c ds hl (puts_below hd hb) hok)
  rw [hf] at HC
  have H0 := Lib.hid ((Mine.start w).new (b := w.heap.size) rfl (useCells u) 29)
  clear hs hg hd hok hl hf
  go_enter Tryz.func3, Tryz.ntmps3
  go_upto_region 1 with fail
  generalize hw0 : w.alloc _ = w0
  have H1 := Lib.hid (H0.out.world hw0)
  clear hw0 H0
  go_upto_region 5 with (first | (go_at_call 7; refine (awake9_any _ (shifts_under HS.out H1.out.below hz) (errT_keep HE.out H1.out.below)).mono ?_; rintro e w1 ⟨rfl, hB1⟩; have H2 := Lib.hid (H1.out.quiet hB1); clear hB1 H1) | (go_at_call 8; ((with_reducible refine (HB.out _ H2.out.below).mono ?_)); rintro e w2 ⟨rfl, hM2, hB2⟩; have H3 := Lib.hid (Law.start H2.out hM2 hB2); clear hM2 hB2 H2 HB))
  obtain ⟨m, hm⟩ : ∃ m, w1.heap.size + 1 = m := ⟨_, rfl⟩
  obtain ⟨G, hG⟩ : ∃ G : Nat → Prop, (fun i => From w1.heap.size i ∧ i < w2.heap.size) = G := ⟨_, rfl⟩
  rw [hm, hG] at H3
  rw [hm]
  clear hm hG
  have HWd := Lib.hid H3.out.wk.mem.words
  go_cut [9, 10, 11] from 20 (fun s9 s10 s11 wc => ∃ (pa : Int) (ev : Value) (X : Ans) (P : Pth) (g : Int → Int) (T : List Int) (n N : Nat) (G : Nat → Prop) (pb : Nat) (A5 : Option Addr) (c5 : Nat), s9 = .int .u64 pa ∧ s10 = .pointer (some ⟨pb, 0, none⟩) ∧ s11 = ev ∧ N ≤ 4 ∧ T.length ≤ 4 ∧ n < 1000 ∧ Hid (P.steps.length = N) ∧ Hid (∀ k, k < P.steps.length → W64 (stepAt P.steps k).2.2) ∧ Hid (AnsC wc pa ev X) ∧ Hid (DocT f u a X P g T) ∧ Hid (Law w wc m g T n G [⟨pb, pathCells (.slice A5 N c5) P, 37⟩, ⟨w.heap.size, useCells u, 29⟩] [⟨99, 3, .slice A5 N c5, P.steps.length, stepCells P.steps⟩]))
  case first =>
    have HS3 := Lib.hid (shifts_under HS.out H3.out.below hz)
    obtain ⟨q0, q1, q2, q3, q4, q5, q6, q7⟩ := (H3.out.at_ 0 rfl).eight
    rcases canon_cases a with hc | hc
    · have CT := fun w' => trans_gp (w := w') (.pointer (some ⟨m, 0, none⟩)) u a ha hc
      have HT := Lib.hid (docT_gp (f := f) (u := u) ha hc)
      go_wp2_with (first | (go_at_call 9; refine (CT _).mono ?_; rintro e w4 ⟨g, rfl, hN, hB4⟩; have H5 := Lib.hid (H3.out.quiet hB4); have HN := Lib.hid hN; clear hB4 H3 hN))
      generalize hw5 : w4.alloc _ = w5
      have H6 := Lib.hid (((H5.out.new (b := w4.heap.size) rfl _ _).world hw5).got (v := .slice none 0 0) (e := 99) (sz := 3) (k := 0) (xs := []) (World.ownsRow_nil w5 0 _ _) (by simp [Value.ownBlock]))
      have HN6 := Lib.hid (num_keep HN.out (show Kept w4 w5 by rw [← hw5]; exact below_alloc1 _ _))
      go_meet
      case rel => exact ⟨0, _, ⟨0, 5, 0, 0⟩, offP 0, f, [], 100, 0, G, w4.heap.size, none, 0, rfl, rfl, rfl, by omega, by simp, by omega, Lib.hid rfl, Lib.hid (fun k hk => absurd hk (by simp [offP])), Lib.hid (fun w' hb => answer_num 0 1 _ _ 5 w' (errT_keep HE.out (H6.out.below.trans (hb.mono H6.out.size))) (num_keep HN6.out hb)), HT, H6⟩
    · obtain ⟨P, hP⟩ : ∃ P, walkZ 16 f a u.nxe 4 (tableF u.root) true true true = P := ⟨_, rfl⟩
      have HW := Lib.hid (walk_four f HWd.out a u.nxe (tableF u.root) true true true P hP)
      have HT := docT_any HWd.out hr ha hc P hP
      obtain ⟨T4, hT4⟩ : ∃ T4, [] ++ slotsP P.steps = T4 := ⟨_, rfl⟩
      obtain ⟨N, hN⟩ : ∃ N, P.steps.length = N := ⟨_, rfl⟩
      have hTl : T4.length ≤ 4 := by rw [← hT4]; simp [slotsP]; exact HW.out.2.1
      have hN4 : N ≤ 4 := by rw [← hN]; exact HW.out.2.1
      have HNN := Lib.hid hN
      cases hm : jmay P u
      · have CT := trans_no H3.out.wk.mem (by decide) (H3.out.wk.no0 hz) HS3.out u a hr ha hc P hP hm
        have ho : outF 16 f P u = f := by unfold outF; rw [hm]; rfl
        rw [jans_no a hm, ho, hT4] at HT
        rw [hT4] at CT
        have HTT := Lib.hid HT
        obtain ⟨code, hcode⟩ : ∃ code, jcode P u = code := ⟨_, rfl⟩
        rw [hcode] at CT HTT
        clear HT ho hP hm hc hT4 hcode hN
        go_wp2_with (first | (go_at_call 9; refine CT.mono ?_; rintro e w4 ⟨v, G4, g, rfl, hPg, hT⟩; obtain ⟨A5, c5, hv⟩ := hT.own.form; rw [HNN.out] at hv; subst hv; have H5 := Lib.hid (H3.out.stepGot hT.wk hT.own hT.nv); have HP5 := Lib.hid hPg; clear hT H3 CT hPg))
        generalize hw5 : w4.alloc _ = w5
        have H6 := Lib.hid ((H5.out.new (b := w4.heap.size) rfl _ _).world hw5)
        have HP6 := Lib.hid (page_keep HP5.out (show Kept w4 w5 by rw [← hw5]; exact below_alloc1 _ _))
        go_meet
        case rel => exact ⟨0, _, ⟨0, 4, a, code⟩, P, f, T4, 105, N, G4, w4.heap.size, A5, c5, rfl, rfl, rfl, hN4, hTl, by omega, HNN, Lib.hid (fun k hk => (HW.out.2.2 k hk).2), Lib.hid (fun w' hb => answer_page 0 0 _ _ a code w' (errT_keep HE.out (H6.out.below.trans (hb.mono H6.out.size))) (page_keep HP6.out hb)), HTT, H6⟩
      · have CT := trans_yes H3.out.wk.mem (by decide) (H3.out.wk.no0 hz) HS3.out u a hr ha hc P hP hm
        obtain ⟨g, hg⟩ : ∃ g, markN 16 f P.steps (u.k == 2) P.steps.length = g := ⟨_, rfl⟩
        have ho : outF 16 f P u = g := by unfold outF; rw [hm, if_pos rfl, hg]
        rw [jans_yes a hm, ho, hT4] at HT
        rw [hT4, hg, hN] at CT
        have HTT := Lib.hid HT
        obtain ⟨pa, hpa⟩ : ∃ pa, jpa P a = pa := ⟨_, rfl⟩
        rw [hpa] at CT HTT
        clear HT ho hP hm hc hT4 hpa hg hN
        go_wp2_with (first | (go_at_call 9; refine CT.mono ?_; rintro e w4 ⟨v, G4, rfl, hT⟩; obtain ⟨A5, c5, hv⟩ := hT.own.form; rw [HNN.out] at hv; subst hv; have H5 := Lib.hid (H3.out.stepGot hT.wk hT.own hT.nv); clear hT H3 CT))
        generalize hw5 : w4.alloc _ = w5
        have H6 := Lib.hid ((H5.out.new (b := w4.heap.size) rfl _ _).world hw5)
        go_meet
        case rel => exact ⟨pa, _, ⟨pa, 0, 0, 0⟩, P, g, T4, 105 + N, N, G4, w4.heap.size, A5, c5, rfl, rfl, rfl, hN4, hTl, by omega, HNN, Lib.hid (fun k hk => (HW.out.2.2 k hk).2), Lib.hid (fun w' _ => answer_nil pa w'), HTT, H6⟩
  case rest =>
    obtain ⟨pa, ev, X, P, g, T, n, N, G1, pb, A5, c5, rfl, rfl, rfl, hN4, hTl, hn, HNN, HWw, HA, HT, H0⟩ := hcut
    clear H3 HWd
    unfold DocT DAns at HT
    go_upto_region 6 with fail
    go_cut [12, 13, 14] from 28 (fun s12 s13 s14 w2 => ∃ (z9 z10 z11 : Nat) (A7 A8 A9 : Option Addr) (c7 c8 c9 : Nat) (L2 : List (Int × Int)), s12 = .pointer (some ⟨z9, 0, none⟩) ∧ s13 = .pointer (some ⟨z10, 0, none⟩) ∧ s14 = .pointer (some ⟨z11, 0, none⟩) ∧ Hid (Law w w2 m g T n G1 [⟨z11, pathCells (.slice A7 N c7) P, 51⟩, ⟨z10, ansCells X, 47⟩, ⟨z9, docCells 16 (.slice A8 L2.length c8) (.slice A9 T.length c9), 45⟩, ⟨pb, pathCells (.slice A5 N c5) P, 37⟩, ⟨w.heap.size, useCells u, 29⟩] [⟨97, 3, .slice A7 N c7, P.steps.length, stepCells P.steps⟩, ⟨99, 3, .slice A5 N c5, P.steps.length, stepCells P.steps⟩]) ∧ Hid (Doc w2 16 (.slice A8 L2.length c8) (.slice A9 T.length c9) g T L2) ∧ Hid (L2.length ≤ 200) ∧ Hid (Grow wc w2))
    case first =>
      refine wp_region_held_drew (S := fun w' => Law w w' m g T n G1 _ _) (by kernel_rfl) ((H0.out.quiet (Kept.drew0 wc)).pick [1] []) (fun hHeld => ?_)
      have H1 := Lib.hid (H0.out.quiet (Kept.drew0 wc))
      have FB_1 : Hid (Grow wc wc.drew) := Lib.hid ⟨Kept.drew0 wc⟩
      clear H0
      generalize wc.drew = w1 at *
      revert FB_1
      revert H1
      revert hHeld
      revert w1
      refine' share ?t26 (fun key26 => ?main26)
      case' main26 => refine' share ?t25 (fun key25 => ?main25)
      case' main25 => refine' share ?t24 (fun key24 => ?main24)
      case' main24 => refine' share ?t23 (fun key23 => ?main23)
      case' main23 => refine' share ?t22 (fun key22 => ?main22)
      case' main22 => refine' share ?t21 (fun key21 => ?main21)
      case' main21 => refine' share ?t20 (fun key20 => ?main20)
      case' main20 => refine' share ?t19 (fun key19 => ?main19)
      case' main19 => refine' share ?t18 (fun key18 => ?main18)
      case' main18 => refine' share ?t17 (fun key17 => ?main17)
      case' main17 => refine' share ?t16 (fun key16 => ?main16)
      case' main16 => refine' share ?t15 (fun key15 => ?main15)
      case' main15 => refine' share ?t14 (fun key14 => ?main14)
      case' main14 => refine' share ?t13 (fun key13 => ?main13)
      case' main13 => refine' share ?t12 (fun key12 => ?main12)
      case' main12 => refine' share ?t11 (fun key11 => ?main11)
      case' main11 => refine' share ?t10 (fun key10 => ?main10)
      case' main10 => refine' share ?t9 (fun key9 => ?main9)
      case' main9 => refine' share ?t8 (fun key8 => ?main8)
      case' main8 => refine' share ?t7 (fun key7 => ?main7)
      case' main7 => refine' share ?t6 (fun key6 => ?main6)
      case' main6 => refine' share ?t5 (fun key5 => ?main5)
      case' main5 => refine' share ?t4 (fun key4 => ?main4)
      case' main4 => refine' share ?t3 (fun key3 => ?main3)
      case' main3 => refine' share ?t2 (fun key2 => ?main2)
      case' main2 => refine' share ?t1 (fun key1 => ?main1)
      case main1 =>
        intro w1 hHeld H1 FB_1
        refine tk (v := ?_) 0 ?_ ?_
        rotate_left
        · intro w hSw
          go_simp
          (try with_reducible rfl)
        (try simp only [Act.put, List.setIfInBounds_toArray, List.set_cons_zero, List.set_cons_succ])
        refine tk (v := ?_) 2 ?_ ?_
        rotate_left
        · intro w hSw
          obtain ⟨q0, q1, q2, q3, q4, q5, q6, q7⟩ := (hSw.at_ 0 rfl).eight
          go_simp
          (try with_reducible rfl)
        (try simp only [Act.put, List.setIfInBounds_toArray, List.set_cons_zero, List.set_cons_succ])
        refine tk (v := ?_) 3 ?_ ?_
        rotate_left
        · intro w hSw
          go_simp
          (try with_reducible rfl)
        (try simp only [Act.put, List.setIfInBounds_toArray, List.set_cons_zero, List.set_cons_succ])
        refine wpAnyH_ready (rs := [1, 9, 10, 11]) (by kernel_rfl) (by simp) ?_
        refine anyH_one rfl (fun K hK => ?_) ?_
        · go_simp
          refine (HC.out _ H1.out.below).mono ?_
          rintro e w2 ⟨vs, L, rfl, hD, hL, -, hB2⟩
          obtain ⟨A6, c6, _, _, rfl, _⟩ := Doc.form hD
          have H2 := Lib.hid (H1.out.quiet hB2)
          have FB_2 := Lib.hid (FB_1.out.quiet hB2)
          clear H1 FB_1
          have FD_2 := Lib.hid hD
          have HLL := Lib.hid hL
          clear hD hL
          refine hK.out _ _ (H2.out.pick [1] []) (fun hHeld => ?_)
          clear hK K
          (try simp only [Act.put, List.setIfInBounds_toArray, List.set_cons_zero, List.set_cons_succ])
          have HX : Hid (Law w w2 m g T n G1 [⟨pb, pathCells (.slice A5 N c5) P, 37⟩, ⟨w.heap.size, useCells u, 29⟩] [⟨99, 3, .slice A5 N c5, P.steps.length, stepCells P.steps⟩]) := Lib.hid (H2.out.pick [0, 1] [0])
          try clear hB2
          revert HLL
          revert FD_2
          revert FB_2
          revert HX
          revert hHeld
          clear H2
          revert L
          revert c6
          revert A6
          revert w2
          exact key1
        refine anyH_one rfl (fun K hK => ?_) ?_
        · go_simp
          have HZz9 := Lib.hid FB_1.out.h.size
          generalize hq2 : w1.alloc _ = w2
          have hB2 : Below w1.heap.size w1 w2 := by rw [← hq2]; exact below_alloc1 _ _
          have H2 := Lib.hid ((H1.out.new (b := w1.heap.size) rfl _ _).world hq2)
          have FB_2 := Lib.hid (FB_1.out.quiet hB2)
          clear H1 hq2 hB2 FB_1
          generalize w1.heap.size = z9 at HZz9 H2 ⊢
          refine hK.out _ _ (H2.out.pick [2] []) (fun hHeld => ?_)
          clear hK K
          (try simp only [Act.put, List.setIfInBounds_toArray, List.set_cons_zero, List.set_cons_succ])
          have HX : Hid (Law w w2 m g T n G1 [⟨z9, zeroMem, 45⟩, ⟨pb, pathCells (.slice A5 N c5) P, 37⟩, ⟨w.heap.size, useCells u, 29⟩] [⟨99, 3, .slice A5 N c5, P.steps.length, stepCells P.steps⟩]) := Lib.hid (H2.out.pick [0, 1, 2] [0])
          try clear hB2
          revert HZz9
          revert FB_2
          revert HX
          revert hHeld
          clear H2
          revert z9
          revert w2
          exact key2
        refine anyH_one rfl (fun K hK => ?_) ?_
        · go_simp
          have HZz10 := Lib.hid FB_1.out.h.size
          generalize hq2 : w1.alloc _ = w2
          have hB2 : Below w1.heap.size w1 w2 := by rw [← hq2]; exact below_alloc1 _ _
          have H2 := Lib.hid ((H1.out.new (b := w1.heap.size) rfl _ _).world hq2)
          have FB_2 := Lib.hid (FB_1.out.quiet hB2)
          clear H1 hq2 hB2 FB_1
          generalize w1.heap.size = z10 at HZz10 H2 ⊢
          refine hK.out _ _ (H2.out.pick [2] []) (fun hHeld => ?_)
          clear hK K
          (try simp only [Act.put, List.setIfInBounds_toArray, List.set_cons_zero, List.set_cons_succ])
          have HX : Hid (Law w w2 m g T n G1 [⟨z10, ansCells ans0, 47⟩, ⟨pb, pathCells (.slice A5 N c5) P, 37⟩, ⟨w.heap.size, useCells u, 29⟩] [⟨99, 3, .slice A5 N c5, P.steps.length, stepCells P.steps⟩]) := Lib.hid (H2.out.pick [0, 1, 2] [0])
          try clear hB2
          revert HZz10
          revert FB_2
          revert HX
          revert hHeld
          clear H2
          revert z10
          revert w2
          exact key3
        refine anyH_one rfl (fun K hK => ?_) ?_
        · go_simp
          have HZz11 := Lib.hid FB_1.out.h.size
          generalize hq2 : w1.alloc _ = w2
          have hB2 : Below w1.heap.size w1 w2 := by rw [← hq2]; exact below_alloc1 _ _
          have H2 := Lib.hid ((H1.out.new (b := w1.heap.size) rfl _ _).world hq2)
          have FB_2 := Lib.hid (FB_1.out.quiet hB2)
          clear H1 hq2 hB2 FB_1
          generalize w1.heap.size = z11 at HZz11 H2 ⊢
          refine hK.out _ _ (H2.out.pick [2] []) (fun hHeld => ?_)
          clear hK K
          (try simp only [Act.put, List.setIfInBounds_toArray, List.set_cons_zero, List.set_cons_succ])
          have HX : Hid (Law w w2 m g T n G1 [⟨z11, zeroRP, 51⟩, ⟨pb, pathCells (.slice A5 N c5) P, 37⟩, ⟨w.heap.size, useCells u, 29⟩] [⟨99, 3, .slice A5 N c5, P.steps.length, stepCells P.steps⟩]) := Lib.hid (H2.out.pick [0, 1, 2] [0])
          try clear hB2
          revert HZz11
          revert FB_2
          revert HX
          revert hHeld
          clear H2
          revert z11
          revert w2
          exact key4
        exact AllReadyH.nil
      case t1 =>
        intro w1 A6 c6 L hHeld H1 FB_1 FD_1 HLL
        refine wpAnyH_ready (rs := [4, 9, 10, 11]) (by kernel_rfl) (by simp) ?_
        refine anyH_one rfl (fun K hK => ?_) ?_
        · go_simp
          refine (HT.out _ _ _ FD_1.out HLL.out).mono ?_
          rintro e w2 ⟨v2, vs2, vt2, L2, rfl, hD, hL2, hS, hB2⟩
          obtain ⟨A7, c7, hv⟩ := StepsOwn.form hS
          rw [HNN.out] at hv
          subst hv
          obtain ⟨A8, c8, A9, c9, rfl, rfl⟩ := Doc.form hD
          have FB_2 := Lib.hid (FB_1.out.quiet hB2)
          clear FB_1
          have H2 := Lib.hid (H1.out.made hB2 hS (Nat.le_refl _))
          have FD_2 := Lib.hid hD
          have HL2 := Lib.hid hL2
          clear hD hL2 hS hB2 H1 FD_1
          refine hK.out _ _ (H2.out.pick [1] []) (fun hHeld => ?_)
          clear hK K
          (try simp only [Act.put, List.setIfInBounds_toArray, List.set_cons_zero, List.set_cons_succ])
          refine tk (v := ?_) 5 ?_ ?_
          rotate_left
          · intro w hSw
            go_simp
            (try with_reducible rfl)
          (try simp only [Act.put, List.setIfInBounds_toArray, List.set_cons_zero, List.set_cons_succ])
          refine tk (v := ?_) 6 ?_ ?_
          rotate_left
          · intro w hSw
            go_simp
            (try with_reducible rfl)
          (try simp only [Act.put, List.setIfInBounds_toArray, List.set_cons_zero, List.set_cons_succ])
          refine tk (v := ?_) 7 ?_ ?_
          rotate_left
          · intro w hSw
            go_simp
            (try with_reducible rfl)
          (try simp only [Act.put, List.setIfInBounds_toArray, List.set_cons_zero, List.set_cons_succ])
          refine tk (v := ?_) 8 ?_ ?_
          rotate_left
          · intro w hSw
            go_simp
            (try with_reducible rfl)
          (try simp only [Act.put, List.setIfInBounds_toArray, List.set_cons_zero, List.set_cons_succ])
          have HX : Hid (Law w w2 m g T n G1 [⟨pb, pathCells (.slice A5 N c5) P, 37⟩, ⟨w.heap.size, useCells u, 29⟩] [⟨97, 3, .slice A7 N c7, P.steps.length, stepCells P.steps⟩, ⟨99, 3, .slice A5 N c5, P.steps.length, stepCells P.steps⟩]) := Lib.hid (H2.out.pick [0, 1] [0, 1])
          try clear hB2
          revert HL2
          revert HLL
          revert FD_2
          revert FB_2
          revert HX
          revert hHeld
          clear H2
          revert c9
          revert A9
          revert c8
          revert A8
          revert L2
          revert c7
          revert A7
          revert L
          revert c6
          revert A6
          revert w2
          exact key5
        refine anyH_one rfl (fun K hK => ?_) ?_
        · go_simp
          have HZz9 := Lib.hid FB_1.out.h.size
          generalize hq2 : w1.alloc _ = w2
          have hB2 : Below w1.heap.size w1 w2 := by rw [← hq2]; exact below_alloc1 _ _
          have H2 := Lib.hid ((H1.out.new (b := w1.heap.size) rfl _ _).world hq2)
          have FB_2 := Lib.hid (FB_1.out.quiet hB2)
          have FD_2 := Lib.hid (FD_1.out.quiet hB2)
          clear H1 hq2 hB2 FB_1 FD_1
          generalize w1.heap.size = z9 at HZz9 H2 ⊢
          refine hK.out _ _ (H2.out.pick [2] []) (fun hHeld => ?_)
          clear hK K
          (try simp only [Act.put, List.setIfInBounds_toArray, List.set_cons_zero, List.set_cons_succ])
          have HX : Hid (Law w w2 m g T n G1 [⟨z9, zeroMem, 45⟩, ⟨pb, pathCells (.slice A5 N c5) P, 37⟩, ⟨w.heap.size, useCells u, 29⟩] [⟨99, 3, .slice A5 N c5, P.steps.length, stepCells P.steps⟩]) := Lib.hid (H2.out.pick [0, 1, 2] [0])
          try clear hB2
          revert HZz9
          revert HLL
          revert FD_2
          revert FB_2
          revert HX
          revert hHeld
          clear H2
          revert z9
          revert L
          revert c6
          revert A6
          revert w2
          exact key6
        refine anyH_one rfl (fun K hK => ?_) ?_
        · go_simp
          have HZz10 := Lib.hid FB_1.out.h.size
          generalize hq2 : w1.alloc _ = w2
          have hB2 : Below w1.heap.size w1 w2 := by rw [← hq2]; exact below_alloc1 _ _
          have H2 := Lib.hid ((H1.out.new (b := w1.heap.size) rfl _ _).world hq2)
          have FB_2 := Lib.hid (FB_1.out.quiet hB2)
          have FD_2 := Lib.hid (FD_1.out.quiet hB2)
          clear H1 hq2 hB2 FB_1 FD_1
          generalize w1.heap.size = z10 at HZz10 H2 ⊢
          refine hK.out _ _ (H2.out.pick [2] []) (fun hHeld => ?_)
          clear hK K
          (try simp only [Act.put, List.setIfInBounds_toArray, List.set_cons_zero, List.set_cons_succ])
          have HX : Hid (Law w w2 m g T n G1 [⟨z10, ansCells ans0, 47⟩, ⟨pb, pathCells (.slice A5 N c5) P, 37⟩, ⟨w.heap.size, useCells u, 29⟩] [⟨99, 3, .slice A5 N c5, P.steps.length, stepCells P.steps⟩]) := Lib.hid (H2.out.pick [0, 1, 2] [0])
          try clear hB2
          revert HZz10
          revert HLL
          revert FD_2
          revert FB_2
          revert HX
          revert hHeld
          clear H2
          revert z10
          revert L
          revert c6
          revert A6
          revert w2
          exact key7
        refine anyH_one rfl (fun K hK => ?_) ?_
        · go_simp
          have HZz11 := Lib.hid FB_1.out.h.size
          generalize hq2 : w1.alloc _ = w2
          have hB2 : Below w1.heap.size w1 w2 := by rw [← hq2]; exact below_alloc1 _ _
          have H2 := Lib.hid ((H1.out.new (b := w1.heap.size) rfl _ _).world hq2)
          have FB_2 := Lib.hid (FB_1.out.quiet hB2)
          have FD_2 := Lib.hid (FD_1.out.quiet hB2)
          clear H1 hq2 hB2 FB_1 FD_1
          generalize w1.heap.size = z11 at HZz11 H2 ⊢
          refine hK.out _ _ (H2.out.pick [2] []) (fun hHeld => ?_)
          clear hK K
          (try simp only [Act.put, List.setIfInBounds_toArray, List.set_cons_zero, List.set_cons_succ])
          have HX : Hid (Law w w2 m g T n G1 [⟨z11, zeroRP, 51⟩, ⟨pb, pathCells (.slice A5 N c5) P, 37⟩, ⟨w.heap.size, useCells u, 29⟩] [⟨99, 3, .slice A5 N c5, P.steps.length, stepCells P.steps⟩]) := Lib.hid (H2.out.pick [0, 1, 2] [0])
          try clear hB2
          revert HZz11
          revert HLL
          revert FD_2
          revert FB_2
          revert HX
          revert hHeld
          clear H2
          revert z11
          revert L
          revert c6
          revert A6
          revert w2
          exact key8
        exact AllReadyH.nil
      case t2 =>
        intro w1 z9 hHeld H1 FB_1 HZz9
        refine wpAnyH_ready (rs := [1, 10, 11]) (by kernel_rfl) (by simp) ?_
        refine anyH_one rfl (fun K hK => ?_) ?_
        · go_simp
          refine (HC.out _ H1.out.below).mono ?_
          rintro e w2 ⟨vs, L, rfl, hD, hL, -, hB2⟩
          obtain ⟨A6, c6, _, _, rfl, _⟩ := Doc.form hD
          have H2 := Lib.hid (H1.out.quiet hB2)
          have FB_2 := Lib.hid (FB_1.out.quiet hB2)
          clear H1 FB_1
          have FD_2 := Lib.hid hD
          have HLL := Lib.hid hL
          clear hD hL
          refine hK.out _ _ (H2.out.pick [2] []) (fun hHeld => ?_)
          clear hK K
          (try simp only [Act.put, List.setIfInBounds_toArray, List.set_cons_zero, List.set_cons_succ])
          have HX : Hid (Law w w2 m g T n G1 [⟨z9, zeroMem, 45⟩, ⟨pb, pathCells (.slice A5 N c5) P, 37⟩, ⟨w.heap.size, useCells u, 29⟩] [⟨99, 3, .slice A5 N c5, P.steps.length, stepCells P.steps⟩]) := Lib.hid (H2.out.pick [0, 1, 2] [0])
          try clear hB2
          revert HZz9
          revert HLL
          revert FD_2
          revert FB_2
          revert HX
          revert hHeld
          clear H2
          revert z9
          revert L
          revert c6
          revert A6
          revert w2
          exact key6
        refine anyH_one rfl (fun K hK => ?_) ?_
        · go_simp
          have HZz10 := Lib.hid FB_1.out.h.size
          generalize hq2 : w1.alloc _ = w2
          have hB2 : Below w1.heap.size w1 w2 := by rw [← hq2]; exact below_alloc1 _ _
          have H2 := Lib.hid ((H1.out.new (b := w1.heap.size) rfl _ _).world hq2)
          have FB_2 := Lib.hid (FB_1.out.quiet hB2)
          clear H1 hq2 hB2 FB_1
          generalize w1.heap.size = z10 at HZz10 H2 ⊢
          refine hK.out _ _ (H2.out.pick [3] []) (fun hHeld => ?_)
          clear hK K
          (try simp only [Act.put, List.setIfInBounds_toArray, List.set_cons_zero, List.set_cons_succ])
          have HX : Hid (Law w w2 m g T n G1 [⟨z10, ansCells ans0, 47⟩, ⟨z9, zeroMem, 45⟩, ⟨pb, pathCells (.slice A5 N c5) P, 37⟩, ⟨w.heap.size, useCells u, 29⟩] [⟨99, 3, .slice A5 N c5, P.steps.length, stepCells P.steps⟩]) := Lib.hid (H2.out.pick [0, 1, 2, 3] [0])
          try clear hB2
          revert HZz10
          revert HZz9
          revert FB_2
          revert HX
          revert hHeld
          clear H2
          revert z10
          revert z9
          revert w2
          exact key9
        refine anyH_one rfl (fun K hK => ?_) ?_
        · go_simp
          have HZz11 := Lib.hid FB_1.out.h.size
          generalize hq2 : w1.alloc _ = w2
          have hB2 : Below w1.heap.size w1 w2 := by rw [← hq2]; exact below_alloc1 _ _
          have H2 := Lib.hid ((H1.out.new (b := w1.heap.size) rfl _ _).world hq2)
          have FB_2 := Lib.hid (FB_1.out.quiet hB2)
          clear H1 hq2 hB2 FB_1
          generalize w1.heap.size = z11 at HZz11 H2 ⊢
          refine hK.out _ _ (H2.out.pick [3] []) (fun hHeld => ?_)
          clear hK K
          (try simp only [Act.put, List.setIfInBounds_toArray, List.set_cons_zero, List.set_cons_succ])
          have HX : Hid (Law w w2 m g T n G1 [⟨z11, zeroRP, 51⟩, ⟨z9, zeroMem, 45⟩, ⟨pb, pathCells (.slice A5 N c5) P, 37⟩, ⟨w.heap.size, useCells u, 29⟩] [⟨99, 3, .slice A5 N c5, P.steps.length, stepCells P.steps⟩]) := Lib.hid (H2.out.pick [0, 1, 2, 3] [0])
          try clear hB2
          revert HZz11
          revert HZz9
          revert FB_2
          revert HX
          revert hHeld
          clear H2
          revert z11
          revert z9
          revert w2
          exact key10
        exact AllReadyH.nil
      case t3 =>
        intro w1 z10 hHeld H1 FB_1 HZz10
        refine wpAnyH_ready (rs := [1, 9, 11]) (by kernel_rfl) (by simp) ?_
        refine anyH_one rfl (fun K hK => ?_) ?_
        · go_simp
          refine (HC.out _ H1.out.below).mono ?_
          rintro e w2 ⟨vs, L, rfl, hD, hL, -, hB2⟩
          obtain ⟨A6, c6, _, _, rfl, _⟩ := Doc.form hD
          have H2 := Lib.hid (H1.out.quiet hB2)
          have FB_2 := Lib.hid (FB_1.out.quiet hB2)
          clear H1 FB_1
          have FD_2 := Lib.hid hD
          have HLL := Lib.hid hL
          clear hD hL
          refine hK.out _ _ (H2.out.pick [2] []) (fun hHeld => ?_)
          clear hK K
          (try simp only [Act.put, List.setIfInBounds_toArray, List.set_cons_zero, List.set_cons_succ])
          have HX : Hid (Law w w2 m g T n G1 [⟨z10, ansCells ans0, 47⟩, ⟨pb, pathCells (.slice A5 N c5) P, 37⟩, ⟨w.heap.size, useCells u, 29⟩] [⟨99, 3, .slice A5 N c5, P.steps.length, stepCells P.steps⟩]) := Lib.hid (H2.out.pick [0, 1, 2] [0])
          try clear hB2
          revert HZz10
          revert HLL
          revert FD_2
          revert FB_2
          revert HX
          revert hHeld
          clear H2
          revert z10
          revert L
          revert c6
          revert A6
          revert w2
          exact key7
        refine anyH_one rfl (fun K hK => ?_) ?_
        · go_simp
          have HZz9 := Lib.hid FB_1.out.h.size
          generalize hq2 : w1.alloc _ = w2
          have hB2 : Below w1.heap.size w1 w2 := by rw [← hq2]; exact below_alloc1 _ _
          have H2 := Lib.hid ((H1.out.new (b := w1.heap.size) rfl _ _).world hq2)
          have FB_2 := Lib.hid (FB_1.out.quiet hB2)
          clear H1 hq2 hB2 FB_1
          generalize w1.heap.size = z9 at HZz9 H2 ⊢
          refine hK.out _ _ (H2.out.pick [3] []) (fun hHeld => ?_)
          clear hK K
          (try simp only [Act.put, List.setIfInBounds_toArray, List.set_cons_zero, List.set_cons_succ])
          have HX : Hid (Law w w2 m g T n G1 [⟨z10, ansCells ans0, 47⟩, ⟨z9, zeroMem, 45⟩, ⟨pb, pathCells (.slice A5 N c5) P, 37⟩, ⟨w.heap.size, useCells u, 29⟩] [⟨99, 3, .slice A5 N c5, P.steps.length, stepCells P.steps⟩]) := Lib.hid (H2.out.pick [1, 0, 2, 3] [0])
          try clear hB2
          revert HZz10
          revert HZz9
          revert FB_2
          revert HX
          revert hHeld
          clear H2
          revert z10
          revert z9
          revert w2
          exact key9
        refine anyH_one rfl (fun K hK => ?_) ?_
        · go_simp
          have HZz11 := Lib.hid FB_1.out.h.size
          generalize hq2 : w1.alloc _ = w2
          have hB2 : Below w1.heap.size w1 w2 := by rw [← hq2]; exact below_alloc1 _ _
          have H2 := Lib.hid ((H1.out.new (b := w1.heap.size) rfl _ _).world hq2)
          have FB_2 := Lib.hid (FB_1.out.quiet hB2)
          clear H1 hq2 hB2 FB_1
          generalize w1.heap.size = z11 at HZz11 H2 ⊢
          refine hK.out _ _ (H2.out.pick [3] []) (fun hHeld => ?_)
          clear hK K
          (try simp only [Act.put, List.setIfInBounds_toArray, List.set_cons_zero, List.set_cons_succ])
          have HX : Hid (Law w w2 m g T n G1 [⟨z11, zeroRP, 51⟩, ⟨z10, ansCells ans0, 47⟩, ⟨pb, pathCells (.slice A5 N c5) P, 37⟩, ⟨w.heap.size, useCells u, 29⟩] [⟨99, 3, .slice A5 N c5, P.steps.length, stepCells P.steps⟩]) := Lib.hid (H2.out.pick [0, 1, 2, 3] [0])
          try clear hB2
          revert HZz11
          revert HZz10
          revert FB_2
          revert HX
          revert hHeld
          clear H2
          revert z11
          revert z10
          revert w2
          exact key11
        exact AllReadyH.nil
      case t4 =>
        intro w1 z11 hHeld H1 FB_1 HZz11
        refine wpAnyH_ready (rs := [1, 9, 10]) (by kernel_rfl) (by simp) ?_
        refine anyH_one rfl (fun K hK => ?_) ?_
        · go_simp
          refine (HC.out _ H1.out.below).mono ?_
          rintro e w2 ⟨vs, L, rfl, hD, hL, -, hB2⟩
          obtain ⟨A6, c6, _, _, rfl, _⟩ := Doc.form hD
          have H2 := Lib.hid (H1.out.quiet hB2)
          have FB_2 := Lib.hid (FB_1.out.quiet hB2)
          clear H1 FB_1
          have FD_2 := Lib.hid hD
          have HLL := Lib.hid hL
          clear hD hL
          refine hK.out _ _ (H2.out.pick [2] []) (fun hHeld => ?_)
          clear hK K
          (try simp only [Act.put, List.setIfInBounds_toArray, List.set_cons_zero, List.set_cons_succ])
          have HX : Hid (Law w w2 m g T n G1 [⟨z11, zeroRP, 51⟩, ⟨pb, pathCells (.slice A5 N c5) P, 37⟩, ⟨w.heap.size, useCells u, 29⟩] [⟨99, 3, .slice A5 N c5, P.steps.length, stepCells P.steps⟩]) := Lib.hid (H2.out.pick [0, 1, 2] [0])
          try clear hB2
          revert HZz11
          revert HLL
          revert FD_2
          revert FB_2
          revert HX
          revert hHeld
          clear H2
          revert z11
          revert L
          revert c6
          revert A6
          revert w2
          exact key8
        refine anyH_one rfl (fun K hK => ?_) ?_
        · go_simp
          have HZz9 := Lib.hid FB_1.out.h.size
          generalize hq2 : w1.alloc _ = w2
          have hB2 : Below w1.heap.size w1 w2 := by rw [← hq2]; exact below_alloc1 _ _
          have H2 := Lib.hid ((H1.out.new (b := w1.heap.size) rfl _ _).world hq2)
          have FB_2 := Lib.hid (FB_1.out.quiet hB2)
          clear H1 hq2 hB2 FB_1
          generalize w1.heap.size = z9 at HZz9 H2 ⊢
          refine hK.out _ _ (H2.out.pick [3] []) (fun hHeld => ?_)
          clear hK K
          (try simp only [Act.put, List.setIfInBounds_toArray, List.set_cons_zero, List.set_cons_succ])
          have HX : Hid (Law w w2 m g T n G1 [⟨z11, zeroRP, 51⟩, ⟨z9, zeroMem, 45⟩, ⟨pb, pathCells (.slice A5 N c5) P, 37⟩, ⟨w.heap.size, useCells u, 29⟩] [⟨99, 3, .slice A5 N c5, P.steps.length, stepCells P.steps⟩]) := Lib.hid (H2.out.pick [1, 0, 2, 3] [0])
          try clear hB2
          revert HZz11
          revert HZz9
          revert FB_2
          revert HX
          revert hHeld
          clear H2
          revert z11
          revert z9
          revert w2
          exact key10
        refine anyH_one rfl (fun K hK => ?_) ?_
        · go_simp
          have HZz10 := Lib.hid FB_1.out.h.size
          generalize hq2 : w1.alloc _ = w2
          have hB2 : Below w1.heap.size w1 w2 := by rw [← hq2]; exact below_alloc1 _ _
          have H2 := Lib.hid ((H1.out.new (b := w1.heap.size) rfl _ _).world hq2)
          have FB_2 := Lib.hid (FB_1.out.quiet hB2)
          clear H1 hq2 hB2 FB_1
          generalize w1.heap.size = z10 at HZz10 H2 ⊢
          refine hK.out _ _ (H2.out.pick [3] []) (fun hHeld => ?_)
          clear hK K
          (try simp only [Act.put, List.setIfInBounds_toArray, List.set_cons_zero, List.set_cons_succ])
          have HX : Hid (Law w w2 m g T n G1 [⟨z11, zeroRP, 51⟩, ⟨z10, ansCells ans0, 47⟩, ⟨pb, pathCells (.slice A5 N c5) P, 37⟩, ⟨w.heap.size, useCells u, 29⟩] [⟨99, 3, .slice A5 N c5, P.steps.length, stepCells P.steps⟩]) := Lib.hid (H2.out.pick [1, 0, 2, 3] [0])
          try clear hB2
          revert HZz11
          revert HZz10
          revert FB_2
          revert HX
          revert hHeld
          clear H2
          revert z11
          revert z10
          revert w2
          exact key11
        exact AllReadyH.nil
      case t5 =>
        intro w1 A6 c6 L A7 c7 L2 A8 c8 A9 c9 hHeld H1 FB_1 FD_1 HLL HL2
        refine wpAnyH_ready (rs := [9, 10, 11]) (by kernel_rfl) (by simp) ?_
        refine anyH_one rfl (fun K hK => ?_) ?_
        · go_simp
          have HZz9 := Lib.hid FB_1.out.h.size
          generalize hq2 : w1.alloc _ = w2
          have hB2 : Below w1.heap.size w1 w2 := by rw [← hq2]; exact below_alloc1 _ _
          have H2 := Lib.hid ((H1.out.new (b := w1.heap.size) rfl _ _).world hq2)
          have FB_2 := Lib.hid (FB_1.out.quiet hB2)
          have FD_2 := Lib.hid (FD_1.out.quiet hB2)
          clear H1 hq2 hB2 FB_1 FD_1
          generalize w1.heap.size = z9 at HZz9 H2 ⊢
          refine hK.out _ _ (H2.out.pick [2] []) (fun hHeld => ?_)
          clear hK K
          (try simp only [Act.put, List.setIfInBounds_toArray, List.set_cons_zero, List.set_cons_succ])
          have HX : Hid (Law w w2 m g T n G1 [⟨z9, zeroMem, 45⟩, ⟨pb, pathCells (.slice A5 N c5) P, 37⟩, ⟨w.heap.size, useCells u, 29⟩] [⟨97, 3, .slice A7 N c7, P.steps.length, stepCells P.steps⟩, ⟨99, 3, .slice A5 N c5, P.steps.length, stepCells P.steps⟩]) := Lib.hid (H2.out.pick [0, 1, 2] [0, 1])
          try clear hB2
          revert HZz9
          revert HL2
          revert HLL
          revert FD_2
          revert FB_2
          revert HX
          revert hHeld
          clear H2
          revert z9
          revert c9
          revert A9
          revert c8
          revert A8
          revert L2
          revert c7
          revert A7
          revert L
          revert c6
          revert A6
          revert w2
          exact key12
        refine anyH_one rfl (fun K hK => ?_) ?_
        · go_simp
          have HZz10 := Lib.hid FB_1.out.h.size
          generalize hq2 : w1.alloc _ = w2
          have hB2 : Below w1.heap.size w1 w2 := by rw [← hq2]; exact below_alloc1 _ _
          have H2 := Lib.hid ((H1.out.new (b := w1.heap.size) rfl _ _).world hq2)
          have FB_2 := Lib.hid (FB_1.out.quiet hB2)
          have FD_2 := Lib.hid (FD_1.out.quiet hB2)
          clear H1 hq2 hB2 FB_1 FD_1
          generalize w1.heap.size = z10 at HZz10 H2 ⊢
          refine hK.out _ _ (H2.out.pick [2] []) (fun hHeld => ?_)
          clear hK K
          (try simp only [Act.put, List.setIfInBounds_toArray, List.set_cons_zero, List.set_cons_succ])
          have HX : Hid (Law w w2 m g T n G1 [⟨z10, ansCells ans0, 47⟩, ⟨pb, pathCells (.slice A5 N c5) P, 37⟩, ⟨w.heap.size, useCells u, 29⟩] [⟨97, 3, .slice A7 N c7, P.steps.length, stepCells P.steps⟩, ⟨99, 3, .slice A5 N c5, P.steps.length, stepCells P.steps⟩]) := Lib.hid (H2.out.pick [0, 1, 2] [0, 1])
          try clear hB2
          revert HZz10
          revert HL2
          revert HLL
          revert FD_2
          revert FB_2
          revert HX
          revert hHeld
          clear H2
          revert z10
          revert c9
          revert A9
          revert c8
          revert A8
          revert L2
          revert c7
          revert A7
          revert L
          revert c6
          revert A6
          revert w2
          exact key13
        refine anyH_one rfl (fun K hK => ?_) ?_
        · go_simp
          have HZz11 := Lib.hid FB_1.out.h.size
          generalize hq2 : w1.alloc _ = w2
          have hB2 : Below w1.heap.size w1 w2 := by rw [← hq2]; exact below_alloc1 _ _
          have H2 := Lib.hid ((H1.out.new (b := w1.heap.size) rfl _ _).world hq2)
          have FB_2 := Lib.hid (FB_1.out.quiet hB2)
          have FD_2 := Lib.hid (FD_1.out.quiet hB2)
          clear H1 hq2 hB2 FB_1 FD_1
          generalize w1.heap.size = z11 at HZz11 H2 ⊢
          refine hK.out _ _ (H2.out.pick [2] []) (fun hHeld => ?_)
          clear hK K
          (try simp only [Act.put, List.setIfInBounds_toArray, List.set_cons_zero, List.set_cons_succ])
          have HX : Hid (Law w w2 m g T n G1 [⟨z11, zeroRP, 51⟩, ⟨pb, pathCells (.slice A5 N c5) P, 37⟩, ⟨w.heap.size, useCells u, 29⟩] [⟨97, 3, .slice A7 N c7, P.steps.length, stepCells P.steps⟩, ⟨99, 3, .slice A5 N c5, P.steps.length, stepCells P.steps⟩]) := Lib.hid (H2.out.pick [0, 1, 2] [0, 1])
          try clear hB2
          revert HZz11
          revert HL2
          revert HLL
          revert FD_2
          revert FB_2
          revert HX
          revert hHeld
          clear H2
          revert z11
          revert c9
          revert A9
          revert c8
          revert A8
          revert L2
          revert c7
          revert A7
          revert L
          revert c6
          revert A6
          revert w2
          exact key14
        exact AllReadyH.nil
      case t6 =>
        intro w1 A6 c6 L z9 hHeld H1 FB_1 FD_1 HLL HZz9
        refine wpAnyH_ready (rs := [4, 10, 11]) (by kernel_rfl) (by simp) ?_
        refine anyH_one rfl (fun K hK => ?_) ?_
        · go_simp
          refine (HT.out _ _ _ FD_1.out HLL.out).mono ?_
          rintro e w2 ⟨v2, vs2, vt2, L2, rfl, hD, hL2, hS, hB2⟩
          obtain ⟨A7, c7, hv⟩ := StepsOwn.form hS
          rw [HNN.out] at hv
          subst hv
          obtain ⟨A8, c8, A9, c9, rfl, rfl⟩ := Doc.form hD
          have FB_2 := Lib.hid (FB_1.out.quiet hB2)
          clear FB_1
          have H2 := Lib.hid (H1.out.made hB2 hS (Nat.le_refl _))
          have FD_2 := Lib.hid hD
          have HL2 := Lib.hid hL2
          clear hD hL2 hS hB2 H1 FD_1
          refine hK.out _ _ (H2.out.pick [2] []) (fun hHeld => ?_)
          clear hK K
          (try simp only [Act.put, List.setIfInBounds_toArray, List.set_cons_zero, List.set_cons_succ])
          refine tk (v := ?_) 5 ?_ ?_
          rotate_left
          · intro w hSw
            go_simp
            (try with_reducible rfl)
          (try simp only [Act.put, List.setIfInBounds_toArray, List.set_cons_zero, List.set_cons_succ])
          refine tk (v := ?_) 6 ?_ ?_
          rotate_left
          · intro w hSw
            go_simp
            (try with_reducible rfl)
          (try simp only [Act.put, List.setIfInBounds_toArray, List.set_cons_zero, List.set_cons_succ])
          refine tk (v := ?_) 7 ?_ ?_
          rotate_left
          · intro w hSw
            go_simp
            (try with_reducible rfl)
          (try simp only [Act.put, List.setIfInBounds_toArray, List.set_cons_zero, List.set_cons_succ])
          refine tk (v := ?_) 8 ?_ ?_
          rotate_left
          · intro w hSw
            go_simp
            (try with_reducible rfl)
          (try simp only [Act.put, List.setIfInBounds_toArray, List.set_cons_zero, List.set_cons_succ])
          have HX : Hid (Law w w2 m g T n G1 [⟨z9, zeroMem, 45⟩, ⟨pb, pathCells (.slice A5 N c5) P, 37⟩, ⟨w.heap.size, useCells u, 29⟩] [⟨97, 3, .slice A7 N c7, P.steps.length, stepCells P.steps⟩, ⟨99, 3, .slice A5 N c5, P.steps.length, stepCells P.steps⟩]) := Lib.hid (H2.out.pick [0, 1, 2] [0, 1])
          try clear hB2
          revert HZz9
          revert HL2
          revert HLL
          revert FD_2
          revert FB_2
          revert HX
          revert hHeld
          clear H2
          revert z9
          revert c9
          revert A9
          revert c8
          revert A8
          revert L2
          revert c7
          revert A7
          revert L
          revert c6
          revert A6
          revert w2
          exact key12
        refine anyH_one rfl (fun K hK => ?_) ?_
        · go_simp
          have HZz10 := Lib.hid FB_1.out.h.size
          generalize hq2 : w1.alloc _ = w2
          have hB2 : Below w1.heap.size w1 w2 := by rw [← hq2]; exact below_alloc1 _ _
          have H2 := Lib.hid ((H1.out.new (b := w1.heap.size) rfl _ _).world hq2)
          have FB_2 := Lib.hid (FB_1.out.quiet hB2)
          have FD_2 := Lib.hid (FD_1.out.quiet hB2)
          clear H1 hq2 hB2 FB_1 FD_1
          generalize w1.heap.size = z10 at HZz10 H2 ⊢
          refine hK.out _ _ (H2.out.pick [3] []) (fun hHeld => ?_)
          clear hK K
          (try simp only [Act.put, List.setIfInBounds_toArray, List.set_cons_zero, List.set_cons_succ])
          have HX : Hid (Law w w2 m g T n G1 [⟨z10, ansCells ans0, 47⟩, ⟨z9, zeroMem, 45⟩, ⟨pb, pathCells (.slice A5 N c5) P, 37⟩, ⟨w.heap.size, useCells u, 29⟩] [⟨99, 3, .slice A5 N c5, P.steps.length, stepCells P.steps⟩]) := Lib.hid (H2.out.pick [0, 1, 2, 3] [0])
          try clear hB2
          revert HZz10
          revert HZz9
          revert HLL
          revert FD_2
          revert FB_2
          revert HX
          revert hHeld
          clear H2
          revert z10
          revert z9
          revert L
          revert c6
          revert A6
          revert w2
          exact key15
        refine anyH_one rfl (fun K hK => ?_) ?_
        · go_simp
          have HZz11 := Lib.hid FB_1.out.h.size
          generalize hq2 : w1.alloc _ = w2
          have hB2 : Below w1.heap.size w1 w2 := by rw [← hq2]; exact below_alloc1 _ _
          have H2 := Lib.hid ((H1.out.new (b := w1.heap.size) rfl _ _).world hq2)
          have FB_2 := Lib.hid (FB_1.out.quiet hB2)
          have FD_2 := Lib.hid (FD_1.out.quiet hB2)
          clear H1 hq2 hB2 FB_1 FD_1
          generalize w1.heap.size = z11 at HZz11 H2 ⊢
          refine hK.out _ _ (H2.out.pick [3] []) (fun hHeld => ?_)
          clear hK K
          (try simp only [Act.put, List.setIfInBounds_toArray, List.set_cons_zero, List.set_cons_succ])
          have HX : Hid (Law w w2 m g T n G1 [⟨z11, zeroRP, 51⟩, ⟨z9, zeroMem, 45⟩, ⟨pb, pathCells (.slice A5 N c5) P, 37⟩, ⟨w.heap.size, useCells u, 29⟩] [⟨99, 3, .slice A5 N c5, P.steps.length, stepCells P.steps⟩]) := Lib.hid (H2.out.pick [0, 1, 2, 3] [0])
          try clear hB2
          revert HZz11
          revert HZz9
          revert HLL
          revert FD_2
          revert FB_2
          revert HX
          revert hHeld
          clear H2
          revert z11
          revert z9
          revert L
          revert c6
          revert A6
          revert w2
          exact key16
        exact AllReadyH.nil
      case t7 =>
        intro w1 A6 c6 L z10 hHeld H1 FB_1 FD_1 HLL HZz10
        refine wpAnyH_ready (rs := [4, 9, 11]) (by kernel_rfl) (by simp) ?_
        refine anyH_one rfl (fun K hK => ?_) ?_
        · go_simp
          refine (HT.out _ _ _ FD_1.out HLL.out).mono ?_
          rintro e w2 ⟨v2, vs2, vt2, L2, rfl, hD, hL2, hS, hB2⟩
          obtain ⟨A7, c7, hv⟩ := StepsOwn.form hS
          rw [HNN.out] at hv
          subst hv
          obtain ⟨A8, c8, A9, c9, rfl, rfl⟩ := Doc.form hD
          have FB_2 := Lib.hid (FB_1.out.quiet hB2)
          clear FB_1
          have H2 := Lib.hid (H1.out.made hB2 hS (Nat.le_refl _))
          have FD_2 := Lib.hid hD
          have HL2 := Lib.hid hL2
          clear hD hL2 hS hB2 H1 FD_1
          refine hK.out _ _ (H2.out.pick [2] []) (fun hHeld => ?_)
          clear hK K
          (try simp only [Act.put, List.setIfInBounds_toArray, List.set_cons_zero, List.set_cons_succ])
          refine tk (v := ?_) 5 ?_ ?_
          rotate_left
          · intro w hSw
            go_simp
            (try with_reducible rfl)
          (try simp only [Act.put, List.setIfInBounds_toArray, List.set_cons_zero, List.set_cons_succ])
          refine tk (v := ?_) 6 ?_ ?_
          rotate_left
          · intro w hSw
            go_simp
            (try with_reducible rfl)
          (try simp only [Act.put, List.setIfInBounds_toArray, List.set_cons_zero, List.set_cons_succ])
          refine tk (v := ?_) 7 ?_ ?_
          rotate_left
          · intro w hSw
            go_simp
            (try with_reducible rfl)
          (try simp only [Act.put, List.setIfInBounds_toArray, List.set_cons_zero, List.set_cons_succ])
          refine tk (v := ?_) 8 ?_ ?_
          rotate_left
          · intro w hSw
            go_simp
            (try with_reducible rfl)
          (try simp only [Act.put, List.setIfInBounds_toArray, List.set_cons_zero, List.set_cons_succ])
          have HX : Hid (Law w w2 m g T n G1 [⟨z10, ansCells ans0, 47⟩, ⟨pb, pathCells (.slice A5 N c5) P, 37⟩, ⟨w.heap.size, useCells u, 29⟩] [⟨97, 3, .slice A7 N c7, P.steps.length, stepCells P.steps⟩, ⟨99, 3, .slice A5 N c5, P.steps.length, stepCells P.steps⟩]) := Lib.hid (H2.out.pick [0, 1, 2] [0, 1])
          try clear hB2
          revert HZz10
          revert HL2
          revert HLL
          revert FD_2
          revert FB_2
          revert HX
          revert hHeld
          clear H2
          revert z10
          revert c9
          revert A9
          revert c8
          revert A8
          revert L2
          revert c7
          revert A7
          revert L
          revert c6
          revert A6
          revert w2
          exact key13
        refine anyH_one rfl (fun K hK => ?_) ?_
        · go_simp
          have HZz9 := Lib.hid FB_1.out.h.size
          generalize hq2 : w1.alloc _ = w2
          have hB2 : Below w1.heap.size w1 w2 := by rw [← hq2]; exact below_alloc1 _ _
          have H2 := Lib.hid ((H1.out.new (b := w1.heap.size) rfl _ _).world hq2)
          have FB_2 := Lib.hid (FB_1.out.quiet hB2)
          have FD_2 := Lib.hid (FD_1.out.quiet hB2)
          clear H1 hq2 hB2 FB_1 FD_1
          generalize w1.heap.size = z9 at HZz9 H2 ⊢
          refine hK.out _ _ (H2.out.pick [3] []) (fun hHeld => ?_)
          clear hK K
          (try simp only [Act.put, List.setIfInBounds_toArray, List.set_cons_zero, List.set_cons_succ])
          have HX : Hid (Law w w2 m g T n G1 [⟨z10, ansCells ans0, 47⟩, ⟨z9, zeroMem, 45⟩, ⟨pb, pathCells (.slice A5 N c5) P, 37⟩, ⟨w.heap.size, useCells u, 29⟩] [⟨99, 3, .slice A5 N c5, P.steps.length, stepCells P.steps⟩]) := Lib.hid (H2.out.pick [1, 0, 2, 3] [0])
          try clear hB2
          revert HZz10
          revert HZz9
          revert HLL
          revert FD_2
          revert FB_2
          revert HX
          revert hHeld
          clear H2
          revert z10
          revert z9
          revert L
          revert c6
          revert A6
          revert w2
          exact key15
        refine anyH_one rfl (fun K hK => ?_) ?_
        · go_simp
          have HZz11 := Lib.hid FB_1.out.h.size
          generalize hq2 : w1.alloc _ = w2
          have hB2 : Below w1.heap.size w1 w2 := by rw [← hq2]; exact below_alloc1 _ _
          have H2 := Lib.hid ((H1.out.new (b := w1.heap.size) rfl _ _).world hq2)
          have FB_2 := Lib.hid (FB_1.out.quiet hB2)
          have FD_2 := Lib.hid (FD_1.out.quiet hB2)
          clear H1 hq2 hB2 FB_1 FD_1
          generalize w1.heap.size = z11 at HZz11 H2 ⊢
          refine hK.out _ _ (H2.out.pick [3] []) (fun hHeld => ?_)
          clear hK K
          (try simp only [Act.put, List.setIfInBounds_toArray, List.set_cons_zero, List.set_cons_succ])
          have HX : Hid (Law w w2 m g T n G1 [⟨z11, zeroRP, 51⟩, ⟨z10, ansCells ans0, 47⟩, ⟨pb, pathCells (.slice A5 N c5) P, 37⟩, ⟨w.heap.size, useCells u, 29⟩] [⟨99, 3, .slice A5 N c5, P.steps.length, stepCells P.steps⟩]) := Lib.hid (H2.out.pick [0, 1, 2, 3] [0])
          try clear hB2
          revert HZz11
          revert HZz10
          revert HLL
          revert FD_2
          revert FB_2
          revert HX
          revert hHeld
          clear H2
          revert z11
          revert z10
          revert L
          revert c6
          revert A6
          revert w2
          exact key17
        exact AllReadyH.nil
      case t8 =>
        intro w1 A6 c6 L z11 hHeld H1 FB_1 FD_1 HLL HZz11
        refine wpAnyH_ready (rs := [4, 9, 10]) (by kernel_rfl) (by simp) ?_
        refine anyH_one rfl (fun K hK => ?_) ?_
        · go_simp
          refine (HT.out _ _ _ FD_1.out HLL.out).mono ?_
          rintro e w2 ⟨v2, vs2, vt2, L2, rfl, hD, hL2, hS, hB2⟩
          obtain ⟨A7, c7, hv⟩ := StepsOwn.form hS
          rw [HNN.out] at hv
          subst hv
          obtain ⟨A8, c8, A9, c9, rfl, rfl⟩ := Doc.form hD
          have FB_2 := Lib.hid (FB_1.out.quiet hB2)
          clear FB_1
          have H2 := Lib.hid (H1.out.made hB2 hS (Nat.le_refl _))
          have FD_2 := Lib.hid hD
          have HL2 := Lib.hid hL2
          clear hD hL2 hS hB2 H1 FD_1
          refine hK.out _ _ (H2.out.pick [2] []) (fun hHeld => ?_)
          clear hK K
          (try simp only [Act.put, List.setIfInBounds_toArray, List.set_cons_zero, List.set_cons_succ])
          refine tk (v := ?_) 5 ?_ ?_
          rotate_left
          · intro w hSw
            go_simp
            (try with_reducible rfl)
          (try simp only [Act.put, List.setIfInBounds_toArray, List.set_cons_zero, List.set_cons_succ])
          refine tk (v := ?_) 6 ?_ ?_
          rotate_left
          · intro w hSw
            go_simp
            (try with_reducible rfl)
          (try simp only [Act.put, List.setIfInBounds_toArray, List.set_cons_zero, List.set_cons_succ])
          refine tk (v := ?_) 7 ?_ ?_
          rotate_left
          · intro w hSw
            go_simp
            (try with_reducible rfl)
          (try simp only [Act.put, List.setIfInBounds_toArray, List.set_cons_zero, List.set_cons_succ])
          refine tk (v := ?_) 8 ?_ ?_
          rotate_left
          · intro w hSw
            go_simp
            (try with_reducible rfl)
          (try simp only [Act.put, List.setIfInBounds_toArray, List.set_cons_zero, List.set_cons_succ])
          have HX : Hid (Law w w2 m g T n G1 [⟨z11, zeroRP, 51⟩, ⟨pb, pathCells (.slice A5 N c5) P, 37⟩, ⟨w.heap.size, useCells u, 29⟩] [⟨97, 3, .slice A7 N c7, P.steps.length, stepCells P.steps⟩, ⟨99, 3, .slice A5 N c5, P.steps.length, stepCells P.steps⟩]) := Lib.hid (H2.out.pick [0, 1, 2] [0, 1])
          try clear hB2
          revert HZz11
          revert HL2
          revert HLL
          revert FD_2
          revert FB_2
          revert HX
          revert hHeld
          clear H2
          revert z11
          revert c9
          revert A9
          revert c8
          revert A8
          revert L2
          revert c7
          revert A7
          revert L
          revert c6
          revert A6
          revert w2
          exact key14
        refine anyH_one rfl (fun K hK => ?_) ?_
        · go_simp
          have HZz9 := Lib.hid FB_1.out.h.size
          generalize hq2 : w1.alloc _ = w2
          have hB2 : Below w1.heap.size w1 w2 := by rw [← hq2]; exact below_alloc1 _ _
          have H2 := Lib.hid ((H1.out.new (b := w1.heap.size) rfl _ _).world hq2)
          have FB_2 := Lib.hid (FB_1.out.quiet hB2)
          have FD_2 := Lib.hid (FD_1.out.quiet hB2)
          clear H1 hq2 hB2 FB_1 FD_1
          generalize w1.heap.size = z9 at HZz9 H2 ⊢
          refine hK.out _ _ (H2.out.pick [3] []) (fun hHeld => ?_)
          clear hK K
          (try simp only [Act.put, List.setIfInBounds_toArray, List.set_cons_zero, List.set_cons_succ])
          have HX : Hid (Law w w2 m g T n G1 [⟨z11, zeroRP, 51⟩, ⟨z9, zeroMem, 45⟩, ⟨pb, pathCells (.slice A5 N c5) P, 37⟩, ⟨w.heap.size, useCells u, 29⟩] [⟨99, 3, .slice A5 N c5, P.steps.length, stepCells P.steps⟩]) := Lib.hid (H2.out.pick [1, 0, 2, 3] [0])
          try clear hB2
          revert HZz11
          revert HZz9
          revert HLL
          revert FD_2
          revert FB_2
          revert HX
          revert hHeld
          clear H2
          revert z11
          revert z9
          revert L
          revert c6
          revert A6
          revert w2
          exact key16
        refine anyH_one rfl (fun K hK => ?_) ?_
        · go_simp
          have HZz10 := Lib.hid FB_1.out.h.size
          generalize hq2 : w1.alloc _ = w2
          have hB2 : Below w1.heap.size w1 w2 := by rw [← hq2]; exact below_alloc1 _ _
          have H2 := Lib.hid ((H1.out.new (b := w1.heap.size) rfl _ _).world hq2)
          have FB_2 := Lib.hid (FB_1.out.quiet hB2)
          have FD_2 := Lib.hid (FD_1.out.quiet hB2)
          clear H1 hq2 hB2 FB_1 FD_1
          generalize w1.heap.size = z10 at HZz10 H2 ⊢
          refine hK.out _ _ (H2.out.pick [3] []) (fun hHeld => ?_)
          clear hK K
          (try simp only [Act.put, List.setIfInBounds_toArray, List.set_cons_zero, List.set_cons_succ])
          have HX : Hid (Law w w2 m g T n G1 [⟨z11, zeroRP, 51⟩, ⟨z10, ansCells ans0, 47⟩, ⟨pb, pathCells (.slice A5 N c5) P, 37⟩, ⟨w.heap.size, useCells u, 29⟩] [⟨99, 3, .slice A5 N c5, P.steps.length, stepCells P.steps⟩]) := Lib.hid (H2.out.pick [1, 0, 2, 3] [0])
          try clear hB2
          revert HZz11
          revert HZz10
          revert HLL
          revert FD_2
          revert FB_2
          revert HX
          revert hHeld
          clear H2
          revert z11
          revert z10
          revert L
          revert c6
          revert A6
          revert w2
          exact key17
        exact AllReadyH.nil
      case t9 =>
        intro w1 z9 z10 hHeld H1 FB_1 HZz9 HZz10
        refine wpAnyH_ready (rs := [1, 11]) (by kernel_rfl) (by simp) ?_
        refine anyH_one rfl (fun K hK => ?_) ?_
        · go_simp
          refine (HC.out _ H1.out.below).mono ?_
          rintro e w2 ⟨vs, L, rfl, hD, hL, -, hB2⟩
          obtain ⟨A6, c6, _, _, rfl, _⟩ := Doc.form hD
          have H2 := Lib.hid (H1.out.quiet hB2)
          have FB_2 := Lib.hid (FB_1.out.quiet hB2)
          clear H1 FB_1
          have FD_2 := Lib.hid hD
          have HLL := Lib.hid hL
          clear hD hL
          refine hK.out _ _ (H2.out.pick [3] []) (fun hHeld => ?_)
          clear hK K
          (try simp only [Act.put, List.setIfInBounds_toArray, List.set_cons_zero, List.set_cons_succ])
          have HX : Hid (Law w w2 m g T n G1 [⟨z10, ansCells ans0, 47⟩, ⟨z9, zeroMem, 45⟩, ⟨pb, pathCells (.slice A5 N c5) P, 37⟩, ⟨w.heap.size, useCells u, 29⟩] [⟨99, 3, .slice A5 N c5, P.steps.length, stepCells P.steps⟩]) := Lib.hid (H2.out.pick [0, 1, 2, 3] [0])
          try clear hB2
          revert HZz10
          revert HZz9
          revert HLL
          revert FD_2
          revert FB_2
          revert HX
          revert hHeld
          clear H2
          revert z10
          revert z9
          revert L
          revert c6
          revert A6
          revert w2
          exact key15
        refine anyH_one rfl (fun K hK => ?_) ?_
        · go_simp
          have HZz11 := Lib.hid FB_1.out.h.size
          generalize hq2 : w1.alloc _ = w2
          have hB2 : Below w1.heap.size w1 w2 := by rw [← hq2]; exact below_alloc1 _ _
          have H2 := Lib.hid ((H1.out.new (b := w1.heap.size) rfl _ _).world hq2)
          have FB_2 := Lib.hid (FB_1.out.quiet hB2)
          clear H1 hq2 hB2 FB_1
          generalize w1.heap.size = z11 at HZz11 H2 ⊢
          refine hK.out _ _ (H2.out.pick [4] []) (fun hHeld => ?_)
          clear hK K
          (try simp only [Act.put, List.setIfInBounds_toArray, List.set_cons_zero, List.set_cons_succ])
          have HX : Hid (Law w w2 m g T n G1 [⟨z11, zeroRP, 51⟩, ⟨z10, ansCells ans0, 47⟩, ⟨z9, zeroMem, 45⟩, ⟨pb, pathCells (.slice A5 N c5) P, 37⟩, ⟨w.heap.size, useCells u, 29⟩] [⟨99, 3, .slice A5 N c5, P.steps.length, stepCells P.steps⟩]) := Lib.hid (H2.out.pick [0, 1, 2, 3, 4] [0])
          try clear hB2
          revert HZz11
          revert HZz10
          revert HZz9
          revert FB_2
          revert HX
          revert hHeld
          clear H2
          revert z11
          revert z10
          revert z9
          revert w2
          exact key18
        exact AllReadyH.nil
      case t10 =>
        intro w1 z9 z11 hHeld H1 FB_1 HZz9 HZz11
        refine wpAnyH_ready (rs := [1, 10]) (by kernel_rfl) (by simp) ?_
        refine anyH_one rfl (fun K hK => ?_) ?_
        · go_simp
          refine (HC.out _ H1.out.below).mono ?_
          rintro e w2 ⟨vs, L, rfl, hD, hL, -, hB2⟩
          obtain ⟨A6, c6, _, _, rfl, _⟩ := Doc.form hD
          have H2 := Lib.hid (H1.out.quiet hB2)
          have FB_2 := Lib.hid (FB_1.out.quiet hB2)
          clear H1 FB_1
          have FD_2 := Lib.hid hD
          have HLL := Lib.hid hL
          clear hD hL
          refine hK.out _ _ (H2.out.pick [3] []) (fun hHeld => ?_)
          clear hK K
          (try simp only [Act.put, List.setIfInBounds_toArray, List.set_cons_zero, List.set_cons_succ])
          have HX : Hid (Law w w2 m g T n G1 [⟨z11, zeroRP, 51⟩, ⟨z9, zeroMem, 45⟩, ⟨pb, pathCells (.slice A5 N c5) P, 37⟩, ⟨w.heap.size, useCells u, 29⟩] [⟨99, 3, .slice A5 N c5, P.steps.length, stepCells P.steps⟩]) := Lib.hid (H2.out.pick [0, 1, 2, 3] [0])
          try clear hB2
          revert HZz11
          revert HZz9
          revert HLL
          revert FD_2
          revert FB_2
          revert HX
          revert hHeld
          clear H2
          revert z11
          revert z9
          revert L
          revert c6
          revert A6
          revert w2
          exact key16
        refine anyH_one rfl (fun K hK => ?_) ?_
        · go_simp
          have HZz10 := Lib.hid FB_1.out.h.size
          generalize hq2 : w1.alloc _ = w2
          have hB2 : Below w1.heap.size w1 w2 := by rw [← hq2]; exact below_alloc1 _ _
          have H2 := Lib.hid ((H1.out.new (b := w1.heap.size) rfl _ _).world hq2)
          have FB_2 := Lib.hid (FB_1.out.quiet hB2)
          clear H1 hq2 hB2 FB_1
          generalize w1.heap.size = z10 at HZz10 H2 ⊢
          refine hK.out _ _ (H2.out.pick [4] []) (fun hHeld => ?_)
          clear hK K
          (try simp only [Act.put, List.setIfInBounds_toArray, List.set_cons_zero, List.set_cons_succ])
          have HX : Hid (Law w w2 m g T n G1 [⟨z11, zeroRP, 51⟩, ⟨z10, ansCells ans0, 47⟩, ⟨z9, zeroMem, 45⟩, ⟨pb, pathCells (.slice A5 N c5) P, 37⟩, ⟨w.heap.size, useCells u, 29⟩] [⟨99, 3, .slice A5 N c5, P.steps.length, stepCells P.steps⟩]) := Lib.hid (H2.out.pick [1, 0, 2, 3, 4] [0])
          try clear hB2
          revert HZz11
          revert HZz10
          revert HZz9
          revert FB_2
          revert HX
          revert hHeld
          clear H2
          revert z11
          revert z10
          revert z9
          revert w2
          exact key18
        exact AllReadyH.nil
      case t11 =>
        intro w1 z10 z11 hHeld H1 FB_1 HZz10 HZz11
        refine wpAnyH_ready (rs := [1, 9]) (by kernel_rfl) (by simp) ?_
        refine anyH_one rfl (fun K hK => ?_) ?_
        · go_simp
          refine (HC.out _ H1.out.below).mono ?_
          rintro e w2 ⟨vs, L, rfl, hD, hL, -, hB2⟩
          obtain ⟨A6, c6, _, _, rfl, _⟩ := Doc.form hD
          have H2 := Lib.hid (H1.out.quiet hB2)
          have FB_2 := Lib.hid (FB_1.out.quiet hB2)
          clear H1 FB_1
          have FD_2 := Lib.hid hD
          have HLL := Lib.hid hL
          clear hD hL
          refine hK.out _ _ (H2.out.pick [3] []) (fun hHeld => ?_)
          clear hK K
          (try simp only [Act.put, List.setIfInBounds_toArray, List.set_cons_zero, List.set_cons_succ])
          have HX : Hid (Law w w2 m g T n G1 [⟨z11, zeroRP, 51⟩, ⟨z10, ansCells ans0, 47⟩, ⟨pb, pathCells (.slice A5 N c5) P, 37⟩, ⟨w.heap.size, useCells u, 29⟩] [⟨99, 3, .slice A5 N c5, P.steps.length, stepCells P.steps⟩]) := Lib.hid (H2.out.pick [0, 1, 2, 3] [0])
          try clear hB2
          revert HZz11
          revert HZz10
          revert HLL
          revert FD_2
          revert FB_2
          revert HX
          revert hHeld
          clear H2
          revert z11
          revert z10
          revert L
          revert c6
          revert A6
          revert w2
          exact key17
        refine anyH_one rfl (fun K hK => ?_) ?_
        · go_simp
          have HZz9 := Lib.hid FB_1.out.h.size
          generalize hq2 : w1.alloc _ = w2
          have hB2 : Below w1.heap.size w1 w2 := by rw [← hq2]; exact below_alloc1 _ _
          have H2 := Lib.hid ((H1.out.new (b := w1.heap.size) rfl _ _).world hq2)
          have FB_2 := Lib.hid (FB_1.out.quiet hB2)
          clear H1 hq2 hB2 FB_1
          generalize w1.heap.size = z9 at HZz9 H2 ⊢
          refine hK.out _ _ (H2.out.pick [4] []) (fun hHeld => ?_)
          clear hK K
          (try simp only [Act.put, List.setIfInBounds_toArray, List.set_cons_zero, List.set_cons_succ])
          have HX : Hid (Law w w2 m g T n G1 [⟨z11, zeroRP, 51⟩, ⟨z10, ansCells ans0, 47⟩, ⟨z9, zeroMem, 45⟩, ⟨pb, pathCells (.slice A5 N c5) P, 37⟩, ⟨w.heap.size, useCells u, 29⟩] [⟨99, 3, .slice A5 N c5, P.steps.length, stepCells P.steps⟩]) := Lib.hid (H2.out.pick [1, 2, 0, 3, 4] [0])
          try clear hB2
          revert HZz11
          revert HZz10
          revert HZz9
          revert FB_2
          revert HX
          revert hHeld
          clear H2
          revert z11
          revert z10
          revert z9
          revert w2
          exact key18
        exact AllReadyH.nil
      case t12 =>
        intro w1 A6 c6 L A7 c7 L2 A8 c8 A9 c9 z9 hHeld H1 FB_1 FD_1 HLL HL2 HZz9
        refine wpAnyH_ready (rs := [10, 11]) (by kernel_rfl) (by simp) ?_
        refine anyH_one rfl (fun K hK => ?_) ?_
        · go_simp
          have HZz10 := Lib.hid FB_1.out.h.size
          generalize hq2 : w1.alloc _ = w2
          have hB2 : Below w1.heap.size w1 w2 := by rw [← hq2]; exact below_alloc1 _ _
          have H2 := Lib.hid ((H1.out.new (b := w1.heap.size) rfl _ _).world hq2)
          have FB_2 := Lib.hid (FB_1.out.quiet hB2)
          have FD_2 := Lib.hid (FD_1.out.quiet hB2)
          clear H1 hq2 hB2 FB_1 FD_1
          generalize w1.heap.size = z10 at HZz10 H2 ⊢
          refine hK.out _ _ (H2.out.pick [3] []) (fun hHeld => ?_)
          clear hK K
          (try simp only [Act.put, List.setIfInBounds_toArray, List.set_cons_zero, List.set_cons_succ])
          have HX : Hid (Law w w2 m g T n G1 [⟨z10, ansCells ans0, 47⟩, ⟨z9, zeroMem, 45⟩, ⟨pb, pathCells (.slice A5 N c5) P, 37⟩, ⟨w.heap.size, useCells u, 29⟩] [⟨97, 3, .slice A7 N c7, P.steps.length, stepCells P.steps⟩, ⟨99, 3, .slice A5 N c5, P.steps.length, stepCells P.steps⟩]) := Lib.hid (H2.out.pick [0, 1, 2, 3] [0, 1])
          try clear hB2
          revert HZz10
          revert HZz9
          revert HL2
          revert HLL
          revert FD_2
          revert FB_2
          revert HX
          revert hHeld
          clear H2
          revert z10
          revert z9
          revert c9
          revert A9
          revert c8
          revert A8
          revert L2
          revert c7
          revert A7
          revert L
          revert c6
          revert A6
          revert w2
          exact key19
        refine anyH_one rfl (fun K hK => ?_) ?_
        · go_simp
          have HZz11 := Lib.hid FB_1.out.h.size
          generalize hq2 : w1.alloc _ = w2
          have hB2 : Below w1.heap.size w1 w2 := by rw [← hq2]; exact below_alloc1 _ _
          have H2 := Lib.hid ((H1.out.new (b := w1.heap.size) rfl _ _).world hq2)
          have FB_2 := Lib.hid (FB_1.out.quiet hB2)
          have FD_2 := Lib.hid (FD_1.out.quiet hB2)
          clear H1 hq2 hB2 FB_1 FD_1
          generalize w1.heap.size = z11 at HZz11 H2 ⊢
          refine hK.out _ _ (H2.out.pick [3] []) (fun hHeld => ?_)
          clear hK K
          (try simp only [Act.put, List.setIfInBounds_toArray, List.set_cons_zero, List.set_cons_succ])
          have HX : Hid (Law w w2 m g T n G1 [⟨z11, zeroRP, 51⟩, ⟨z9, zeroMem, 45⟩, ⟨pb, pathCells (.slice A5 N c5) P, 37⟩, ⟨w.heap.size, useCells u, 29⟩] [⟨97, 3, .slice A7 N c7, P.steps.length, stepCells P.steps⟩, ⟨99, 3, .slice A5 N c5, P.steps.length, stepCells P.steps⟩]) := Lib.hid (H2.out.pick [0, 1, 2, 3] [0, 1])
          try clear hB2
          revert HZz11
          revert HZz9
          revert HL2
          revert HLL
          revert FD_2
          revert FB_2
          revert HX
          revert hHeld
          clear H2
          revert z11
          revert z9
          revert c9
          revert A9
          revert c8
          revert A8
          revert L2
          revert c7
          revert A7
          revert L
          revert c6
          revert A6
          revert w2
          exact key20
        exact AllReadyH.nil
      case t13 =>
        intro w1 A6 c6 L A7 c7 L2 A8 c8 A9 c9 z10 hHeld H1 FB_1 FD_1 HLL HL2 HZz10
        refine wpAnyH_ready (rs := [9, 11]) (by kernel_rfl) (by simp) ?_
        refine anyH_one rfl (fun K hK => ?_) ?_
        · go_simp
          have HZz9 := Lib.hid FB_1.out.h.size
          generalize hq2 : w1.alloc _ = w2
          have hB2 : Below w1.heap.size w1 w2 := by rw [← hq2]; exact below_alloc1 _ _
          have H2 := Lib.hid ((H1.out.new (b := w1.heap.size) rfl _ _).world hq2)
          have FB_2 := Lib.hid (FB_1.out.quiet hB2)
          have FD_2 := Lib.hid (FD_1.out.quiet hB2)
          clear H1 hq2 hB2 FB_1 FD_1
          generalize w1.heap.size = z9 at HZz9 H2 ⊢
          refine hK.out _ _ (H2.out.pick [3] []) (fun hHeld => ?_)
          clear hK K
          (try simp only [Act.put, List.setIfInBounds_toArray, List.set_cons_zero, List.set_cons_succ])
          have HX : Hid (Law w w2 m g T n G1 [⟨z10, ansCells ans0, 47⟩, ⟨z9, zeroMem, 45⟩, ⟨pb, pathCells (.slice A5 N c5) P, 37⟩, ⟨w.heap.size, useCells u, 29⟩] [⟨97, 3, .slice A7 N c7, P.steps.length, stepCells P.steps⟩, ⟨99, 3, .slice A5 N c5, P.steps.length, stepCells P.steps⟩]) := Lib.hid (H2.out.pick [1, 0, 2, 3] [0, 1])
          try clear hB2
          revert HZz10
          revert HZz9
          revert HL2
          revert HLL
          revert FD_2
          revert FB_2
          revert HX
          revert hHeld
          clear H2
          revert z10
          revert z9
          revert c9
          revert A9
          revert c8
          revert A8
          revert L2
          revert c7
          revert A7
          revert L
          revert c6
          revert A6
          revert w2
          exact key19
        refine anyH_one rfl (fun K hK => ?_) ?_
        · go_simp
          have HZz11 := Lib.hid FB_1.out.h.size
          generalize hq2 : w1.alloc _ = w2
          have hB2 : Below w1.heap.size w1 w2 := by rw [← hq2]; exact below_alloc1 _ _
          have H2 := Lib.hid ((H1.out.new (b := w1.heap.size) rfl _ _).world hq2)
          have FB_2 := Lib.hid (FB_1.out.quiet hB2)
          have FD_2 := Lib.hid (FD_1.out.quiet hB2)
          clear H1 hq2 hB2 FB_1 FD_1
          generalize w1.heap.size = z11 at HZz11 H2 ⊢
          refine hK.out _ _ (H2.out.pick [3] []) (fun hHeld => ?_)
          clear hK K
          (try simp only [Act.put, List.setIfInBounds_toArray, List.set_cons_zero, List.set_cons_succ])
          have HX : Hid (Law w w2 m g T n G1 [⟨z11, zeroRP, 51⟩, ⟨z10, ansCells ans0, 47⟩, ⟨pb, pathCells (.slice A5 N c5) P, 37⟩, ⟨w.heap.size, useCells u, 29⟩] [⟨97, 3, .slice A7 N c7, P.steps.length, stepCells P.steps⟩, ⟨99, 3, .slice A5 N c5, P.steps.length, stepCells P.steps⟩]) := Lib.hid (H2.out.pick [0, 1, 2, 3] [0, 1])
          try clear hB2
          revert HZz11
          revert HZz10
          revert HL2
          revert HLL
          revert FD_2
          revert FB_2
          revert HX
          revert hHeld
          clear H2
          revert z11
          revert z10
          revert c9
          revert A9
          revert c8
          revert A8
          revert L2
          revert c7
          revert A7
          revert L
          revert c6
          revert A6
          revert w2
          exact key21
        exact AllReadyH.nil
      case t14 =>
        intro w1 A6 c6 L A7 c7 L2 A8 c8 A9 c9 z11 hHeld H1 FB_1 FD_1 HLL HL2 HZz11
        refine wpAnyH_ready (rs := [9, 10]) (by kernel_rfl) (by simp) ?_
        refine anyH_one rfl (fun K hK => ?_) ?_
        · go_simp
          have HZz9 := Lib.hid FB_1.out.h.size
          generalize hq2 : w1.alloc _ = w2
          have hB2 : Below w1.heap.size w1 w2 := by rw [← hq2]; exact below_alloc1 _ _
          have H2 := Lib.hid ((H1.out.new (b := w1.heap.size) rfl _ _).world hq2)
          have FB_2 := Lib.hid (FB_1.out.quiet hB2)
          have FD_2 := Lib.hid (FD_1.out.quiet hB2)
          clear H1 hq2 hB2 FB_1 FD_1
          generalize w1.heap.size = z9 at HZz9 H2 ⊢
          refine hK.out _ _ (H2.out.pick [3] []) (fun hHeld => ?_)
          clear hK K
          (try simp only [Act.put, List.setIfInBounds_toArray, List.set_cons_zero, List.set_cons_succ])
          have HX : Hid (Law w w2 m g T n G1 [⟨z11, zeroRP, 51⟩, ⟨z9, zeroMem, 45⟩, ⟨pb, pathCells (.slice A5 N c5) P, 37⟩, ⟨w.heap.size, useCells u, 29⟩] [⟨97, 3, .slice A7 N c7, P.steps.length, stepCells P.steps⟩, ⟨99, 3, .slice A5 N c5, P.steps.length, stepCells P.steps⟩]) := Lib.hid (H2.out.pick [1, 0, 2, 3] [0, 1])
          try clear hB2
          revert HZz11
          revert HZz9
          revert HL2
          revert HLL
          revert FD_2
          revert FB_2
          revert HX
          revert hHeld
          clear H2
          revert z11
          revert z9
          revert c9
          revert A9
          revert c8
          revert A8
          revert L2
          revert c7
          revert A7
          revert L
          revert c6
          revert A6
          revert w2
          exact key20
        refine anyH_one rfl (fun K hK => ?_) ?_
        · go_simp
          have HZz10 := Lib.hid FB_1.out.h.size
          generalize hq2 : w1.alloc _ = w2
          have hB2 : Below w1.heap.size w1 w2 := by rw [← hq2]; exact below_alloc1 _ _
          have H2 := Lib.hid ((H1.out.new (b := w1.heap.size) rfl _ _).world hq2)
          have FB_2 := Lib.hid (FB_1.out.quiet hB2)
          have FD_2 := Lib.hid (FD_1.out.quiet hB2)
          clear H1 hq2 hB2 FB_1 FD_1
          generalize w1.heap.size = z10 at HZz10 H2 ⊢
          refine hK.out _ _ (H2.out.pick [3] []) (fun hHeld => ?_)
          clear hK K
          (try simp only [Act.put, List.setIfInBounds_toArray, List.set_cons_zero, List.set_cons_succ])
          have HX : Hid (Law w w2 m g T n G1 [⟨z11, zeroRP, 51⟩, ⟨z10, ansCells ans0, 47⟩, ⟨pb, pathCells (.slice A5 N c5) P, 37⟩, ⟨w.heap.size, useCells u, 29⟩] [⟨97, 3, .slice A7 N c7, P.steps.length, stepCells P.steps⟩, ⟨99, 3, .slice A5 N c5, P.steps.length, stepCells P.steps⟩]) := Lib.hid (H2.out.pick [1, 0, 2, 3] [0, 1])
          try clear hB2
          revert HZz11
          revert HZz10
          revert HL2
          revert HLL
          revert FD_2
          revert FB_2
          revert HX
          revert hHeld
          clear H2
          revert z11
          revert z10
          revert c9
          revert A9
          revert c8
          revert A8
          revert L2
          revert c7
          revert A7
          revert L
          revert c6
          revert A6
          revert w2
          exact key21
        exact AllReadyH.nil
      case t15 =>
        intro w1 A6 c6 L z9 z10 hHeld H1 FB_1 FD_1 HLL HZz9 HZz10
        refine wpAnyH_ready (rs := [4, 11]) (by kernel_rfl) (by simp) ?_
        refine anyH_one rfl (fun K hK => ?_) ?_
        · go_simp
          refine (HT.out _ _ _ FD_1.out HLL.out).mono ?_
          rintro e w2 ⟨v2, vs2, vt2, L2, rfl, hD, hL2, hS, hB2⟩
          obtain ⟨A7, c7, hv⟩ := StepsOwn.form hS
          rw [HNN.out] at hv
          subst hv
          obtain ⟨A8, c8, A9, c9, rfl, rfl⟩ := Doc.form hD
          have FB_2 := Lib.hid (FB_1.out.quiet hB2)
          clear FB_1
          have H2 := Lib.hid (H1.out.made hB2 hS (Nat.le_refl _))
          have FD_2 := Lib.hid hD
          have HL2 := Lib.hid hL2
          clear hD hL2 hS hB2 H1 FD_1
          refine hK.out _ _ (H2.out.pick [3] []) (fun hHeld => ?_)
          clear hK K
          (try simp only [Act.put, List.setIfInBounds_toArray, List.set_cons_zero, List.set_cons_succ])
          refine tk (v := ?_) 5 ?_ ?_
          rotate_left
          · intro w hSw
            go_simp
            (try with_reducible rfl)
          (try simp only [Act.put, List.setIfInBounds_toArray, List.set_cons_zero, List.set_cons_succ])
          refine tk (v := ?_) 6 ?_ ?_
          rotate_left
          · intro w hSw
            go_simp
            (try with_reducible rfl)
          (try simp only [Act.put, List.setIfInBounds_toArray, List.set_cons_zero, List.set_cons_succ])
          refine tk (v := ?_) 7 ?_ ?_
          rotate_left
          · intro w hSw
            go_simp
            (try with_reducible rfl)
          (try simp only [Act.put, List.setIfInBounds_toArray, List.set_cons_zero, List.set_cons_succ])
          refine tk (v := ?_) 8 ?_ ?_
          rotate_left
          · intro w hSw
            go_simp
            (try with_reducible rfl)
          (try simp only [Act.put, List.setIfInBounds_toArray, List.set_cons_zero, List.set_cons_succ])
          have HX : Hid (Law w w2 m g T n G1 [⟨z10, ansCells ans0, 47⟩, ⟨z9, zeroMem, 45⟩, ⟨pb, pathCells (.slice A5 N c5) P, 37⟩, ⟨w.heap.size, useCells u, 29⟩] [⟨97, 3, .slice A7 N c7, P.steps.length, stepCells P.steps⟩, ⟨99, 3, .slice A5 N c5, P.steps.length, stepCells P.steps⟩]) := Lib.hid (H2.out.pick [0, 1, 2, 3] [0, 1])
          try clear hB2
          revert HZz10
          revert HZz9
          revert HL2
          revert HLL
          revert FD_2
          revert FB_2
          revert HX
          revert hHeld
          clear H2
          revert z10
          revert z9
          revert c9
          revert A9
          revert c8
          revert A8
          revert L2
          revert c7
          revert A7
          revert L
          revert c6
          revert A6
          revert w2
          exact key19
        refine anyH_one rfl (fun K hK => ?_) ?_
        · go_simp
          have HZz11 := Lib.hid FB_1.out.h.size
          generalize hq2 : w1.alloc _ = w2
          have hB2 : Below w1.heap.size w1 w2 := by rw [← hq2]; exact below_alloc1 _ _
          have H2 := Lib.hid ((H1.out.new (b := w1.heap.size) rfl _ _).world hq2)
          have FB_2 := Lib.hid (FB_1.out.quiet hB2)
          have FD_2 := Lib.hid (FD_1.out.quiet hB2)
          clear H1 hq2 hB2 FB_1 FD_1
          generalize w1.heap.size = z11 at HZz11 H2 ⊢
          refine hK.out _ _ (H2.out.pick [4] []) (fun hHeld => ?_)
          clear hK K
          (try simp only [Act.put, List.setIfInBounds_toArray, List.set_cons_zero, List.set_cons_succ])
          have HX : Hid (Law w w2 m g T n G1 [⟨z11, zeroRP, 51⟩, ⟨z10, ansCells ans0, 47⟩, ⟨z9, zeroMem, 45⟩, ⟨pb, pathCells (.slice A5 N c5) P, 37⟩, ⟨w.heap.size, useCells u, 29⟩] [⟨99, 3, .slice A5 N c5, P.steps.length, stepCells P.steps⟩]) := Lib.hid (H2.out.pick [0, 1, 2, 3, 4] [0])
          try clear hB2
          revert HZz11
          revert HZz10
          revert HZz9
          revert HLL
          revert FD_2
          revert FB_2
          revert HX
          revert hHeld
          clear H2
          revert z11
          revert z10
          revert z9
          revert L
          revert c6
          revert A6
          revert w2
          exact key22
        exact AllReadyH.nil
      case t16 =>
        intro w1 A6 c6 L z9 z11 hHeld H1 FB_1 FD_1 HLL HZz9 HZz11
        refine wpAnyH_ready (rs := [4, 10]) (by kernel_rfl) (by simp) ?_
        refine anyH_one rfl (fun K hK => ?_) ?_
        · go_simp
          refine (HT.out _ _ _ FD_1.out HLL.out).mono ?_
          rintro e w2 ⟨v2, vs2, vt2, L2, rfl, hD, hL2, hS, hB2⟩
          obtain ⟨A7, c7, hv⟩ := StepsOwn.form hS
          rw [HNN.out] at hv
          subst hv
          obtain ⟨A8, c8, A9, c9, rfl, rfl⟩ := Doc.form hD
          have FB_2 := Lib.hid (FB_1.out.quiet hB2)
          clear FB_1
          have H2 := Lib.hid (H1.out.made hB2 hS (Nat.le_refl _))
          have FD_2 := Lib.hid hD
          have HL2 := Lib.hid hL2
          clear hD hL2 hS hB2 H1 FD_1
          refine hK.out _ _ (H2.out.pick [3] []) (fun hHeld => ?_)
          clear hK K
          (try simp only [Act.put, List.setIfInBounds_toArray, List.set_cons_zero, List.set_cons_succ])
          refine tk (v := ?_) 5 ?_ ?_
          rotate_left
          · intro w hSw
            go_simp
            (try with_reducible rfl)
          (try simp only [Act.put, List.setIfInBounds_toArray, List.set_cons_zero, List.set_cons_succ])
          refine tk (v := ?_) 6 ?_ ?_
          rotate_left
          · intro w hSw
            go_simp
            (try with_reducible rfl)
          (try simp only [Act.put, List.setIfInBounds_toArray, List.set_cons_zero, List.set_cons_succ])
          refine tk (v := ?_) 7 ?_ ?_
          rotate_left
          · intro w hSw
            go_simp
            (try with_reducible rfl)
          (try simp only [Act.put, List.setIfInBounds_toArray, List.set_cons_zero, List.set_cons_succ])
          refine tk (v := ?_) 8 ?_ ?_
          rotate_left
          · intro w hSw
            go_simp
            (try with_reducible rfl)
          (try simp only [Act.put, List.setIfInBounds_toArray, List.set_cons_zero, List.set_cons_succ])
          have HX : Hid (Law w w2 m g T n G1 [⟨z11, zeroRP, 51⟩, ⟨z9, zeroMem, 45⟩, ⟨pb, pathCells (.slice A5 N c5) P, 37⟩, ⟨w.heap.size, useCells u, 29⟩] [⟨97, 3, .slice A7 N c7, P.steps.length, stepCells P.steps⟩, ⟨99, 3, .slice A5 N c5, P.steps.length, stepCells P.steps⟩]) := Lib.hid (H2.out.pick [0, 1, 2, 3] [0, 1])
          try clear hB2
          revert HZz11
          revert HZz9
          revert HL2
          revert HLL
          revert FD_2
          revert FB_2
          revert HX
          revert hHeld
          clear H2
          revert z11
          revert z9
          revert c9
          revert A9
          revert c8
          revert A8
          revert L2
          revert c7
          revert A7
          revert L
          revert c6
          revert A6
          revert w2
          exact key20
        refine anyH_one rfl (fun K hK => ?_) ?_
        · go_simp
          have HZz10 := Lib.hid FB_1.out.h.size
          generalize hq2 : w1.alloc _ = w2
          have hB2 : Below w1.heap.size w1 w2 := by rw [← hq2]; exact below_alloc1 _ _
          have H2 := Lib.hid ((H1.out.new (b := w1.heap.size) rfl _ _).world hq2)
          have FB_2 := Lib.hid (FB_1.out.quiet hB2)
          have FD_2 := Lib.hid (FD_1.out.quiet hB2)
          clear H1 hq2 hB2 FB_1 FD_1
          generalize w1.heap.size = z10 at HZz10 H2 ⊢
          refine hK.out _ _ (H2.out.pick [4] []) (fun hHeld => ?_)
          clear hK K
          (try simp only [Act.put, List.setIfInBounds_toArray, List.set_cons_zero, List.set_cons_succ])
          have HX : Hid (Law w w2 m g T n G1 [⟨z11, zeroRP, 51⟩, ⟨z10, ansCells ans0, 47⟩, ⟨z9, zeroMem, 45⟩, ⟨pb, pathCells (.slice A5 N c5) P, 37⟩, ⟨w.heap.size, useCells u, 29⟩] [⟨99, 3, .slice A5 N c5, P.steps.length, stepCells P.steps⟩]) := Lib.hid (H2.out.pick [1, 0, 2, 3, 4] [0])
          try clear hB2
          revert HZz11
          revert HZz10
          revert HZz9
          revert HLL
          revert FD_2
          revert FB_2
          revert HX
          revert hHeld
          clear H2
          revert z11
          revert z10
          revert z9
          revert L
          revert c6
          revert A6
          revert w2
          exact key22
        exact AllReadyH.nil
      case t17 =>
        intro w1 A6 c6 L z10 z11 hHeld H1 FB_1 FD_1 HLL HZz10 HZz11
        refine wpAnyH_ready (rs := [4, 9]) (by kernel_rfl) (by simp) ?_
        refine anyH_one rfl (fun K hK => ?_) ?_
        · go_simp
          refine (HT.out _ _ _ FD_1.out HLL.out).mono ?_
          rintro e w2 ⟨v2, vs2, vt2, L2, rfl, hD, hL2, hS, hB2⟩
          obtain ⟨A7, c7, hv⟩ := StepsOwn.form hS
          rw [HNN.out] at hv
          subst hv
          obtain ⟨A8, c8, A9, c9, rfl, rfl⟩ := Doc.form hD
          have FB_2 := Lib.hid (FB_1.out.quiet hB2)
          clear FB_1
          have H2 := Lib.hid (H1.out.made hB2 hS (Nat.le_refl _))
          have FD_2 := Lib.hid hD
          have HL2 := Lib.hid hL2
          clear hD hL2 hS hB2 H1 FD_1
          refine hK.out _ _ (H2.out.pick [3] []) (fun hHeld => ?_)
          clear hK K
          (try simp only [Act.put, List.setIfInBounds_toArray, List.set_cons_zero, List.set_cons_succ])
          refine tk (v := ?_) 5 ?_ ?_
          rotate_left
          · intro w hSw
            go_simp
            (try with_reducible rfl)
          (try simp only [Act.put, List.setIfInBounds_toArray, List.set_cons_zero, List.set_cons_succ])
          refine tk (v := ?_) 6 ?_ ?_
          rotate_left
          · intro w hSw
            go_simp
            (try with_reducible rfl)
          (try simp only [Act.put, List.setIfInBounds_toArray, List.set_cons_zero, List.set_cons_succ])
          refine tk (v := ?_) 7 ?_ ?_
          rotate_left
          · intro w hSw
            go_simp
            (try with_reducible rfl)
          (try simp only [Act.put, List.setIfInBounds_toArray, List.set_cons_zero, List.set_cons_succ])
          refine tk (v := ?_) 8 ?_ ?_
          rotate_left
          · intro w hSw
            go_simp
            (try with_reducible rfl)
          (try simp only [Act.put, List.setIfInBounds_toArray, List.set_cons_zero, List.set_cons_succ])
          have HX : Hid (Law w w2 m g T n G1 [⟨z11, zeroRP, 51⟩, ⟨z10, ansCells ans0, 47⟩, ⟨pb, pathCells (.slice A5 N c5) P, 37⟩, ⟨w.heap.size, useCells u, 29⟩] [⟨97, 3, .slice A7 N c7, P.steps.length, stepCells P.steps⟩, ⟨99, 3, .slice A5 N c5, P.steps.length, stepCells P.steps⟩]) := Lib.hid (H2.out.pick [0, 1, 2, 3] [0, 1])
          try clear hB2
          revert HZz11
          revert HZz10
          revert HL2
          revert HLL
          revert FD_2
          revert FB_2
          revert HX
          revert hHeld
          clear H2
          revert z11
          revert z10
          revert c9
          revert A9
          revert c8
          revert A8
          revert L2
          revert c7
          revert A7
          revert L
          revert c6
          revert A6
          revert w2
          exact key21
        refine anyH_one rfl (fun K hK => ?_) ?_
        · go_simp
          have HZz9 := Lib.hid FB_1.out.h.size
          generalize hq2 : w1.alloc _ = w2
          have hB2 : Below w1.heap.size w1 w2 := by rw [← hq2]; exact below_alloc1 _ _
          have H2 := Lib.hid ((H1.out.new (b := w1.heap.size) rfl _ _).world hq2)
          have FB_2 := Lib.hid (FB_1.out.quiet hB2)
          have FD_2 := Lib.hid (FD_1.out.quiet hB2)
          clear H1 hq2 hB2 FB_1 FD_1
          generalize w1.heap.size = z9 at HZz9 H2 ⊢
          refine hK.out _ _ (H2.out.pick [4] []) (fun hHeld => ?_)
          clear hK K
          (try simp only [Act.put, List.setIfInBounds_toArray, List.set_cons_zero, List.set_cons_succ])
          have HX : Hid (Law w w2 m g T n G1 [⟨z11, zeroRP, 51⟩, ⟨z10, ansCells ans0, 47⟩, ⟨z9, zeroMem, 45⟩, ⟨pb, pathCells (.slice A5 N c5) P, 37⟩, ⟨w.heap.size, useCells u, 29⟩] [⟨99, 3, .slice A5 N c5, P.steps.length, stepCells P.steps⟩]) := Lib.hid (H2.out.pick [1, 2, 0, 3, 4] [0])
          try clear hB2
          revert HZz11
          revert HZz10
          revert HZz9
          revert HLL
          revert FD_2
          revert FB_2
          revert HX
          revert hHeld
          clear H2
          revert z11
          revert z10
          revert z9
          revert L
          revert c6
          revert A6
          revert w2
          exact key22
        exact AllReadyH.nil
      case t18 =>
        intro w1 z9 z10 z11 hHeld H1 FB_1 HZz9 HZz10 HZz11
        refine wpAnyH_ready (rs := [1]) (by kernel_rfl) (by simp) ?_
        refine anyH_one rfl (fun K hK => ?_) ?_
        · go_simp
          refine (HC.out _ H1.out.below).mono ?_
          rintro e w2 ⟨vs, L, rfl, hD, hL, -, hB2⟩
          obtain ⟨A6, c6, _, _, rfl, _⟩ := Doc.form hD
          have H2 := Lib.hid (H1.out.quiet hB2)
          have FB_2 := Lib.hid (FB_1.out.quiet hB2)
          clear H1 FB_1
          have FD_2 := Lib.hid hD
          have HLL := Lib.hid hL
          clear hD hL
          refine hK.out _ _ (H2.out.pick [4] []) (fun hHeld => ?_)
          clear hK K
          (try simp only [Act.put, List.setIfInBounds_toArray, List.set_cons_zero, List.set_cons_succ])
          have HX : Hid (Law w w2 m g T n G1 [⟨z11, zeroRP, 51⟩, ⟨z10, ansCells ans0, 47⟩, ⟨z9, zeroMem, 45⟩, ⟨pb, pathCells (.slice A5 N c5) P, 37⟩, ⟨w.heap.size, useCells u, 29⟩] [⟨99, 3, .slice A5 N c5, P.steps.length, stepCells P.steps⟩]) := Lib.hid (H2.out.pick [0, 1, 2, 3, 4] [0])
          try clear hB2
          revert HZz11
          revert HZz10
          revert HZz9
          revert HLL
          revert FD_2
          revert FB_2
          revert HX
          revert hHeld
          clear H2
          revert z11
          revert z10
          revert z9
          revert L
          revert c6
          revert A6
          revert w2
          exact key22
        exact AllReadyH.nil
      case t19 =>
        intro w1 A6 c6 L A7 c7 L2 A8 c8 A9 c9 z9 z10 hHeld H1 FB_1 FD_1 HLL HL2 HZz9 HZz10
        refine wpAnyH_ready (rs := [11]) (by kernel_rfl) (by simp) ?_
        refine anyH_one rfl (fun K hK => ?_) ?_
        · go_simp
          have HZz11 := Lib.hid FB_1.out.h.size
          generalize hq2 : w1.alloc _ = w2
          have hB2 : Below w1.heap.size w1 w2 := by rw [← hq2]; exact below_alloc1 _ _
          have H2 := Lib.hid ((H1.out.new (b := w1.heap.size) rfl _ _).world hq2)
          have FB_2 := Lib.hid (FB_1.out.quiet hB2)
          have FD_2 := Lib.hid (FD_1.out.quiet hB2)
          clear H1 hq2 hB2 FB_1 FD_1
          generalize w1.heap.size = z11 at HZz11 H2 ⊢
          refine hK.out _ _ (H2.out.pick [4] []) (fun hHeld => ?_)
          clear hK K
          (try simp only [Act.put, List.setIfInBounds_toArray, List.set_cons_zero, List.set_cons_succ])
          have HX : Hid (Law w w2 m g T n G1 [⟨z11, zeroRP, 51⟩, ⟨z10, ansCells ans0, 47⟩, ⟨z9, zeroMem, 45⟩, ⟨pb, pathCells (.slice A5 N c5) P, 37⟩, ⟨w.heap.size, useCells u, 29⟩] [⟨97, 3, .slice A7 N c7, P.steps.length, stepCells P.steps⟩, ⟨99, 3, .slice A5 N c5, P.steps.length, stepCells P.steps⟩]) := Lib.hid (H2.out.pick [0, 1, 2, 3, 4] [0, 1])
          try clear hB2
          revert HZz11
          revert HZz10
          revert HZz9
          revert HL2
          revert HLL
          revert FD_2
          revert FB_2
          revert HX
          revert hHeld
          clear H2
          revert z11
          revert z10
          revert z9
          revert c9
          revert A9
          revert c8
          revert A8
          revert L2
          revert c7
          revert A7
          revert L
          revert c6
          revert A6
          revert w2
          exact key23
        exact AllReadyH.nil
      case t20 =>
        intro w1 A6 c6 L A7 c7 L2 A8 c8 A9 c9 z9 z11 hHeld H1 FB_1 FD_1 HLL HL2 HZz9 HZz11
        refine wpAnyH_ready (rs := [10]) (by kernel_rfl) (by simp) ?_
        refine anyH_one rfl (fun K hK => ?_) ?_
        · go_simp
          have HZz10 := Lib.hid FB_1.out.h.size
          generalize hq2 : w1.alloc _ = w2
          have hB2 : Below w1.heap.size w1 w2 := by rw [← hq2]; exact below_alloc1 _ _
          have H2 := Lib.hid ((H1.out.new (b := w1.heap.size) rfl _ _).world hq2)
          have FB_2 := Lib.hid (FB_1.out.quiet hB2)
          have FD_2 := Lib.hid (FD_1.out.quiet hB2)
          clear H1 hq2 hB2 FB_1 FD_1
          generalize w1.heap.size = z10 at HZz10 H2 ⊢
          refine hK.out _ _ (H2.out.pick [4] []) (fun hHeld => ?_)
          clear hK K
          (try simp only [Act.put, List.setIfInBounds_toArray, List.set_cons_zero, List.set_cons_succ])
          have HX : Hid (Law w w2 m g T n G1 [⟨z11, zeroRP, 51⟩, ⟨z10, ansCells ans0, 47⟩, ⟨z9, zeroMem, 45⟩, ⟨pb, pathCells (.slice A5 N c5) P, 37⟩, ⟨w.heap.size, useCells u, 29⟩] [⟨97, 3, .slice A7 N c7, P.steps.length, stepCells P.steps⟩, ⟨99, 3, .slice A5 N c5, P.steps.length, stepCells P.steps⟩]) := Lib.hid (H2.out.pick [1, 0, 2, 3, 4] [0, 1])
          try clear hB2
          revert HZz11
          revert HZz10
          revert HZz9
          revert HL2
          revert HLL
          revert FD_2
          revert FB_2
          revert HX
          revert hHeld
          clear H2
          revert z11
          revert z10
          revert z9
          revert c9
          revert A9
          revert c8
          revert A8
          revert L2
          revert c7
          revert A7
          revert L
          revert c6
          revert A6
          revert w2
          exact key23
        exact AllReadyH.nil
      case t21 =>
        intro w1 A6 c6 L A7 c7 L2 A8 c8 A9 c9 z10 z11 hHeld H1 FB_1 FD_1 HLL HL2 HZz10 HZz11
        refine wpAnyH_ready (rs := [9]) (by kernel_rfl) (by simp) ?_
        refine anyH_one rfl (fun K hK => ?_) ?_
        · go_simp
          have HZz9 := Lib.hid FB_1.out.h.size
          generalize hq2 : w1.alloc _ = w2
          have hB2 : Below w1.heap.size w1 w2 := by rw [← hq2]; exact below_alloc1 _ _
          have H2 := Lib.hid ((H1.out.new (b := w1.heap.size) rfl _ _).world hq2)
          have FB_2 := Lib.hid (FB_1.out.quiet hB2)
          have FD_2 := Lib.hid (FD_1.out.quiet hB2)
          clear H1 hq2 hB2 FB_1 FD_1
          generalize w1.heap.size = z9 at HZz9 H2 ⊢
          refine hK.out _ _ (H2.out.pick [4] []) (fun hHeld => ?_)
          clear hK K
          (try simp only [Act.put, List.setIfInBounds_toArray, List.set_cons_zero, List.set_cons_succ])
          have HX : Hid (Law w w2 m g T n G1 [⟨z11, zeroRP, 51⟩, ⟨z10, ansCells ans0, 47⟩, ⟨z9, zeroMem, 45⟩, ⟨pb, pathCells (.slice A5 N c5) P, 37⟩, ⟨w.heap.size, useCells u, 29⟩] [⟨97, 3, .slice A7 N c7, P.steps.length, stepCells P.steps⟩, ⟨99, 3, .slice A5 N c5, P.steps.length, stepCells P.steps⟩]) := Lib.hid (H2.out.pick [1, 2, 0, 3, 4] [0, 1])
          try clear hB2
          revert HZz11
          revert HZz10
          revert HZz9
          revert HL2
          revert HLL
          revert FD_2
          revert FB_2
          revert HX
          revert hHeld
          clear H2
          revert z11
          revert z10
          revert z9
          revert c9
          revert A9
          revert c8
          revert A8
          revert L2
          revert c7
          revert A7
          revert L
          revert c6
          revert A6
          revert w2
          exact key23
        exact AllReadyH.nil
      case t22 =>
        intro w1 A6 c6 L z9 z10 z11 hHeld H1 FB_1 FD_1 HLL HZz9 HZz10 HZz11
        refine wpAnyH_ready (rs := [4]) (by kernel_rfl) (by simp) ?_
        refine anyH_one rfl (fun K hK => ?_) ?_
        · go_simp
          refine (HT.out _ _ _ FD_1.out HLL.out).mono ?_
          rintro e w2 ⟨v2, vs2, vt2, L2, rfl, hD, hL2, hS, hB2⟩
          obtain ⟨A7, c7, hv⟩ := StepsOwn.form hS
          rw [HNN.out] at hv
          subst hv
          obtain ⟨A8, c8, A9, c9, rfl, rfl⟩ := Doc.form hD
          have FB_2 := Lib.hid (FB_1.out.quiet hB2)
          clear FB_1
          have H2 := Lib.hid (H1.out.made hB2 hS (Nat.le_refl _))
          have FD_2 := Lib.hid hD
          have HL2 := Lib.hid hL2
          clear hD hL2 hS hB2 H1 FD_1
          refine hK.out _ _ (H2.out.pick [4] []) (fun hHeld => ?_)
          clear hK K
          (try simp only [Act.put, List.setIfInBounds_toArray, List.set_cons_zero, List.set_cons_succ])
          refine tk (v := ?_) 5 ?_ ?_
          rotate_left
          · intro w hSw
            go_simp
            (try with_reducible rfl)
          (try simp only [Act.put, List.setIfInBounds_toArray, List.set_cons_zero, List.set_cons_succ])
          refine tk (v := ?_) 6 ?_ ?_
          rotate_left
          · intro w hSw
            go_simp
            (try with_reducible rfl)
          (try simp only [Act.put, List.setIfInBounds_toArray, List.set_cons_zero, List.set_cons_succ])
          refine tk (v := ?_) 7 ?_ ?_
          rotate_left
          · intro w hSw
            go_simp
            (try with_reducible rfl)
          (try simp only [Act.put, List.setIfInBounds_toArray, List.set_cons_zero, List.set_cons_succ])
          refine tk (v := ?_) 8 ?_ ?_
          rotate_left
          · intro w hSw
            go_simp
            (try with_reducible rfl)
          (try simp only [Act.put, List.setIfInBounds_toArray, List.set_cons_zero, List.set_cons_succ])
          have HX : Hid (Law w w2 m g T n G1 [⟨z11, zeroRP, 51⟩, ⟨z10, ansCells ans0, 47⟩, ⟨z9, zeroMem, 45⟩, ⟨pb, pathCells (.slice A5 N c5) P, 37⟩, ⟨w.heap.size, useCells u, 29⟩] [⟨97, 3, .slice A7 N c7, P.steps.length, stepCells P.steps⟩, ⟨99, 3, .slice A5 N c5, P.steps.length, stepCells P.steps⟩]) := Lib.hid (H2.out.pick [0, 1, 2, 3, 4] [0, 1])
          try clear hB2
          revert HZz11
          revert HZz10
          revert HZz9
          revert HL2
          revert HLL
          revert FD_2
          revert FB_2
          revert HX
          revert hHeld
          clear H2
          revert z11
          revert z10
          revert z9
          revert c9
          revert A9
          revert c8
          revert A8
          revert L2
          revert c7
          revert A7
          revert L
          revert c6
          revert A6
          revert w2
          exact key23
        exact AllReadyH.nil
      case t23 =>
        intro w1 A6 c6 L A7 c7 L2 A8 c8 A9 c9 z9 z10 z11 hHeld H1 FB_1 FD_1 HLL HL2 HZz9 HZz10 HZz11
        refine wpAnyH_ready (rs := [12]) (by kernel_rfl) (by simp) ?_
        refine anyH_one rfl (fun K hK => ?_) ?_
        · obtain ⟨r0, r1, r2⟩ := (H1.out.at_ 2 rfl).three
          have s0 := (H1.out.at_ 2 rfl).fz 0; have s1 := (H1.out.at_ 2 rfl).fz 1; have s2 := (H1.out.at_ 2 rfl).fz 2
          go_simp
          generalize hq2 : ((w1.setCell _ _).setCell _ _).setCell _ _ = w2
          have H2 := Lib.hid (H1.out.put3 2 rfl hq2)
          have FB_2 := Lib.hid (FB_1.out.put HZz9.out (hq2 ▸ turnB3 _ _ _ _ _))
          have FD_2 := Lib.hid (FD_1.out.box (H1.out.at_ 2 rfl) (by decide) (by decide) (hq2 ▸ turnB3 _ _ _ _ _))
          clear H1 hq2 r0 s0 r1 s1 r2 s2 FB_1 FD_1
          refine hK.out _ _ (H2.out.pick [4] []) (fun hHeld => ?_)
          clear hK K
          (try simp only [Act.put, List.setIfInBounds_toArray, List.set_cons_zero, List.set_cons_succ])
          have HX : Hid (Law w w2 m g T n G1 [⟨z11, zeroRP, 51⟩, ⟨z10, ansCells ans0, 47⟩, ⟨z9, docCells 16 (.slice A8 L2.length c8) (.slice A9 T.length c9), 45⟩, ⟨pb, pathCells (.slice A5 N c5) P, 37⟩, ⟨w.heap.size, useCells u, 29⟩] [⟨97, 3, .slice A7 N c7, P.steps.length, stepCells P.steps⟩, ⟨99, 3, .slice A5 N c5, P.steps.length, stepCells P.steps⟩]) := Lib.hid (H2.out.pick [0, 1, 2, 3, 4] [0, 1])
          try clear hB2
          revert HZz11
          revert HZz10
          revert HZz9
          revert HL2
          revert HLL
          revert FD_2
          revert FB_2
          revert HX
          revert hHeld
          clear H2
          revert z11
          revert z10
          revert z9
          revert c9
          revert A9
          revert c8
          revert A8
          revert L2
          revert c7
          revert A7
          revert L
          revert c6
          revert A6
          revert w2
          exact key24
        exact AllReadyH.nil
      case t24 =>
        intro w1 A6 c6 L A7 c7 L2 A8 c8 A9 c9 z9 z10 z11 hHeld H1 FB_1 FD_1 HLL HL2 HZz9 HZz10 HZz11
        refine wpAnyH_ready (rs := [13]) (by kernel_rfl) (by simp) ?_
        refine anyH_one rfl (fun K hK => ?_) ?_
        · obtain ⟨r0, r1, r2, r3⟩ := (H1.out.at_ 1 rfl).four
          have s0 := (H1.out.at_ 1 rfl).fz 0; have s1 := (H1.out.at_ 1 rfl).fz 1; have s2 := (H1.out.at_ 1 rfl).fz 2; have s3 := (H1.out.at_ 1 rfl).fz 3
          go_simp
          generalize hq2 : (((w1.setCell _ _).setCell _ _).setCell _ _).setCell _ _ = w2
          have H2 := Lib.hid (H1.out.put4 1 rfl hq2)
          have FB_2 := Lib.hid (FB_1.out.put HZz10.out (hq2 ▸ turnB4 _ _ _ _ _ _))
          have FD_2 := Lib.hid (FD_1.out.box (H1.out.at_ 1 rfl) (by decide) (by decide) (hq2 ▸ turnB4 _ _ _ _ _ _))
          clear H1 hq2 r0 s0 r1 s1 r2 s2 r3 s3 FB_1 FD_1
          refine hK.out _ _ (H2.out.pick [4] []) (fun hHeld => ?_)
          clear hK K
          (try simp only [Act.put, List.setIfInBounds_toArray, List.set_cons_zero, List.set_cons_succ])
          have HX : Hid (Law w w2 m g T n G1 [⟨z11, zeroRP, 51⟩, ⟨z10, ansCells X, 47⟩, ⟨z9, docCells 16 (.slice A8 L2.length c8) (.slice A9 T.length c9), 45⟩, ⟨pb, pathCells (.slice A5 N c5) P, 37⟩, ⟨w.heap.size, useCells u, 29⟩] [⟨97, 3, .slice A7 N c7, P.steps.length, stepCells P.steps⟩, ⟨99, 3, .slice A5 N c5, P.steps.length, stepCells P.steps⟩]) := Lib.hid (H2.out.pick [0, 1, 2, 3, 4] [0, 1])
          try clear hB2
          revert HZz11
          revert HZz10
          revert HZz9
          revert HL2
          revert HLL
          revert FD_2
          revert FB_2
          revert HX
          revert hHeld
          clear H2
          revert z11
          revert z10
          revert z9
          revert c9
          revert A9
          revert c8
          revert A8
          revert L2
          revert c7
          revert A7
          revert L
          revert c6
          revert A6
          revert w2
          exact key25
        exact AllReadyH.nil
      case t25 =>
        intro w1 A6 c6 L A7 c7 L2 A8 c8 A9 c9 z9 z10 z11 hHeld H1 FB_1 FD_1 HLL HL2 HZz9 HZz10 HZz11
        refine wpAnyH_ready (rs := [14]) (by kernel_rfl) (by simp) ?_
        refine anyH_one rfl (fun K hK => ?_) ?_
        · obtain ⟨r0, r1, r2, r3, r4, r5, r6⟩ := (H1.out.at_ 0 rfl).seven
          have s0 := (H1.out.at_ 0 rfl).fz 0; have s1 := (H1.out.at_ 0 rfl).fz 1; have s2 := (H1.out.at_ 0 rfl).fz 2; have s3 := (H1.out.at_ 0 rfl).fz 3; have s4 := (H1.out.at_ 0 rfl).fz 4; have s5 := (H1.out.at_ 0 rfl).fz 5; have s6 := (H1.out.at_ 0 rfl).fz 6
          go_simp
          generalize hq2 : ((((((w1.setCell _ _).setCell _ _).setCell _ _).setCell _ _).setCell _ _).setCell _ _).setCell _ _ = w2
          have H2 := Lib.hid (H1.out.put7 0 rfl hq2)
          have FB_2 := Lib.hid (FB_1.out.put HZz11.out (hq2 ▸ turnB7 _ _ _ _ _ _ _ _ _))
          have FD_2 := Lib.hid (FD_1.out.box (H1.out.at_ 0 rfl) (by decide) (by decide) (hq2 ▸ turnB7 _ _ _ _ _ _ _ _ _))
          clear H1 hq2 r0 s0 r1 s1 r2 s2 r3 s3 r4 s4 r5 s5 r6 s6 FB_1 FD_1
          refine hK.out _ _ (H2.out.pick [4] []) (fun hHeld => ?_)
          clear hK K
          (try simp only [Act.put, List.setIfInBounds_toArray, List.set_cons_zero, List.set_cons_succ])
          have HX : Hid (Law w w2 m g T n G1 [⟨z11, pathCells (.slice A7 N c7) P, 51⟩, ⟨z10, ansCells X, 47⟩, ⟨z9, docCells 16 (.slice A8 L2.length c8) (.slice A9 T.length c9), 45⟩, ⟨pb, pathCells (.slice A5 N c5) P, 37⟩, ⟨w.heap.size, useCells u, 29⟩] [⟨97, 3, .slice A7 N c7, P.steps.length, stepCells P.steps⟩, ⟨99, 3, .slice A5 N c5, P.steps.length, stepCells P.steps⟩]) := Lib.hid (H2.out.pick [0, 1, 2, 3, 4] [0, 1])
          try clear hB2
          revert HZz11
          revert HZz10
          revert HZz9
          revert HL2
          revert HLL
          revert FD_2
          revert FB_2
          revert HX
          revert hHeld
          clear H2
          revert z11
          revert z10
          revert z9
          revert c9
          revert A9
          revert c8
          revert A8
          revert L2
          revert c7
          revert A7
          revert L
          revert c6
          revert A6
          revert w2
          exact key26
        exact AllReadyH.nil
      case t26 =>
        intro w1 A6 c6 L A7 c7 L2 A8 c8 A9 c9 z9 z10 z11 hHeld H1 FB_1 FD_1 HLL HL2 HZz9 HZz10 HZz11
        refine wpAnyH_done (by kernel_rfl) ?_ _
        have HQ := Lib.hid (H1.out.pick [0, 1, 2, 3, 4] [0, 1])
        go_wp2
        go_meet
        case rel => exact ⟨z9, z10, z11, A7, A8, A9, c7, c8, c9, L2, rfl, rfl, rfl, HQ, FD_1, HL2, FB_1⟩
    case rest =>
      obtain ⟨z9, z10, z11, A7, A8, A9, c7, c8, c9, L2, rfl, rfl, rfl, H2, FD_2, HL2, FB_2⟩ := hcut
      clear H0 HT
      go_upto_region 7 with fail
      refine wp_region_held_drew (S := fun w' => Law w w' m g T n G1 _ _) (by kernel_rfl) ((H2.out.quiet (Kept.drew0 wc)).pick [0, 1, 2, 3] []) (fun hHeld => ?_)
      have H3 := Lib.hid (H2.out.quiet (Kept.drew0 wc))
      have FD_3 := Lib.hid (FD_2.out.quiet (Kept.drew0 wc))
      have FB_3 := Lib.hid (FB_2.out.quiet (Kept.drew0 wc))
      clear H2 FD_2 FB_2
      generalize wc.drew = w3 at *
      refine tk (v := ?_) 0 ?_ ?_
      rotate_left
      · intro w hSw
        go_simp
        (try with_reducible rfl)
      (try simp only [Act.put, List.setIfInBounds_toArray, List.set_cons_zero, List.set_cons_succ])
      refine tk (v := ?_) 1 ?_ ?_
      rotate_left
      · intro w hSw
        go_simp
        (try with_reducible rfl)
      (try simp only [Act.put, List.setIfInBounds_toArray, List.set_cons_zero, List.set_cons_succ])
      refine tk (v := ?_) 2 ?_ ?_
      rotate_left
      · intro w hSw
        go_simp
        (try with_reducible rfl)
      (try simp only [Act.put, List.setIfInBounds_toArray, List.set_cons_zero, List.set_cons_succ])
      refine tk (v := ?_) 3 ?_ ?_
      rotate_left
      · intro w hSw
        go_simp
        (try with_reducible rfl)
      (try simp only [Act.put, List.setIfInBounds_toArray, List.set_cons_zero, List.set_cons_succ])
      refine tk (v := ?_) 5 ?_ ?_
      rotate_left
      · intro w hSw
        obtain ⟨a0, a1, a2, a3⟩ := (hSw.at_ 1 rfl).four
        go_simp
        (try with_reducible rfl)
      (try simp only [Act.put, List.setIfInBounds_toArray, List.set_cons_zero, List.set_cons_succ])
      refine wpAnyH_ready (rs := [4]) (by kernel_rfl) (by simp) ?_
      refine anyH_one rfl (fun K hK => ?_) ?_
      · go_simp
        refine (HA.out _ FB_3.out.h).mono ?_
        rintro e w4 ⟨rfl, hB4⟩
        have H4 := Lib.hid (H3.out.quiet hB4)
        have FB_4 := Lib.hid (FB_3.out.quiet hB4)
        have FD_4 := Lib.hid (FD_3.out.quiet hB4)
        clear H3 FB_3 FD_3
        refine hK.out _ _ (H4.out.pick [0, 1, 2, 3] []) (fun hHeld => ?_)
        clear hK K
        (try simp only [Act.put, List.setIfInBounds_toArray, List.set_cons_zero, List.set_cons_succ])
        refine tk (v := ?_) 6 ?_ ?_
        rotate_left
        · intro w hSw
          go_simp
          (try with_reducible rfl)
        (try simp only [Act.put, List.setIfInBounds_toArray, List.set_cons_zero, List.set_cons_succ])
        refine tk (v := ?_) 7 ?_ ?_
        rotate_left
        · intro w hSw
          go_simp
          (try with_reducible rfl)
        (try simp only [Act.put, List.setIfInBounds_toArray, List.set_cons_zero, List.set_cons_succ])
        refine tk (v := ?_) 8 ?_ ?_
        rotate_left
        · intro w hSw
          go_simp
          (try with_reducible rfl)
        (try simp only [Act.put, List.setIfInBounds_toArray, List.set_cons_zero, List.set_cons_succ])
        refine tk (v := ?_) 9 ?_ ?_
        rotate_left
        · intro w hSw
          obtain ⟨b0, b1, b2, b3, b4, b5, b6⟩ := (hSw.at_ 3 rfl).seven
          go_simp
          (try with_reducible rfl)
        (try simp only [Act.put, List.setIfInBounds_toArray, List.set_cons_zero, List.set_cons_succ])
        refine tk (v := ?_) 11 ?_ ?_
        rotate_left
        · intro w hSw
          obtain ⟨b0, b1, b2, b3, b4, b5, b6⟩ := (hSw.at_ 0 rfl).seven
          go_simp
          (try with_reducible rfl)
        (try simp only [Act.put, List.setIfInBounds_toArray, List.set_cons_zero, List.set_cons_succ])
        refine wpAnyH_ready (rs := [10]) (by kernel_rfl) (by simp) ?_
        refine anyH_one rfl (fun K hK => ?_) ?_
        · go_simp
          refine (real_any _ A5 N c5 P HNN.out (StepsOwn.into (base := 0) (H4.out.of_ 1 rfl)) (by omega)).mono ?_
          rintro e w5 ⟨A1, c1, rfl, hS, hB5⟩
          have HS9 := Lib.hid (StepsOwn.into hS)
          clear hS
          have H5 := Lib.hid (H4.out.quiet hB5)
          have FB_5 := Lib.hid (FB_4.out.quiet hB5)
          have FD_5 := Lib.hid (FD_4.out.quiet hB5)
          clear H4 FB_4 FD_4
          refine hK.out _ _ (H5.out.pick [0, 1, 2, 3] []) (fun hHeld => ?_)
          clear hK K
          (try simp only [Act.put, List.setIfInBounds_toArray, List.set_cons_zero, List.set_cons_succ])
          refine wpAnyH_ready (rs := [12]) (by kernel_rfl) (by simp) ?_
          refine anyH_one rfl (fun K hK => ?_) ?_
          · go_simp
            refine (rsame_all _ P P A1 A7 N N c1 c7 HNN.out HNN.out HS9.out (StepsOwn.into (base := 0) (H5.out.of_ 0 rfl)) (by unfold maxLen; omega) HWw.out HWw.out).mono ?_
            rw [alikeP_self]
            rintro e w6 ⟨rfl, hB6⟩
            have H6 := Lib.hid (H5.out.quiet hB6)
            have FB_6 := Lib.hid (FB_5.out.quiet hB6)
            have FD_6 := Lib.hid (FD_5.out.quiet hB6)
            clear H5 FB_5 FD_5
            refine hK.out _ _ (H6.out.pick [0, 1, 2, 3] []) (fun hHeld => ?_)
            clear hK K
            (try simp only [Act.put, List.setIfInBounds_toArray, List.set_cons_zero, List.set_cons_succ])
            refine tk (v := ?_) 13 ?_ ?_
            rotate_left
            · intro w hSw
              go_simp
              (try with_reducible rfl)
            (try simp only [Act.put, List.setIfInBounds_toArray, List.set_cons_zero, List.set_cons_succ])
            refine tk (v := ?_) 14 ?_ ?_
            rotate_left
            · intro w hSw
              go_simp
              (try with_reducible rfl)
            (try simp only [Act.put, List.setIfInBounds_toArray, List.set_cons_zero, List.set_cons_succ])
            refine tk (v := ?_) 15 ?_ ?_
            rotate_left
            · intro w hSw
              go_simp
              (try with_reducible rfl)
            (try simp only [Act.put, List.setIfInBounds_toArray, List.set_cons_zero, List.set_cons_succ])
            refine tk (v := ?_) 16 ?_ ?_
            rotate_left
            · intro w hSw
              obtain ⟨c0, c1, c2⟩ := (hSw.at_ 2 rfl).three
              go_simp
              (try with_reducible rfl)
            (try simp only [Act.put, List.setIfInBounds_toArray, List.set_cons_zero, List.set_cons_succ])
            refine wpAnyH_ready (rs := [17]) (by kernel_rfl) (by simp) ?_
            refine anyH_one rfl (fun K hK => ?_) ?_
            · go_simp
              refine (same9_any H6.out.wk.mem FD_6.out (by have := HL2.out; omega) (by omega) (by omega)).mono ?_
              rintro e w7 ⟨rfl, hB7⟩
              have H7 := Lib.hid (H6.out.quiet hB7)
              have FB_7 := Lib.hid (FB_6.out.quiet hB7)
              have FD_7 := Lib.hid (FD_6.out.quiet hB7)
              clear H6 FB_6 FD_6
              refine hK.out _ _ (H7.out.pick [0, 1, 2, 3] []) (fun hHeld => ?_)
              clear hK K
              (try simp only [Act.put, List.setIfInBounds_toArray, List.set_cons_zero, List.set_cons_succ])
              refine tk (v := ?_) 18 ?_ ?_
              rotate_left
              · intro w hSw
                go_simp
                (try with_reducible rfl)
              (try simp only [Act.put, List.setIfInBounds_toArray, List.set_cons_zero, List.set_cons_succ])
              refine tk (v := ?_) 19 ?_ ?_
              rotate_left
              · intro w hSw
                go_simp
                (try with_reducible rfl)
              (try simp only [Act.put, List.setIfInBounds_toArray, List.set_cons_zero, List.set_cons_succ])
              refine wpAnyH_done (by kernel_rfl) ?_ _
              clear hHeld
              go_wp2
              go_ret
              exact ⟨rfl, H7.out.below⟩
            exact AllReadyH.nil
          exact AllReadyH.nil
        exact AllReadyH.nil
      exact AllReadyH.nil
end Go.Proofs.YtopmmlcjlopmaaaGreatDoor
