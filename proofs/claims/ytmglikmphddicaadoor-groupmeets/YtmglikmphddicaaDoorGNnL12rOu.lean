/- Several texts of ours in one: Nn, L12r, Ou. -/
import Derived.Test.YtmglikmphddicaaDoorGNaVaFr
import Derived.Test.YtmglikmphddicaaDoorGNhNkNm
import Derived.Test.YtmglikmphddicaaDoorGCaRN
import Derived.ProofKit
import Derived.OpenShut
import Derived.ChangeArms
/- Layer 12: plain mathematics of the laws: what a run's pages are; asked for another page; taken away one by one. Nothing of the program. -/
namespace Go.Proofs.YtmglikmphddicaaDoor
set_option linter.unusedVariables false
set_option linter.unusedSimpArgs false

theorem alike_parts {x y : Int} (h : alikeF x y = true) : bitF x 1 = bitF y 1 ∧ bitF x 2 = bitF y 2 ∧ bitF x 6 = bitF y 6 ∧ bitF x 63 = bitF y 63 := by
  unfold alikeF at h; simp only [Bool.and_eq_true, beq_iff_eq] at h; exact ⟨h.1.1.1, h.1.1.2, h.1.2, h.2⟩
theorem alike_of {x y : Int} (h1 : bitF x 1 = bitF y 1) (h2 : bitF x 2 = bitF y 2) (h6 : bitF x 6 = bitF y 6) (h63 : bitF x 63 = bitF y 63) : alikeF x y = true := by
  unfold alikeF; rw [h1, h2, h6, h63]; simp
theorem alike_same {x y z : Int} (h : alikeF y z = true) : alikeF x y = alikeF x z := by
  obtain ⟨h1, h2, h6, h63⟩ := alike_parts h
  unfold alikeF; rw [h1, h2, h6, h63]
theorem w64_tab (x : Int) : W64 (tableF x) := w64_table x
theorem frm_own (t a : Int) (h : W64 t) : frmF (frmF t (-a)) a = t := by
  rw [frm_frm, show -a + a = 0 by omega, frm_0 h]

section
variable {X : List Int} {a b : Int} {n : Bool}
theorem okRun_bd (h : okRun X a b n = true) : 0 ≤ a ∧ a ≤ 7 ∧ mapW (thW X a) b n = true := by
  unfold okRun at h; simp at h; exact ⟨h.1.1, h.1.2, h.2⟩
theorem okRun_mk (h0 : 0 ≤ a) (h7 : a ≤ 7) (h : mapW (thW X a) b n = true) : okRun X a b n = true := by unfold okRun; simp [h0, h7, h]
theorem has_run (h : okRun X a b n = true) (W U Y : Bool) {i : Int} (i0 : 0 ≤ i) (i7 : i ≤ 7) : hasG (runF X a b n W U Y) i = togF X a b n i := by
  rw [run_yes h]; exact has_runM X a b n i0 i7
theorem tog_own (X : List Int) (a b : Int) (n : Bool) : togF X a b n a = true := by unfold togF; simp
theorem tog_parts {i : Int} (h : togF X a b n i = true) (hi : i ≠ a) : mapW (thW X i) b n = true ∧ bitF (thW X i) 5 = true ∧ alikeF (thW X i) (thW X a) = true ∧ tableF (thW X i) = frmF (frmF (tableF (thW X a)) (-a)) i := by
  unfold togF withW at h
  simp [hi] at h
  exact ⟨h.1.1.1, h.1.1.2, h.1.2, h.2⟩
theorem map_bit0 {x : Int} (h : mapW x b n = true) : bitF x 0 = true := by unfold mapW at h; simp at h; exact h.1
/-- what a page of a run is told -/
theorem run_page (h : okRun X a b n = true) (W U Y : Bool) {i : Int} (i0 : 0 ≤ i) (i7 : i ≤ 7) (ht : togF X a b n i = true) :
    atG (runF X a b n W U Y) i = tableF (thW X i) ∧ bitF (thW X i) 0 = true ∧ bitF (thW X i) 1 = bitF (thW X a) 1 ∧ bitF (thW X i) 2 = bitF (thW X a) 2 ∧ bitF (thW X i) 63 = bitF (thW X a) 63 ∧ bitF (thW X i) 6 = bitF (thW X a) 6 ∧ (i ≠ a → bitF (thW X i) 5 = true) := by
  obtain ⟨a0, a7, hm⟩ := okRun_bd h
  have e : atG (runF X a b n W U Y) i = frmF (frmF (tableF (thW X a)) (-a)) i := by
    unfold atG
    rw [has_run h W U Y i0 i7, ht, if_pos rfl, run_yes h]
  rw [e]
  by_cases c : i = a
  · subst c
    exact ⟨frm_own _ _ (w64_tab _), map_bit0 hm, rfl, rfl, rfl, rfl, fun h => absurd rfl h⟩
  · obtain ⟨h1, h2, h3, h4⟩ := tog_parts ht c
    obtain ⟨g1, g2, g6, g63⟩ := alike_parts h3
    exact ⟨h4.symm, map_bit0 h1, g1, g2, g63, g6, fun _ => h2⟩
/-- asked for another page that it has -/
theorem run_meets (h : okRun X a b n = true) (W U Y : Bool) {k : Int} (k0 : 0 ≤ k) (k7 : k ≤ 7) (ht : togF X a b n k = true) (h5 : bitF (thW X a) 5 = true) : runF X k b n W U Y = runF X a b n W U Y := by
  obtain ⟨a0, a7, hm⟩ := okRun_bd h
  by_cases c : k = a
  · rw [c]
  · obtain ⟨p1, p2, p3, p4⟩ := tog_parts ht c
    obtain ⟨g1, g2, g6, g63⟩ := alike_parts p3
    have hk : okRun X k b n = true := okRun_mk k0 k7 p1
    have hf : frmF (tableF (thW X k)) (-k) = frmF (tableF (thW X a)) (-a) := by
      rw [p4, frm_frm, frm_frm]; congr 1; omega
    have hg : ∀ i : Int, togF X k b n i = togF X a b n i := by
      intro i
      by_cases ci : i = k
      · subst ci; rw [tog_own, ht]
      · by_cases ca : i = a
        · subst ca
          rw [tog_own]
          unfold togF withW
          rw [hm, h5, hf, alike_of g1.symm g2.symm g6.symm g63.symm, frm_own _ _ (w64_tab _)]
          simp
        · unfold togF withW
          rw [hf, alike_same p3]
          simp [ci, ca]
    have hM : runM X k b n 8 = runM X a b n 8 := has_ext (u8_runM _ _ _ _) (u8_runM _ _ _ _) fun i i0 i7 => by
      rw [has_runM X k b n i0 i7, has_runM X a b n i0 i7, hg]
    rw [run_yes hk, run_yes h, hf, hM, g1, g2, g6, g63]
end

/- BITS BY DIVISION -/
theorem bit_div {x : Int} (hx : W64 x) {k : Nat} (hk : k < 64) : bitF x (k : Int) = decide (x / 2 ^ k % 2 = 1) := by
  rw [bit_nat hx hk, tb_div hx.1]
theorem bit0_even {x : Int} (hx : W64 x) : (x % 2 == 0) = !bitF x 0 := by
  have := bit_div hx (k := 0) (by decide)
  rw [show ((0 : Nat) : Int) = 0 from rfl] at this
  rw [this, Bool.eq_iff_iff]; simp; omega
theorem bit5_even {x : Int} (hx : W64 x) : (x / 32 % 2 == 0) = !bitF x 5 := by
  have := bit_div hx (k := 5) (by decide)
  rw [show ((5 : Nat) : Int) = 5 from rfl] at this
  rw [this, Bool.eq_iff_iff]; simp; omega
theorem bit6_odd {x : Int} (hx : W64 x) : (x / 64 % 2 == 1) = bitF x 6 := by
  have := bit_div hx (k := 6) (by decide)
  rw [show ((6 : Nat) : Int) = 6 from rfl] at this
  rw [this, Bool.eq_iff_iff]; simp

/- TAKEN AWAY ONE BY ONE -/
def itG (l : Ln) : Nat → Ln
  | 0 => l
  | k + 1 => wthG (itG l k) (k : Int)
theorem ok_it {l : Ln} (h : OkL l) : ∀ k, OkL (itG l k)
  | 0 => h
  | k + 1 => ok_wth (ok_it h k) _
theorem has_it {l : Ln} (h : OkL l) (j : Int) : ∀ k : Nat, hasG (itG l k) j = true → (k : Int) ≤ j ∨ j < 0
  | 0, hj => by omega
  | k + 1, hj => by
    rw [show itG l (k + 1) = wthG (itG l k) (k : Int) from rfl, has_wth (ok_it h k)] at hj
    simp at hj
    rcases has_it h j k hj.1 with h1 | h1
    · left
      have h2 : (k : Int) ≠ j := by simpa using hj.2
      omega
    · exact Or.inr h1
theorem it_zero {l : Ln} (h : OkL l) : itG l 8 = zL := by
  have hz : clrM (itG l 7).2.2.2.2.2 7 = 0 := by
    refine zero_of (u8_clr (ok_it h 7) _) fun i i0 i7 => ?_
    have e := mask_wth (itG l 7) 7
    cases hc : hasM (clrM (itG l 7).2.2.2.2.2 7) i
    · rfl
    · have : hasG (itG l 8) i = true := by
        show hasM (wthG (itG l 7) 7).2.2.2.2.2 i = true
        rw [e]; exact hc
      have := has_it h i 8 this
      omega
  show wthG (itG l 7) 7 = zL
  unfold wthG; rw [if_pos hz]

/- A SLOT'S GROUP -/
theorem slt_at {s : Int} (h : s % 8 = 0) : ∃ k : Nat, k < 8 ∧ sltF s k = s ∧ (k : Int) = s % 64 / 8 := by
  refine ⟨(s % 64 / 8).toNat, by omega, ?_, by omega⟩
  unfold sltF; omega
theorem slt_base (s : Int) : sltF s 0 % 64 = 0 := by unfold sltF; omega
theorem slt_next (s i : Int) : sltF s i = sltF s 0 + 8 * i := by unfold sltF; omega
theorem slt_same (s : Int) {j : Int} (j0 : 0 ≤ j) (j7 : j ≤ 7) (i : Int) : sltF (sltF s j) i = sltF s i := by unfold sltF; omega
end Go.Proofs.YtmglikmphddicaaDoor
/- The walk of GroupRuns. (Laid by tools/gen_l12.py.) -/
namespace Go.Proofs.YtmglikmphddicaaDoor
set_option linter.unusedVariables false
set_option linter.unusedSimpArgs false
open Go.ChangeShapes Go.WideShapes Go.ChangeAt Go.RowKit Go.Joins

set_option maxRecDepth 100000 in
set_option maxHeartbeats 3200000 in
theorem groupRuns_walk (s : Sn) (w : World) (hs : OkS s) (hp : PagesT w) :
    Calls Tryd.prog 3 #[seenV s] w fun e w' => e = .returned (.bool true) ∧ Below w.heap.size w w' := by
  obtain ⟨l, hl⟩ : ∃ l, runF s.X s.a s.b s.n s.W s.U s.Y = l := ⟨_, rfl⟩
  have CR : ∀ w', PagesT w' → Calls Tryd.prog 11 #[seenV s] w' fun e w'' => e = .returned (lineV l) ∧ Below w'.heap.size w' w'' := fun w' hp' => by
    have h := grun_any s w' hs hp'; unfold RunPost at h; rwa [hl] at h
  have CD : ∀ w', Calls Tryd.prog 12 #[seenV s] w' fun e w'' => e = .returned (lineV l) ∧ Below w'.heap.size w' w'' := fun w' => by
    have h := rrun_any s w' hs; unfold RunPost at h; rwa [hl] at h
  have hq := eqlD l
  have HT := Lib.hid hp
  have H0 := Lib.hid ((Mine.start w).new (b := w.heap.size) rfl (seenC s) 27)
  clear hp hs hl
  go_enter Tryd.func3, Tryd.ntmps3
  go_upto_region 1 with fail
  generalize hw0 : w.alloc _ = w0
  have H1 := Lib.hid (H0.out.world hw0)
  clear hw0 H0
  go_upto_region 2 with (go_at_call 9; refine (awake12_any _ (pages_keep HT.out H1.out.below (Nat.le_refl _))).mono ?_; rintro e w2 ⟨rfl, hb⟩; have H2 := Lib.hid (H1.out.quiet hb); clear hb H1)
  refine wp_region_held_drew (S := fun w' => Mine w w' [⟨w.heap.size, seenC s, 27⟩] []) (by kernel_rfl) ((H2.out.quiet (Kept.drew0 _))) (fun hHeld => ?_)
  have H20 := Lib.hid ((H2.out.quiet (Kept.drew0 _)))
  clear H2
  generalize w2.drew = w20 at *
  refine tk (v := ?_) 0 ?_ ?_
  rotate_left
  · intro w hSw
    go_simp
    (try with_reducible rfl)
  (try simp only [Act.put, List.setIfInBounds_toArray, List.set_cons_zero, List.set_cons_succ])
  refine tk (v := ?_) 1 ?_ ?_
  rotate_left
  · intro w hSw
    go_simp
    (try with_reducible rfl)
  (try simp only [Act.put, List.setIfInBounds_toArray, List.set_cons_zero, List.set_cons_succ])
  refine tk (v := ?_) 2 ?_ ?_
  rotate_left
  · intro w hSw
    obtain ⟨c0, c1, c2, c3, c4, c5, c6, c7, c8, c9, c10, c11, c12, c13⟩ := (hSw.at_ 0 rfl).seen
    go_simp
    (try with_reducible rfl)
  (try simp only [Act.put, List.setIfInBounds_toArray, List.set_cons_zero, List.set_cons_succ])
  refine tk (v := ?_) 5 ?_ ?_
  rotate_left
  · intro w hSw
    obtain ⟨c0, c1, c2, c3, c4, c5, c6, c7, c8, c9, c10, c11, c12, c13⟩ := (hSw.at_ 0 rfl).seen
    go_simp
    (try with_reducible rfl)
  (try simp only [Act.put, List.setIfInBounds_toArray, List.set_cons_zero, List.set_cons_succ])
  refine wpAnyH_ready (rs := [3]) (by kernel_rfl) (by simp) ?_
  refine anyH_one rfl (fun K hK => ?_) ?_
  · go_simp
    refine (CR _ (pages_keep HT.out H20.out.below (Nat.le_refl _))).mono ?_
    rintro e w21 ⟨rfl, hB21⟩
    have H21 := Lib.hid (H20.out.quiet hB21)
    clear H20
    refine hK.out _ _ (H21.out.pick [0] []) (fun hHeld => ?_)
    clear hK K
    (try simp only [Act.put, List.setIfInBounds_toArray, List.set_cons_zero, List.set_cons_succ])
    refine wpAnyH_ready (rs := [4]) (by kernel_rfl) (by simp) ?_
    refine anyH_one rfl (fun K hK => ?_) ?_
    · go_simp
      refine (lined12_any l _).mono ?_
      rintro e w22 ⟨rfl, hB22⟩
      have H22 := Lib.hid (H21.out.quiet hB22)
      clear H21
      refine hK.out _ _ (H22.out.pick [0] []) (fun hHeld => ?_)
      clear hK K
      (try simp only [Act.put, List.setIfInBounds_toArray, List.set_cons_zero, List.set_cons_succ])
      refine wpAnyH_ready (rs := [6]) (by kernel_rfl) (by simp) ?_
      refine anyH_one rfl (fun K hK => ?_) ?_
      · go_simp
        refine (seen12_any s _).mono ?_
        rintro e w23 ⟨rfl, hB23⟩
        have H23 := Lib.hid (H22.out.quiet hB23)
        clear H22
        refine hK.out _ _ (H23.out.pick [0] []) (fun hHeld => ?_)
        clear hK K
        (try simp only [Act.put, List.setIfInBounds_toArray, List.set_cons_zero, List.set_cons_succ])
        refine wpAnyH_ready (rs := [7]) (by kernel_rfl) (by simp) ?_
        refine anyH_one rfl (fun K hK => ?_) ?_
        · go_simp
          refine (CD _).mono ?_
          rintro e w24 ⟨rfl, hB24⟩
          have H24 := Lib.hid (H23.out.quiet hB24)
          clear H23
          refine hK.out _ _ (H24.out.pick [0] []) (fun hHeld => ?_)
          clear hK K
          (try simp only [Act.put, List.setIfInBounds_toArray, List.set_cons_zero, List.set_cons_succ])
          refine tk (v := ?_) 8 ?_ ?_
          rotate_left
          · intro w hSw
            go_simp
            (try with_reducible rfl)
          (try simp only [Act.put, List.setIfInBounds_toArray, List.set_cons_zero, List.set_cons_succ])
          refine tk (v := ?_) 9 ?_ ?_
          rotate_left
          · intro w hSw
            go_simp
            (try with_reducible rfl)
          (try simp only [Act.put, List.setIfInBounds_toArray, List.set_cons_zero, List.set_cons_succ])
          refine tk (v := ?_) 10 ?_ ?_
          rotate_left
          · intro w hSw
            go_simp
            (try with_reducible rfl)
          (try simp only [Act.put, List.setIfInBounds_toArray, List.set_cons_zero, List.set_cons_succ])
          refine wpAnyH_done (by kernel_rfl) ?_ _
          clear hHeld
          go_wp2
          go_ret
          exact ⟨rfl, H24.out.below⟩
        exact AllReadyH.nil
      exact AllReadyH.nil
    exact AllReadyH.nil
  exact AllReadyH.nil
end Go.Proofs.YtmglikmphddicaaDoor
/- An access with a root and control bits, by value, as an argument. (Laid by tools/gen_ou.py.) -/
namespace Go.Proofs.YtmglikmphddicaaDoor
set_option linter.unusedVariables false
set_option linter.unusedSimpArgs false
open Go.ChangeShapes Go.WideShapes Go.ChangeAt Go.RowKit

theorem listN3 {α : Type} {zs : List α} (h : zs.length = 3) : ∃ x0 x1 x2, zs = [x0, x1, x2] := by
  match zs, h with
  | [x0, x1, x2], _ => exact ⟨x0, x1, x2, rfl⟩
theorem listN4 {α : Type} {zs : List α} (h : zs.length = 4) : ∃ x0 x1 x2 x3, zs = [x0, x1, x2, x3] := by
  match zs, h with
  | [x0, x1, x2, x3], _ => exact ⟨x0, x1, x2, x3, rfl⟩
theorem listN8 {α : Type} {zs : List α} (h : zs.length = 8) : ∃ x0 x1 x2 x3 x4 x5 x6 x7, zs = [x0, x1, x2, x3, x4, x5, x6, x7] := by
  match zs, h with
  | [x0, x1, x2, x3, x4, x5, x6, x7], _ => exact ⟨x0, x1, x2, x3, x4, x5, x6, x7, rfl⟩
end Go.Proofs.YtmglikmphddicaaDoor
