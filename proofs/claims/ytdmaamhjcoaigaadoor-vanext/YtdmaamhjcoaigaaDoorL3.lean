/- The walks of VaTells, VaPages, VaNext and VaNone. -/
import Derived.Test.YtdmaamhjcoaigaaDoorVr
import Derived.Test.YtdmaamhjcoaigaaDoorFr
namespace Go.Proofs.YtdmaamhjcoaigaaDoor
set_option linter.unusedVariables false
set_option linter.unusedSimpArgs false
open Go.ChangeShapes Go.WideShapes Go.ChangeAt Go.RowKit Go.Joins

theorem vaw : nextB 140737488351232 = false ∧ nextB 4660 = true ∧ nextF 4660 = 8192 ∧ indexF 4096 1 = 1 ∧ canonF 0 = true ∧ canonF 140737488355328 = false ∧ sizeF 2 = 2097152 := by decide +kernel

theorem w64_aw1 : W64 140737488351232 := ⟨by decide, by decide⟩
theorem w64_aw2 : W64 4660 := ⟨by decide, by decide⟩
theorem w64_aw3 : W64 140737488355328 := ⟨by decide, by decide⟩
theorem w64_aw4 : W64 4096 := ⟨by decide, by decide⟩

theorem awake3_any (w : World) (hs : Shifts w) :
    Calls Tryd.prog 9 #[] w fun e w' => e = .returned (.bool true) ∧ w = w' := by
  obtain ⟨h1, h2, h3, h4, h5, h6, h7⟩ := vaw
  go_enter Tryd.func9, Tryd.ntmps9
  go_wp2_with (first | (go_at_call 10; refine (next_any _ _ hs (by first | exact w64_aw1 | exact w64_aw2)).mono ?_; rintro e w' ⟨rfl, rfl⟩) | (go_at_call 16; refine (index_any _ _ _ hs w64_aw4).mono ?_; rintro e w' ⟨rfl, rfl⟩) | (go_at_call 12; refine (canon_any _ _ (by first | exact w64_zero | exact w64_aw3)).mono ?_; rintro e w' ⟨rfl, rfl⟩) | (go_at_call 18; refine (size_any _ _ hs).mono ?_; rintro e w' ⟨rfl, rfl⟩))
  go_ret
  exact ⟨rfl, rfl⟩

set_option maxRecDepth 100000 in
theorem vaTells_walk (a l : Int) (w : World) (hs : Shifts w) (ha : W64 a) :
    Calls Tryd.prog 3 #[.int .u64 a, .int .i64 l] w fun e w' => e = .returned (.bool true) ∧ w = w' := by
  have a0 := ha.1
  go_enter Tryd.func3, Tryd.ntmps3
  go_wp2_with (first | (go_at_call 9; refine (awake3_any _ hs).mono ?_; rintro e w' ⟨rfl, rfl⟩) | (go_at_call 10; refine (next_any _ _ hs ha).mono ?_; rintro e w' ⟨rfl, rfl⟩) | (go_at_call 11; refine (rnext_any _ _ ha).mono ?_; rintro e w' ⟨rfl, rfl⟩) | (go_at_call 12; refine (canon_any _ _ ha).mono ?_; rintro e w' ⟨rfl, rfl⟩) | (go_at_call 13; refine (rcanon_any _ _ ha).mono ?_; rintro e w' ⟨rfl, rfl⟩) | (go_at_call 14; refine (sign_any _ _ ha).mono ?_; rintro e w' ⟨rfl, rfl⟩) | (go_at_call 15; refine (rsign_any _ _ ha).mono ?_; rintro e w' ⟨rfl, rfl⟩) | (go_at_call 16; refine (index_any _ _ _ hs ha).mono ?_; rintro e w' ⟨rfl, rfl⟩) | (go_at_call 17; refine (rindex_any _ _ _ ha).mono ?_; rintro e w' ⟨rfl, rfl⟩) | (go_at_call 18; refine (size_any _ _ hs).mono ?_; rintro e w' ⟨rfl, rfl⟩) | (go_at_call 19; refine (rsize_any _ _).mono ?_; rintro e w' ⟨rfl, rfl⟩) | (go_at_call 20; refine (page_any _ _ _ hs ha).mono ?_; rintro e w' ⟨rfl, rfl⟩) | (go_at_call 21; refine (rpage_any _ _ _ ha).mono ?_; rintro e w' ⟨rfl, rfl⟩) | (go_at_call 22; refine (low_any _ _ _ hs a0).mono ?_; rintro e w' ⟨rfl, rfl⟩) | (go_at_call 23; refine (rlow_any _ _ _ a0).mono ?_; rintro e w' ⟨rfl, rfl⟩))
  go_ret
  exact ⟨rfl, rfl⟩

theorem page_no (a : Int) {l : Int} (h : l < 1 ∨ 3 < l) : pageF a l = a := by
  have e : sizeF l = 0 := by unfold sizeF; rw [if_neg (by omega), if_neg (by omega), if_neg (by omega)]
  unfold pageF lowF; rw [if_pos e]; omega
theorem index_no (a : Int) {l : Int} (h : l < 1 ∨ 4 < l) : indexF a l = 0 := by
  unfold indexF; rw [if_neg (by omega), if_neg (by omega), if_neg (by omega), if_neg (by omega)]
theorem low_zero (a : Int) : lowF a 0 = 0 := rfl
theorem size_four : sizeF 4 = 0 := rfl

set_option maxRecDepth 100000 in
theorem vaNone_walk (a l : Int) (w : World) (hs : Shifts w) (ha : W64 a) (l0 : 0 ≤ l) (l1 : l ≤ 255) :
    Calls Tryd.prog 8 #[.int .u64 a, .int .u8 l] w fun e w' => e = .returned (.bool true) ∧ w = w' := by
  have e1 := index_no a (l := 5 + l) (by omega)
  have e2 := index_no a (l := -l) (by omega)
  have e3 := page_no a (l := 5 + l) (by omega)
  have e4 := page_no a (l := 4) (by omega)
  have e5 := low_zero a
  have e6 := size_four
  have a0 := ha.1
  go_enter Tryd.func8, Tryd.ntmps8
  go_wp2_with (first | (go_at_call 9; refine (awake3_any _ hs).mono ?_; rintro e w' ⟨rfl, rfl⟩) | (go_at_call 16; refine (index_any _ _ _ hs ha).mono ?_; rintro e w' ⟨rfl, rfl⟩) | (go_at_call 18; refine (size_any _ _ hs).mono ?_; rintro e w' ⟨rfl, rfl⟩) | (go_at_call 20; refine (page_any _ _ _ hs ha).mono ?_; rintro e w' ⟨rfl, rfl⟩) | (go_at_call 22; refine (low_any _ _ _ hs a0).mono ?_; rintro e w' ⟨rfl, rfl⟩))
  go_ret
  exact ⟨rfl, rfl⟩

theorem one_any (b : Bool) (w : World) :
    Calls Tryd.prog 26 #[.bool b] w fun e w' => e = .returned (.int .u64 (if b then 1 else 0)) ∧ w = w' := by
  cases b
  · go_enter Tryd.func26, Tryd.ntmps26
    go_wp2
    go_ret
    exact ⟨rfl, rfl⟩
  · go_enter Tryd.func26, Tryd.ntmps26
    go_wp2
    go_ret
    exact ⟨rfl, rfl⟩

theorem page_low {a : Int} (ha : W64 a) (l : Int) : IntKind.u64.wrap (pageF a l + lowF a l) = a := by
  obtain ⟨h0, h1⟩ := ha
  rw [IntKind.wrap_u64]; unfold pageF; omega
theorem low_lt (a : Int) {l : Int} (h0 : 1 ≤ l) (h1 : l ≤ 3) : lowF a l < sizeF l := by
  obtain rfl | rfl | rfl : l = 1 ∨ l = 2 ∨ l = 3 := by omega
  · show a % 4096 < 4096; omega
  · show a % 2097152 < 2097152; omega
  · show a % 1073741824 < 1073741824; omega
theorem page_page (a : Int) {l : Int} (h0 : 1 ≤ l) (h1 : l ≤ 3) : pageF (pageF a l) l = pageF a l := by
  obtain rfl | rfl | rfl : l = 1 ∨ l = 2 ∨ l = 3 := by omega
  · unfold pageF; rw [low1, low1]; omega
  · unfold pageF; rw [low2, low2]; omega
  · unfold pageF; rw [low3, low3]; omega
theorem page_up {a b : Int} {l : Int} (h0 : 1 ≤ l) (h1 : l ≤ 2) (h : (pageF a l == pageF b l) = true) : (pageF a (l + 1) == pageF b (l + 1)) = true := by
  rw [beq_iff_eq] at *
  obtain rfl | rfl : l = 1 ∨ l = 2 := by omega
  · show pageF a 2 = pageF b 2
    unfold pageF at *; rw [low1, low1] at h; rw [low2, low2]; omega
  · show pageF a 3 = pageF b 3
    unfold pageF at *; rw [low2, low2] at h; rw [low3, low3]; omega

theorem sizes : sizeF 0 = 0 ∧ sizeF 1 = 4096 ∧ sizeF 2 = 2097152 ∧ sizeF 3 = 1073741824 := ⟨rfl, rfl, rfl, rfl⟩

set_option maxRecDepth 100000 in
set_option maxHeartbeats 1000000 in
theorem vaPages_walk (a b l : Int) (w : World) (hs : Shifts w) (ha : W64 a) (hb : W64 b) (l0 : 0 ≤ l) (l1 : l ≤ 255) :
    Calls Tryd.prog 6 #[.int .u64 a, .int .u64 b, .int .u8 l] w fun e w' => e = .returned (.bool true) ∧ w = w' := by
  have a0 := ha.1
  obtain ⟨z0, z1, z2, z3⟩ := sizes
  obtain hk | hk | hk : l % 3 = 0 ∨ l % 3 = 1 ∨ l % 3 = 2 := by omega
  · have e1 := page_low ha 1
    have e2 := low_lt a (l := 1) (by decide) (by decide)
    have e3 := page_page a (l := 1) (by decide) (by decide)
    have hp := w64_page ha 1
    rw [z1] at e2
    cases hc : (pageF a 1 == pageF b 1)
    · go_enter Tryd.func6, Tryd.ntmps6
      go_wp2_with (first | (go_at_call 9; refine (awake3_any _ hs).mono ?_; rintro e w' ⟨rfl, rfl⟩) | (go_at_call 26; refine (one_any _ _).mono ?_; rintro e w' ⟨rfl, rfl⟩) | (go_at_call 18; refine (size_any _ _ hs).mono ?_; rintro e w' ⟨rfl, rfl⟩) | (go_at_call 20; refine (page_any _ _ _ hs (by first | exact ha | exact hb | exact hp)).mono ?_; rintro e w' ⟨rfl, rfl⟩) | (go_at_call 22; refine (low_any _ _ _ hs a0).mono ?_; rintro e w' ⟨rfl, rfl⟩))
      go_ret
      exact ⟨rfl, rfl⟩
    · have hd := page_up (l := 1) (by decide) (by decide) hc
      replace hd : (pageF a 2 == pageF b 2) = true := hd
      go_enter Tryd.func6, Tryd.ntmps6
      go_wp2_with (first | (go_at_call 9; refine (awake3_any _ hs).mono ?_; rintro e w' ⟨rfl, rfl⟩) | (go_at_call 26; refine (one_any _ _).mono ?_; rintro e w' ⟨rfl, rfl⟩) | (go_at_call 18; refine (size_any _ _ hs).mono ?_; rintro e w' ⟨rfl, rfl⟩) | (go_at_call 20; refine (page_any _ _ _ hs (by first | exact ha | exact hb | exact hp)).mono ?_; rintro e w' ⟨rfl, rfl⟩) | (go_at_call 22; refine (low_any _ _ _ hs a0).mono ?_; rintro e w' ⟨rfl, rfl⟩))
      go_ret
      exact ⟨rfl, rfl⟩
  · have e1 := page_low ha 2
    have e2 := low_lt a (l := 2) (by decide) (by decide)
    have e3 := page_page a (l := 2) (by decide) (by decide)
    have hp := w64_page ha 2
    rw [z2] at e2
    cases hc : (pageF a 2 == pageF b 2)
    · go_enter Tryd.func6, Tryd.ntmps6
      go_wp2_with (first | (go_at_call 9; refine (awake3_any _ hs).mono ?_; rintro e w' ⟨rfl, rfl⟩) | (go_at_call 26; refine (one_any _ _).mono ?_; rintro e w' ⟨rfl, rfl⟩) | (go_at_call 18; refine (size_any _ _ hs).mono ?_; rintro e w' ⟨rfl, rfl⟩) | (go_at_call 20; refine (page_any _ _ _ hs (by first | exact ha | exact hb | exact hp)).mono ?_; rintro e w' ⟨rfl, rfl⟩) | (go_at_call 22; refine (low_any _ _ _ hs a0).mono ?_; rintro e w' ⟨rfl, rfl⟩))
      go_ret
      exact ⟨rfl, rfl⟩
    · have hd := page_up (l := 2) (by decide) (by decide) hc
      replace hd : (pageF a 3 == pageF b 3) = true := hd
      go_enter Tryd.func6, Tryd.ntmps6
      go_wp2_with (first | (go_at_call 9; refine (awake3_any _ hs).mono ?_; rintro e w' ⟨rfl, rfl⟩) | (go_at_call 26; refine (one_any _ _).mono ?_; rintro e w' ⟨rfl, rfl⟩) | (go_at_call 18; refine (size_any _ _ hs).mono ?_; rintro e w' ⟨rfl, rfl⟩) | (go_at_call 20; refine (page_any _ _ _ hs (by first | exact ha | exact hb | exact hp)).mono ?_; rintro e w' ⟨rfl, rfl⟩) | (go_at_call 22; refine (low_any _ _ _ hs a0).mono ?_; rintro e w' ⟨rfl, rfl⟩))
      go_ret
      exact ⟨rfl, rfl⟩
  · have e1 := page_low ha 3
    have e2 := low_lt a (l := 3) (by decide) (by decide)
    have e3 := page_page a (l := 3) (by decide) (by decide)
    have hp := w64_page ha 3
    rw [z3] at e2
    cases hc : (pageF a 3 == pageF b 3)
    · go_enter Tryd.func6, Tryd.ntmps6
      go_wp2_with (first | (go_at_call 9; refine (awake3_any _ hs).mono ?_; rintro e w' ⟨rfl, rfl⟩) | (go_at_call 26; refine (one_any _ _).mono ?_; rintro e w' ⟨rfl, rfl⟩) | (go_at_call 18; refine (size_any _ _ hs).mono ?_; rintro e w' ⟨rfl, rfl⟩) | (go_at_call 20; refine (page_any _ _ _ hs (by first | exact ha | exact hb | exact hp)).mono ?_; rintro e w' ⟨rfl, rfl⟩) | (go_at_call 22; refine (low_any _ _ _ hs a0).mono ?_; rintro e w' ⟨rfl, rfl⟩))
      go_ret
      exact ⟨rfl, rfl⟩
    · go_enter Tryd.func6, Tryd.ntmps6
      go_wp2_with (first | (go_at_call 9; refine (awake3_any _ hs).mono ?_; rintro e w' ⟨rfl, rfl⟩) | (go_at_call 26; refine (one_any _ _).mono ?_; rintro e w' ⟨rfl, rfl⟩) | (go_at_call 18; refine (size_any _ _ hs).mono ?_; rintro e w' ⟨rfl, rfl⟩) | (go_at_call 20; refine (page_any _ _ _ hs (by first | exact ha | exact hb | exact hp)).mono ?_; rintro e w' ⟨rfl, rfl⟩) | (go_at_call 22; refine (low_any _ _ _ hs a0).mono ?_; rintro e w' ⟨rfl, rfl⟩))
      go_ret
      exact ⟨rfl, rfl⟩

/-- canonical: below the hole, or above it -/
theorem canon_or {a : Int} (ha : W64 a) : canonF a = true ↔ a < 140737488355328 ∨ 18446603336221196288 ≤ a := by
  obtain ⟨h0, h1⟩ := ha
  rw [canon_iff]
  unfold signF
  split <;> omega
theorem canon_no {a : Int} (ha : W64 a) (h : 140737488355328 ≤ a ∧ a < 18446603336221196288) : canonF a = false := by
  cases hc : canonF a
  · rfl
  · have := (canon_or ha).1 hc; omega

theorem over_num {a : Int} (ha : W64 a) : overF a = if 18446744073709547520 ≤ a then 0 else a - a % 4096 + 4096 := by
  obtain ⟨h0, h1⟩ := ha
  unfold overF pageF
  rw [low1, IntKind.wrap_u64]
  split <;> omega

theorem next_last {b : Int} (hb : W64 b) (h : b / 4096 = 34359738367 ∨ b / 4096 = 4503599627370495) : nextB b = false := by
  have hw := w64_over b
  have e := over_num hb
  obtain ⟨h0, h1⟩ := hb
  unfold nextB
  rcases h with h | h
  · rw [if_neg (by omega)] at e
    rw [canon_no hw (by omega)]
    simp
  · rw [if_pos (by omega)] at e
    rw [e]
    simp
    intros
    omega

theorem next_on {b : Int} (hb : W64 b) (hc : canonF b = true) (h1 : b / 4096 ≠ 34359738367) (h2 : b / 4096 ≠ 4503599627370495) :
    nextB b = true ∧ canonF (overF b) = true ∧ indexF (overF b) 1 = (indexF b 1 + 1) % 512 ∧ (indexF b 1 ≠ 511 → pageF b 2 = pageF (overF b) 2) := by
  have hw := w64_over b
  have e := over_num hb
  have hc' := (canon_or hb).1 hc
  obtain ⟨g0, g1⟩ := hb
  rw [if_neg (by omega)] at e
  have hv : canonF (overF b) = true := (canon_or hw).2 (by omega)
  refine ⟨?_, hv, ?_, ?_⟩
  · unfold nextB; rw [hc, hv, e]; simp; omega
  · rw [e]; show (b - b % 4096 + 4096) / 4096 % 512 = (b / 4096 % 512 + 1) % 512; omega
  · intro hi
    replace hi : b / 4096 % 512 ≠ 511 := hi
    rw [e]; unfold pageF; rw [low2, low2]; omega

end Go.Proofs.YtdmaamhjcoaigaaDoor
