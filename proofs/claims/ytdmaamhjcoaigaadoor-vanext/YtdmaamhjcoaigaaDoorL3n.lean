/- The walk of VaNext. -/
import Derived.Test.YtdmaamhjcoaigaaDoorL3
namespace Go.Proofs.YtdmaamhjcoaigaaDoor
set_option linter.unusedVariables false
set_option linter.unusedSimpArgs false
open Go.ChangeShapes Go.WideShapes Go.ChangeAt Go.RowKit Go.Joins

set_option maxRecDepth 100000 in
set_option maxHeartbeats 1000000 in
theorem vaNext_walk (a : Int) (w : World) (hs : Shifts w) (ha : W64 a) :
    Calls Tryd.prog 7 #[.int .u64 a] w fun e w' => e = .returned (.bool true) ∧ w = w' := by
  obtain ⟨b, hB⟩ : ∃ b, signF a = b := ⟨_, rfl⟩
  have hb : W64 b := hB ▸ w64_sign a
  have hc : canonF b = true := hB ▸ canon_sign a
  have b0 := hb.1
  by_cases c1 : b / 4096 = 34359738367
  · have n1 := next_last hb (Or.inl c1)
    have n2 := next_no n1
    go_enter Tryd.func7, Tryd.ntmps7
    go_wp2_with (first | (go_at_call 9; refine (awake3_any _ hs).mono ?_; rintro e w' ⟨rfl, rfl⟩) | (go_at_call 14; refine (sign_any _ _ ha).mono ?_; rintro e w' ⟨rfl, rfl⟩) | (go_at_call 10; refine (next_any _ _ hs hb).mono ?_; rintro e w' ⟨rfl, rfl⟩))
    go_ret
    exact ⟨rfl, rfl⟩
  · by_cases c2 : b / 4096 = 4503599627370495
    · have n1 := next_last hb (Or.inr c2)
      have n2 := next_no n1
      go_enter Tryd.func7, Tryd.ntmps7
      go_wp2_with (first | (go_at_call 9; refine (awake3_any _ hs).mono ?_; rintro e w' ⟨rfl, rfl⟩) | (go_at_call 14; refine (sign_any _ _ ha).mono ?_; rintro e w' ⟨rfl, rfl⟩) | (go_at_call 10; refine (next_any _ _ hs hb).mono ?_; rintro e w' ⟨rfl, rfl⟩))
      go_ret
      exact ⟨rfl, rfl⟩
    · obtain ⟨n1, n3, n4, n5⟩ := next_on hb hc c1 c2
      obtain ⟨c, hC⟩ : ∃ c, overF b = c := ⟨_, rfl⟩
      have n2 : nextF b = c := (next_yes n1).trans hC
      have n6 : IntKind.u64.wrap (pageF b 1 + 4096) = c := hC
      have hw : W64 c := hC ▸ w64_over b
      obtain ⟨i0, i1⟩ := index_bd b 1
      rw [hC] at n3 n4 n5
      clear hC
      have d1 : (b / 4096 == 34359738367) = false := by simpa using c1
      have d2 : (b / 4096 == 4503599627370495) = false := by simpa using c2
      clear c1 c2
      by_cases c3 : indexF b 1 = 511
      · clear n5
        go_enter Tryd.func7, Tryd.ntmps7
        go_wp2_with (first | (go_at_call 9; refine (awake3_any _ hs).mono ?_; rintro e w' ⟨rfl, rfl⟩) | (go_at_call 14; refine (sign_any _ _ ha).mono ?_; rintro e w' ⟨rfl, rfl⟩) | (go_at_call 10; refine (next_any _ _ hs hb).mono ?_; rintro e w' ⟨rfl, rfl⟩) | (go_at_call 20; refine (page_any _ _ _ hs (by first | exact hb | exact hw)).mono ?_; rintro e w' ⟨rfl, rfl⟩) | (go_at_call 12; refine (canon_any _ _ hw).mono ?_; rintro e w' ⟨rfl, rfl⟩) | (go_at_call 16; refine (index_any _ _ _ hs (by first | exact hb | exact hw)).mono ?_; rintro e w' ⟨rfl, rfl⟩))
        go_ret
        exact ⟨rfl, rfl⟩
      · have n7 := n5 c3
        have d3 : (indexF b 1 == 511) = false := by simpa using c3
        clear n5 c3
        go_enter Tryd.func7, Tryd.ntmps7
        go_wp2_with (first | (go_at_call 9; refine (awake3_any _ hs).mono ?_; rintro e w' ⟨rfl, rfl⟩) | (go_at_call 14; refine (sign_any _ _ ha).mono ?_; rintro e w' ⟨rfl, rfl⟩) | (go_at_call 10; refine (next_any _ _ hs hb).mono ?_; rintro e w' ⟨rfl, rfl⟩) | (go_at_call 20; refine (page_any _ _ _ hs (by first | exact hb | exact hw)).mono ?_; rintro e w' ⟨rfl, rfl⟩) | (go_at_call 12; refine (canon_any _ _ hw).mono ?_; rintro e w' ⟨rfl, rfl⟩) | (go_at_call 16; refine (index_any _ _ _ hs (by first | exact hb | exact hw)).mono ?_; rintro e w' ⟨rfl, rfl⟩))
        go_ret
        exact ⟨rfl, rfl⟩
end Go.Proofs.YtdmaamhjcoaigaaDoor
