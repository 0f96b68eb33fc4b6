/- Contracts of package entry: Reserved. -/
import Derived.Test.YtlpjbmlkpmhdlaaDoorEa
namespace Go.Proofs.YtlpjbmlkpmhdlaaDoor
set_option linter.unusedVariables false
set_option linter.unusedSimpArgs false
open Go.ChangeShapes Go.WideShapes Go.ChangeAt Go.RowKit Go.Joins

theorem has7_any (x : Int) (w : World) : Calls Tryd.prog 66 #[.int .u64 x, .int .u64 128] w fun e w' => e = .returned (.bool (bitF x 7)) ∧ w = w' := by
  have := has_any x 128 w; rwa [has_b7] at this
theorem has63_any (x : Int) (w : World) : Calls Tryd.prog 66 #[.int .u64 x, .int .u64 9223372036854775808] w fun e w' => e = .returned (.bool (bitF x 63)) ∧ w = w' := by
  have := has_any x 9223372036854775808 w; rwa [has_b63] at this
theorem leaf2_any (x : Int) (w : World) : Calls Tryd.prog 40 #[.int .u64 x, .int .i64 2] w fun e w' => e = .returned (.bool (bitF x 7)) ∧ w = w' := by
  have := leaf_any x 2 w; rwa [leaf_two] at this
theorem leaf3_any (x : Int) (w : World) : Calls Tryd.prog 40 #[.int .u64 x, .int .i64 3] w fun e w' => e = .returned (.bool (bitF x 7)) ∧ w = w' := by
  have := leaf_any x 3 w; rwa [leaf_three] at this

set_option maxHeartbeats 1600000 in
theorem res_any (x l b : Int) (nxe : Bool) (w : World) (hb : I64 b) :
    Calls Tryd.prog 38 #[.int .u64 x, .int .i64 l, .int .i64 b, .bool nxe] w fun e w' => e = .returned (.bool (resF x l b nxe)) ∧ w = w' := by
  obtain ⟨r, hr0⟩ : ∃ r, resF x l b nxe = r := ⟨_, rfl⟩
  rw [hr0]
  have hr := Lib.hid hr0
  clear hr0
  obtain rfl | rfl | rfl | ⟨l4, l2, l3⟩ : l = 4 ∨ l = 2 ∨ l = 3 ∨ (l ≠ 4 ∧ l ≠ 2 ∧ l ≠ 3) := by omega
  · cases h1 : hasF x (beyondF b) <;> cases h2 : bitF x 63 <;> cases nxe <;> cases h7 : bitF x 7
    all_goals
      go_enter Tryd.func38, Tryd.ntmps38
      go_wp2_with (first | (go_at_call 67; refine (beyond_any _ _ hb).mono ?_; rintro e w' ⟨rfl, rfl⟩) | (go_at_call 66; first | ((with_reducible refine (has63_any _ _).mono ?_); rintro e w' ⟨rfl, rfl⟩) | ((with_reducible refine (has7_any _ _).mono ?_); rintro e w' ⟨rfl, rfl⟩) | (refine (has_any _ _ _).mono ?_; rintro e w' ⟨rfl, rfl⟩)))
      go_ret
      exact ⟨ret_bool (by rw [← hr.out]; simp [resF, h1, h2, h7]), rfl⟩
  · cases h1 : hasF x (beyondF b) <;> cases h2 : bitF x 63 <;> cases nxe <;> cases h7 : bitF x 7 <;> cases h8 : hasF x (maskF 13 8)
    all_goals
      go_enter Tryd.func38, Tryd.ntmps38
      go_wp2_with (first | (go_at_call 67; refine (beyond_any _ _ hb).mono ?_; rintro e w' ⟨rfl, rfl⟩) | (go_at_call 68; refine (mask_any _ _ _ i64_8).mono ?_; rintro e w' ⟨rfl, rfl⟩) | (go_at_call 40; refine (leaf2_any _ _).mono ?_; rintro e w' ⟨rfl, rfl⟩) | (go_at_call 66; first | ((with_reducible refine (has63_any _ _).mono ?_); rintro e w' ⟨rfl, rfl⟩) | ((with_reducible refine (has7_any _ _).mono ?_); rintro e w' ⟨rfl, rfl⟩) | (refine (has_any _ _ _).mono ?_; rintro e w' ⟨rfl, rfl⟩)))
      go_ret
      exact ⟨ret_bool (by rw [← hr.out]; simp [resF, h1, h2, h7, h8]), rfl⟩
  · cases h1 : hasF x (beyondF b) <;> cases h2 : bitF x 63 <;> cases nxe <;> cases h7 : bitF x 7 <;> cases h8 : hasF x (maskF 13 17)
    all_goals
      go_enter Tryd.func38, Tryd.ntmps38
      go_wp2_with (first | (go_at_call 67; refine (beyond_any _ _ hb).mono ?_; rintro e w' ⟨rfl, rfl⟩) | (go_at_call 68; refine (mask_any _ _ _ i64_17).mono ?_; rintro e w' ⟨rfl, rfl⟩) | (go_at_call 40; refine (leaf3_any _ _).mono ?_; rintro e w' ⟨rfl, rfl⟩) | (go_at_call 66; first | ((with_reducible refine (has63_any _ _).mono ?_); rintro e w' ⟨rfl, rfl⟩) | ((with_reducible refine (has7_any _ _).mono ?_); rintro e w' ⟨rfl, rfl⟩) | (refine (has_any _ _ _).mono ?_; rintro e w' ⟨rfl, rfl⟩)))
      go_ret
      exact ⟨ret_bool (by rw [← hr.out]; simp [resF, h1, h2, h7, h8]), rfl⟩
  · have c4 : (l == 4) = false := by simp [l4]
    have c2 : (l == 2) = false := by simp [l2]
    have c3 : (l == 3) = false := by simp [l3]
    clear l4 l2 l3
    cases h1 : hasF x (beyondF b) <;> cases h2 : bitF x 63 <;> cases nxe
    all_goals
      go_enter Tryd.func38, Tryd.ntmps38
      go_wp2_with (first | (go_at_call 67; refine (beyond_any _ _ hb).mono ?_; rintro e w' ⟨rfl, rfl⟩) | (go_at_call 66; first | ((with_reducible refine (has63_any _ _).mono ?_); rintro e w' ⟨rfl, rfl⟩) | ((with_reducible refine (has7_any _ _).mono ?_); rintro e w' ⟨rfl, rfl⟩) | (refine (has_any _ _ _).mono ?_; rintro e w' ⟨rfl, rfl⟩)))
      go_ret
      exact ⟨ret_bool (by rw [← hr.out]; simp [resF, h1, h2, c4, c2, c3]), rfl⟩
end Go.Proofs.YtlpjbmlkpmhdlaaDoor
