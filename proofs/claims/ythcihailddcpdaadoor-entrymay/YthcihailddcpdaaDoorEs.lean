/- dormerref05.Reserved: what may not be, by the document's own answer. -/
import Derived.Test.YthcihailddcpdaaDoorEr
import Derived.Test.YthcihailddcpdaaDoorN
namespace Go.Proofs.YthcihailddcpdaaDoor
set_option linter.unusedVariables false
set_option linter.unusedSimpArgs false
open Go.ChangeShapes Go.WideShapes Go.ChangeAt Go.RowKit Go.Joins

theorem some_int (x lo hi : Int) (w : World) (hx : W64 x) (h0 : 0 ≤ lo) (h : lo ≤ hi + 1) (h63 : hi ≤ 63) (hh : 0 ≤ hi) {m : Int} (hm : maskF lo (hi + 1 - lo) = m) :
    Calls Tryd.prog 35 #[.int .u64 x, .int .i64 lo, .int .i64 hi] w fun e w' => e = .returned (.bool (hasF x m)) ∧ w = w' := by
  obtain ⟨a, rfl⟩ := Int.eq_ofNat_of_zero_le h0
  obtain ⟨b, rfl⟩ := Int.eq_ofNat_of_zero_le hh
  subst hm
  exact some_any x a b w hx (by omega) (by omega)

theorem some_12 (x b : Int) (w : World) (hx : W64 x) (h : b < 12) : Calls Tryd.prog 35 #[.int .u64 x, .int .i64 12, .int .i64 51] w fun e w' => e = .returned (.bool (hasF x (beyondF b))) ∧ w = w' :=
  some_int x 12 51 w hx (by decide) (by decide) (by decide) (by decide) (by unfold beyondF lowB; rw [if_pos h]; rfl)
theorem some_52 (x b : Int) (w : World) (hx : W64 x) (h : 52 < b) : Calls Tryd.prog 35 #[.int .u64 x, .int .i64 52, .int .i64 51] w fun e w' => e = .returned (.bool (hasF x (beyondF b))) ∧ w = w' :=
  some_int x 52 51 w hx (by decide) (by decide) (by decide) (by decide) (by
    unfold beyondF lowB
    rw [if_neg (by omega), mask_no (isF_no (by omega)), mask_no (isF_no (by omega))])
theorem some_b (x b : Int) (w : World) (hx : W64 x) (h : 12 ≤ b) (h' : b ≤ 52) : Calls Tryd.prog 35 #[.int .u64 x, .int .i64 b, .int .i64 51] w fun e w' => e = .returned (.bool (hasF x (beyondF b))) ∧ w = w' :=
  some_int x b 51 w hx (by omega) (by omega) (by decide) (by decide) (by unfold beyondF lowB; rw [if_neg (by omega)]; rfl)
theorem some_20 (x : Int) (w : World) (hx : W64 x) : Calls Tryd.prog 35 #[.int .u64 x, .int .i64 13, .int .i64 20] w fun e w' => e = .returned (.bool (hasF x (maskF 13 8))) ∧ w = w' :=
  some_int x 13 20 w hx (by decide) (by decide) (by decide) (by decide) rfl
theorem some_29 (x : Int) (w : World) (hx : W64 x) : Calls Tryd.prog 35 #[.int .u64 x, .int .i64 13, .int .i64 29] w fun e w' => e = .returned (.bool (hasF x (maskF 13 17))) ∧ w = w' :=
  some_int x 13 29 w hx (by decide) (by decide) (by decide) (by decide) rfl
theorem rleaf2_any (x : Int) (w : World) (hx : W64 x) : Calls Tryd.prog 15 #[.int .u64 x, .int .i64 2] w fun e w' => e = .returned (.bool (bitF x 7)) ∧ w = w' := by
  have := rleaf_any x 2 w hx; rwa [leaf_two] at this
theorem rleaf3_any (x : Int) (w : World) (hx : W64 x) : Calls Tryd.prog 15 #[.int .u64 x, .int .i64 3] w fun e w' => e = .returned (.bool (bitF x 7)) ∧ w = w' := by
  have := rleaf_any x 3 w hx; rwa [leaf_three] at this

/- walks -/
set_option maxHeartbeats 1600000 in
theorem rres_lo (x l b : Int) (nxe : Bool) (w : World) (hx : W64 x) (h : b < 12) :
    Calls Tryd.prog 21 #[.int .u64 x, .int .i64 l, .int .i64 b, .bool nxe] w fun e w' => e = .returned (.bool (resF x l b nxe)) ∧ w = w' := by
  obtain ⟨r, hr0⟩ : ∃ r, resF x l b nxe = r := ⟨_, rfl⟩
  rw [hr0]
  have hr := Lib.hid hr0
  clear hr0
  obtain rfl | rfl | rfl | ⟨l4, l2, l3⟩ : l = 4 ∨ l = 2 ∨ l = 3 ∨ (l ≠ 4 ∧ l ≠ 2 ∧ l ≠ 3) := by omega
  · cases h1 : hasF x (beyondF b) <;> cases h2 : bitF x 63 <;> cases nxe <;> cases h7 : bitF x 7
    all_goals
      go_enter Tryd.func21, Tryd.ntmps21
      go_wp2_with (first | (go_at_call 27; refine (rbit_any _ _ _ hx).mono ?_; rintro e w' ⟨rfl, rfl⟩) | (go_at_call 15; first | ((with_reducible refine (rleaf2_any _ _ hx).mono ?_); rintro e w' ⟨rfl, rfl⟩) | ((with_reducible refine (rleaf3_any _ _ hx).mono ?_); rintro e w' ⟨rfl, rfl⟩)) | (go_at_call 35; first | ((with_reducible refine (some_20 _ _ hx).mono ?_); rintro e w' ⟨rfl, rfl⟩) | ((with_reducible refine (some_29 _ _ hx).mono ?_); rintro e w' ⟨rfl, rfl⟩) | ((with_reducible refine (some_12 _ b _ hx h).mono ?_); rintro e w' ⟨rfl, rfl⟩)))
      go_ret
      exact ⟨ret_bool (by rw [← hr.out]; simp [resF, h1, h2, h7]), rfl⟩
  · cases h1 : hasF x (beyondF b) <;> cases h2 : bitF x 63 <;> cases nxe <;> cases h7 : bitF x 7 <;> cases h8 : hasF x (maskF 13 8)
    all_goals
      go_enter Tryd.func21, Tryd.ntmps21
      go_wp2_with (first | (go_at_call 27; refine (rbit_any _ _ _ hx).mono ?_; rintro e w' ⟨rfl, rfl⟩) | (go_at_call 15; first | ((with_reducible refine (rleaf2_any _ _ hx).mono ?_); rintro e w' ⟨rfl, rfl⟩) | ((with_reducible refine (rleaf3_any _ _ hx).mono ?_); rintro e w' ⟨rfl, rfl⟩)) | (go_at_call 35; first | ((with_reducible refine (some_20 _ _ hx).mono ?_); rintro e w' ⟨rfl, rfl⟩) | ((with_reducible refine (some_29 _ _ hx).mono ?_); rintro e w' ⟨rfl, rfl⟩) | ((with_reducible refine (some_12 _ b _ hx h).mono ?_); rintro e w' ⟨rfl, rfl⟩)))
      go_ret
      exact ⟨ret_bool (by rw [← hr.out]; simp [resF, h1, h2, h7, h8]), rfl⟩
  · cases h1 : hasF x (beyondF b) <;> cases h2 : bitF x 63 <;> cases nxe <;> cases h7 : bitF x 7 <;> cases h8 : hasF x (maskF 13 17)
    all_goals
      go_enter Tryd.func21, Tryd.ntmps21
      go_wp2_with (first | (go_at_call 27; refine (rbit_any _ _ _ hx).mono ?_; rintro e w' ⟨rfl, rfl⟩) | (go_at_call 15; first | ((with_reducible refine (rleaf2_any _ _ hx).mono ?_); rintro e w' ⟨rfl, rfl⟩) | ((with_reducible refine (rleaf3_any _ _ hx).mono ?_); rintro e w' ⟨rfl, rfl⟩)) | (go_at_call 35; first | ((with_reducible refine (some_20 _ _ hx).mono ?_); rintro e w' ⟨rfl, rfl⟩) | ((with_reducible refine (some_29 _ _ hx).mono ?_); rintro e w' ⟨rfl, rfl⟩) | ((with_reducible refine (some_12 _ b _ hx h).mono ?_); rintro e w' ⟨rfl, rfl⟩)))
      go_ret
      exact ⟨ret_bool (by rw [← hr.out]; simp [resF, h1, h2, h7, h8]), rfl⟩
  · have c4 : (l == 4) = false := by simp [l4]
    have c2 : (l == 2) = false := by simp [l2]
    have c3 : (l == 3) = false := by simp [l3]
    clear l4 l2 l3
    cases h1 : hasF x (beyondF b) <;> cases h2 : bitF x 63 <;> cases nxe
    all_goals
      go_enter Tryd.func21, Tryd.ntmps21
      go_wp2_with (first | (go_at_call 27; refine (rbit_any _ _ _ hx).mono ?_; rintro e w' ⟨rfl, rfl⟩) | (go_at_call 15; first | ((with_reducible refine (rleaf2_any _ _ hx).mono ?_); rintro e w' ⟨rfl, rfl⟩) | ((with_reducible refine (rleaf3_any _ _ hx).mono ?_); rintro e w' ⟨rfl, rfl⟩)) | (go_at_call 35; first | ((with_reducible refine (some_20 _ _ hx).mono ?_); rintro e w' ⟨rfl, rfl⟩) | ((with_reducible refine (some_29 _ _ hx).mono ?_); rintro e w' ⟨rfl, rfl⟩) | ((with_reducible refine (some_12 _ b _ hx h).mono ?_); rintro e w' ⟨rfl, rfl⟩)))
      go_ret
      exact ⟨ret_bool (by rw [← hr.out]; simp [resF, h1, h2, c4, c2, c3]), rfl⟩

set_option maxHeartbeats 1600000 in
theorem rres_hi (x l b : Int) (nxe : Bool) (w : World) (hx : W64 x) (h : 52 < b) :
    Calls Tryd.prog 21 #[.int .u64 x, .int .i64 l, .int .i64 b, .bool nxe] w fun e w' => e = .returned (.bool (resF x l b nxe)) ∧ w = w' := by
  have h12 : ¬ b < 12 := by omega
  obtain ⟨r, hr0⟩ : ∃ r, resF x l b nxe = r := ⟨_, rfl⟩
  rw [hr0]
  have hr := Lib.hid hr0
  clear hr0
  obtain rfl | rfl | rfl | ⟨l4, l2, l3⟩ : l = 4 ∨ l = 2 ∨ l = 3 ∨ (l ≠ 4 ∧ l ≠ 2 ∧ l ≠ 3) := by omega
  · cases h1 : hasF x (beyondF b) <;> cases h2 : bitF x 63 <;> cases nxe <;> cases h7 : bitF x 7
    all_goals
      go_enter Tryd.func21, Tryd.ntmps21
      go_wp2_with (first | (go_at_call 27; refine (rbit_any _ _ _ hx).mono ?_; rintro e w' ⟨rfl, rfl⟩) | (go_at_call 15; first | ((with_reducible refine (rleaf2_any _ _ hx).mono ?_); rintro e w' ⟨rfl, rfl⟩) | ((with_reducible refine (rleaf3_any _ _ hx).mono ?_); rintro e w' ⟨rfl, rfl⟩)) | (go_at_call 35; first | ((with_reducible refine (some_20 _ _ hx).mono ?_); rintro e w' ⟨rfl, rfl⟩) | ((with_reducible refine (some_29 _ _ hx).mono ?_); rintro e w' ⟨rfl, rfl⟩) | ((with_reducible refine (some_52 _ b _ hx h).mono ?_); rintro e w' ⟨rfl, rfl⟩)))
      go_ret
      exact ⟨ret_bool (by rw [← hr.out]; simp [resF, h1, h2, h7]), rfl⟩
  · cases h1 : hasF x (beyondF b) <;> cases h2 : bitF x 63 <;> cases nxe <;> cases h7 : bitF x 7 <;> cases h8 : hasF x (maskF 13 8)
    all_goals
      go_enter Tryd.func21, Tryd.ntmps21
      go_wp2_with (first | (go_at_call 27; refine (rbit_any _ _ _ hx).mono ?_; rintro e w' ⟨rfl, rfl⟩) | (go_at_call 15; first | ((with_reducible refine (rleaf2_any _ _ hx).mono ?_); rintro e w' ⟨rfl, rfl⟩) | ((with_reducible refine (rleaf3_any _ _ hx).mono ?_); rintro e w' ⟨rfl, rfl⟩)) | (go_at_call 35; first | ((with_reducible refine (some_20 _ _ hx).mono ?_); rintro e w' ⟨rfl, rfl⟩) | ((with_reducible refine (some_29 _ _ hx).mono ?_); rintro e w' ⟨rfl, rfl⟩) | ((with_reducible refine (some_52 _ b _ hx h).mono ?_); rintro e w' ⟨rfl, rfl⟩)))
      go_ret
      exact ⟨ret_bool (by rw [← hr.out]; simp [resF, h1, h2, h7, h8]), rfl⟩
  · cases h1 : hasF x (beyondF b) <;> cases h2 : bitF x 63 <;> cases nxe <;> cases h7 : bitF x 7 <;> cases h8 : hasF x (maskF 13 17)
    all_goals
      go_enter Tryd.func21, Tryd.ntmps21
      go_wp2_with (first | (go_at_call 27; refine (rbit_any _ _ _ hx).mono ?_; rintro e w' ⟨rfl, rfl⟩) | (go_at_call 15; first | ((with_reducible refine (rleaf2_any _ _ hx).mono ?_); rintro e w' ⟨rfl, rfl⟩) | ((with_reducible refine (rleaf3_any _ _ hx).mono ?_); rintro e w' ⟨rfl, rfl⟩)) | (go_at_call 35; first | ((with_reducible refine (some_20 _ _ hx).mono ?_); rintro e w' ⟨rfl, rfl⟩) | ((with_reducible refine (some_29 _ _ hx).mono ?_); rintro e w' ⟨rfl, rfl⟩) | ((with_reducible refine (some_52 _ b _ hx h).mono ?_); rintro e w' ⟨rfl, rfl⟩)))
      go_ret
      exact ⟨ret_bool (by rw [← hr.out]; simp [resF, h1, h2, h7, h8]), rfl⟩
  · have c4 : (l == 4) = false := by simp [l4]
    have c2 : (l == 2) = false := by simp [l2]
    have c3 : (l == 3) = false := by simp [l3]
    clear l4 l2 l3
    cases h1 : hasF x (beyondF b) <;> cases h2 : bitF x 63 <;> cases nxe
    all_goals
      go_enter Tryd.func21, Tryd.ntmps21
      go_wp2_with (first | (go_at_call 27; refine (rbit_any _ _ _ hx).mono ?_; rintro e w' ⟨rfl, rfl⟩) | (go_at_call 15; first | ((with_reducible refine (rleaf2_any _ _ hx).mono ?_); rintro e w' ⟨rfl, rfl⟩) | ((with_reducible refine (rleaf3_any _ _ hx).mono ?_); rintro e w' ⟨rfl, rfl⟩)) | (go_at_call 35; first | ((with_reducible refine (some_20 _ _ hx).mono ?_); rintro e w' ⟨rfl, rfl⟩) | ((with_reducible refine (some_29 _ _ hx).mono ?_); rintro e w' ⟨rfl, rfl⟩) | ((with_reducible refine (some_52 _ b _ hx h).mono ?_); rintro e w' ⟨rfl, rfl⟩)))
      go_ret
      exact ⟨ret_bool (by rw [← hr.out]; simp [resF, h1, h2, c4, c2, c3]), rfl⟩

set_option maxHeartbeats 1600000 in
theorem rres_mid (x l b : Int) (nxe : Bool) (w : World) (hx : W64 x) (h : 12 ≤ b) (h' : b ≤ 52) :
    Calls Tryd.prog 21 #[.int .u64 x, .int .i64 l, .int .i64 b, .bool nxe] w fun e w' => e = .returned (.bool (resF x l b nxe)) ∧ w = w' := by
  obtain ⟨r, hr0⟩ : ∃ r, resF x l b nxe = r := ⟨_, rfl⟩
  rw [hr0]
  have hr := Lib.hid hr0
  clear hr0
  obtain rfl | rfl | rfl | ⟨l4, l2, l3⟩ : l = 4 ∨ l = 2 ∨ l = 3 ∨ (l ≠ 4 ∧ l ≠ 2 ∧ l ≠ 3) := by omega
  · cases h1 : hasF x (beyondF b) <;> cases h2 : bitF x 63 <;> cases nxe <;> cases h7 : bitF x 7
    all_goals
      go_enter Tryd.func21, Tryd.ntmps21
      go_wp2_with (first | (go_at_call 27; refine (rbit_any _ _ _ hx).mono ?_; rintro e w' ⟨rfl, rfl⟩) | (go_at_call 15; first | ((with_reducible refine (rleaf2_any _ _ hx).mono ?_); rintro e w' ⟨rfl, rfl⟩) | ((with_reducible refine (rleaf3_any _ _ hx).mono ?_); rintro e w' ⟨rfl, rfl⟩)) | (go_at_call 35; first | ((with_reducible refine (some_20 _ _ hx).mono ?_); rintro e w' ⟨rfl, rfl⟩) | ((with_reducible refine (some_29 _ _ hx).mono ?_); rintro e w' ⟨rfl, rfl⟩) | ((with_reducible refine (some_b _ b _ hx h h').mono ?_); rintro e w' ⟨rfl, rfl⟩)))
      go_ret
      exact ⟨ret_bool (by rw [← hr.out]; simp [resF, h1, h2, h7]), rfl⟩
  · cases h1 : hasF x (beyondF b) <;> cases h2 : bitF x 63 <;> cases nxe <;> cases h7 : bitF x 7 <;> cases h8 : hasF x (maskF 13 8)
    all_goals
      go_enter Tryd.func21, Tryd.ntmps21
      go_wp2_with (first | (go_at_call 27; refine (rbit_any _ _ _ hx).mono ?_; rintro e w' ⟨rfl, rfl⟩) | (go_at_call 15; first | ((with_reducible refine (rleaf2_any _ _ hx).mono ?_); rintro e w' ⟨rfl, rfl⟩) | ((with_reducible refine (rleaf3_any _ _ hx).mono ?_); rintro e w' ⟨rfl, rfl⟩)) | (go_at_call 35; first | ((with_reducible refine (some_20 _ _ hx).mono ?_); rintro e w' ⟨rfl, rfl⟩) | ((with_reducible refine (some_29 _ _ hx).mono ?_); rintro e w' ⟨rfl, rfl⟩) | ((with_reducible refine (some_b _ b _ hx h h').mono ?_); rintro e w' ⟨rfl, rfl⟩)))
      go_ret
      exact ⟨ret_bool (by rw [← hr.out]; simp [resF, h1, h2, h7, h8]), rfl⟩
  · cases h1 : hasF x (beyondF b) <;> cases h2 : bitF x 63 <;> cases nxe <;> cases h7 : bitF x 7 <;> cases h8 : hasF x (maskF 13 17)
    all_goals
      go_enter Tryd.func21, Tryd.ntmps21
      go_wp2_with (first | (go_at_call 27; refine (rbit_any _ _ _ hx).mono ?_; rintro e w' ⟨rfl, rfl⟩) | (go_at_call 15; first | ((with_reducible refine (rleaf2_any _ _ hx).mono ?_); rintro e w' ⟨rfl, rfl⟩) | ((with_reducible refine (rleaf3_any _ _ hx).mono ?_); rintro e w' ⟨rfl, rfl⟩)) | (go_at_call 35; first | ((with_reducible refine (some_20 _ _ hx).mono ?_); rintro e w' ⟨rfl, rfl⟩) | ((with_reducible refine (some_29 _ _ hx).mono ?_); rintro e w' ⟨rfl, rfl⟩) | ((with_reducible refine (some_b _ b _ hx h h').mono ?_); rintro e w' ⟨rfl, rfl⟩)))
      go_ret
      exact ⟨ret_bool (by rw [← hr.out]; simp [resF, h1, h2, h7, h8]), rfl⟩
  · have c4 : (l == 4) = false := by simp [l4]
    have c2 : (l == 2) = false := by simp [l2]
    have c3 : (l == 3) = false := by simp [l3]
    clear l4 l2 l3
    cases h1 : hasF x (beyondF b) <;> cases h2 : bitF x 63 <;> cases nxe
    all_goals
      go_enter Tryd.func21, Tryd.ntmps21
      go_wp2_with (first | (go_at_call 27; refine (rbit_any _ _ _ hx).mono ?_; rintro e w' ⟨rfl, rfl⟩) | (go_at_call 15; first | ((with_reducible refine (rleaf2_any _ _ hx).mono ?_); rintro e w' ⟨rfl, rfl⟩) | ((with_reducible refine (rleaf3_any _ _ hx).mono ?_); rintro e w' ⟨rfl, rfl⟩)) | (go_at_call 35; first | ((with_reducible refine (some_20 _ _ hx).mono ?_); rintro e w' ⟨rfl, rfl⟩) | ((with_reducible refine (some_29 _ _ hx).mono ?_); rintro e w' ⟨rfl, rfl⟩) | ((with_reducible refine (some_b _ b _ hx h h').mono ?_); rintro e w' ⟨rfl, rfl⟩)))
      go_ret
      exact ⟨ret_bool (by rw [← hr.out]; simp [resF, h1, h2, c4, c2, c3]), rfl⟩

theorem rres_any (x l b : Int) (nxe : Bool) (w : World) (hx : W64 x) :
    Calls Tryd.prog 21 #[.int .u64 x, .int .i64 l, .int .i64 b, .bool nxe] w fun e w' => e = .returned (.bool (resF x l b nxe)) ∧ w = w' := by
  by_cases h : b < 12
  · exact rres_lo x l b nxe w hx h
  · by_cases h2 : 52 < b
    · exact rres_hi x l b nxe w hx h2
    · exact rres_mid x l b nxe w hx (by omega) (by omega)
end Go.Proofs.YthcihailddcpdaaDoor
