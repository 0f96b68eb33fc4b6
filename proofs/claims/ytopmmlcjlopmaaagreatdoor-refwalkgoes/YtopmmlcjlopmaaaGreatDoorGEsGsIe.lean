/- Several texts of ours in one: Es, Gs, Ie. -/
import Derived.Test.YtopmmlcjlopmaaaGreatDoorGGuErEt
import Derived.Test.YtopmmlcjlopmaaaGreatDoorGVmRN
import Derived.Test.YtopmmlcjlopmaaaGreatDoorGGbRgHb
import Derived.StillTailTactics
import Derived.Test.YtopmmlcjlopmaaaGreatDoorGRjIaGt
import Derived.Test.YtopmmlcjlopmaaaGreatDoorGRfSmHe
/- dormerref05.Reserved: what may not be, by the document's own answer. -/
namespace Go.Proofs.YtopmmlcjlopmaaaGreatDoor
set_option linter.unusedVariables false
set_option linter.unusedSimpArgs false
open Go.ChangeShapes Go.WideShapes Go.ChangeAt Go.RowKit Go.Joins

theorem some_int (x lo hi : Int) (w : World) (hx : W64 x) (h0 : 0 ≤ lo) (h : lo ≤ hi + 1) (h63 : hi ≤ 63) (hh : 0 ≤ hi) {m : Int} (hm : maskF lo (hi + 1 - lo) = m) :
    Calls Tryz.prog 110 #[.int .u64 x, .int .i64 lo, .int .i64 hi] w fun e w' => e = .returned (.bool (hasF x m)) ∧ w = w' := by
  obtain ⟨a, rfl⟩ := Int.eq_ofNat_of_zero_le h0
  obtain ⟨b, rfl⟩ := Int.eq_ofNat_of_zero_le hh
  subst hm
  exact some_any x a b w hx (by omega) (by omega)

theorem some_12 (x b : Int) (w : World) (hx : W64 x) (h : b < 12) : Calls Tryz.prog 110 #[.int .u64 x, .int .i64 12, .int .i64 51] w fun e w' => e = .returned (.bool (hasF x (beyondF b))) ∧ w = w' :=
  some_int x 12 51 w hx (by decide) (by decide) (by decide) (by decide) (by unfold beyondF lowB; rw [if_pos h]; rfl)
theorem some_52 (x b : Int) (w : World) (hx : W64 x) (h : 52 < b) : Calls Tryz.prog 110 #[.int .u64 x, .int .i64 52, .int .i64 51] w fun e w' => e = .returned (.bool (hasF x (beyondF b))) ∧ w = w' :=
  some_int x 52 51 w hx (by decide) (by decide) (by decide) (by decide) (by
    unfold beyondF lowB
    rw [if_neg (by omega), mask_no (isF_no (by omega)), mask_no (isF_no (by omega))])
theorem some_b (x b : Int) (w : World) (hx : W64 x) (h : 12 ≤ b) (h' : b ≤ 52) : Calls Tryz.prog 110 #[.int .u64 x, .int .i64 b, .int .i64 51] w fun e w' => e = .returned (.bool (hasF x (beyondF b))) ∧ w = w' :=
  some_int x b 51 w hx (by omega) (by omega) (by decide) (by decide) (by unfold beyondF lowB; rw [if_neg (by omega)]; rfl)
theorem some_20 (x : Int) (w : World) (hx : W64 x) : Calls Tryz.prog 110 #[.int .u64 x, .int .i64 13, .int .i64 20] w fun e w' => e = .returned (.bool (hasF x (maskF 13 8))) ∧ w = w' :=
  some_int x 13 20 w hx (by decide) (by decide) (by decide) (by decide) rfl
theorem some_29 (x : Int) (w : World) (hx : W64 x) : Calls Tryz.prog 110 #[.int .u64 x, .int .i64 13, .int .i64 29] w fun e w' => e = .returned (.bool (hasF x (maskF 13 17))) ∧ w = w' :=
  some_int x 13 29 w hx (by decide) (by decide) (by decide) (by decide) rfl
theorem rleaf2_any (x : Int) (w : World) (hx : W64 x) : Calls Tryz.prog 74 #[.int .u64 x, .int .i64 2] w fun e w' => e = .returned (.bool (bitF x 7)) ∧ w = w' := by
  have := rleaf_any x 2 w hx; rwa [leaf_two] at this
theorem rleaf3_any (x : Int) (w : World) (hx : W64 x) : Calls Tryz.prog 74 #[.int .u64 x, .int .i64 3] w fun e w' => e = .returned (.bool (bitF x 7)) ∧ w = w' := by
  have := rleaf_any x 3 w hx; rwa [leaf_three] at this

/- walks -/
set_option maxHeartbeats 1600000 in
theorem rres_lo (x l b : Int) (nxe : Bool) (w : World) (hx : W64 x) (h : b < 12) :
    Calls Tryz.prog 72 #[.int .u64 x, .int .i64 l, .int .i64 b, .bool nxe] w fun e w' => e = .returned (.bool (resF x l b nxe)) ∧ w = w' := by
  obtain ⟨r, hr0⟩ : ∃ r, resF x l b nxe = r := ⟨_, rfl⟩
  rw [hr0]
  have hr := Lib.hid hr0
  clear hr0
  obtain rfl | rfl | rfl | ⟨l4, l2, l3⟩ : l = 4 ∨ l = 2 ∨ l = 3 ∨ (l ≠ 4 ∧ l ≠ 2 ∧ l ≠ 3) := by omega
  · cases h1 : hasF x (beyondF b) <;> cases h2 : bitF x 63 <;> cases nxe <;> cases h7 : bitF x 7
    all_goals
      go_enter Tryz.func72, Tryz.ntmps72
      go_wp2_with (first | (go_at_call 71; refine (rbit_any _ _ _ hx).mono ?_; rintro e w' ⟨rfl, rfl⟩) | (go_at_call 74; first | ((with_reducible refine (rleaf2_any _ _ hx).mono ?_); rintro e w' ⟨rfl, rfl⟩) | ((with_reducible refine (rleaf3_any _ _ hx).mono ?_); rintro e w' ⟨rfl, rfl⟩)) | (go_at_call 110; first | ((with_reducible refine (some_20 _ _ hx).mono ?_); rintro e w' ⟨rfl, rfl⟩) | ((with_reducible refine (some_29 _ _ hx).mono ?_); rintro e w' ⟨rfl, rfl⟩) | ((with_reducible refine (some_12 _ b _ hx h).mono ?_); rintro e w' ⟨rfl, rfl⟩)))
      go_ret
      exact ⟨ret_bool (by rw [← hr.out]; simp [resF, h1, h2, h7]), rfl⟩
  · cases h1 : hasF x (beyondF b) <;> cases h2 : bitF x 63 <;> cases nxe <;> cases h7 : bitF x 7 <;> cases h8 : hasF x (maskF 13 8)
    all_goals
      go_enter Tryz.func72, Tryz.ntmps72
      go_wp2_with (first | (go_at_call 71; refine (rbit_any _ _ _ hx).mono ?_; rintro e w' ⟨rfl, rfl⟩) | (go_at_call 74; first | ((with_reducible refine (rleaf2_any _ _ hx).mono ?_); rintro e w' ⟨rfl, rfl⟩) | ((with_reducible refine (rleaf3_any _ _ hx).mono ?_); rintro e w' ⟨rfl, rfl⟩)) | (go_at_call 110; first | ((with_reducible refine (some_20 _ _ hx).mono ?_); rintro e w' ⟨rfl, rfl⟩) | ((with_reducible refine (some_29 _ _ hx).mono ?_); rintro e w' ⟨rfl, rfl⟩) | ((with_reducible refine (some_12 _ b _ hx h).mono ?_); rintro e w' ⟨rfl, rfl⟩)))
      go_ret
      exact ⟨ret_bool (by rw [← hr.out]; simp [resF, h1, h2, h7, h8]), rfl⟩
  · cases h1 : hasF x (beyondF b) <;> cases h2 : bitF x 63 <;> cases nxe <;> cases h7 : bitF x 7 <;> cases h8 : hasF x (maskF 13 17)
    all_goals
      go_enter Tryz.func72, Tryz.ntmps72
      go_wp2_with (first | (go_at_call 71; refine (rbit_any _ _ _ hx).mono ?_; rintro e w' ⟨rfl, rfl⟩) | (go_at_call 74; first | ((with_reducible refine (rleaf2_any _ _ hx).mono ?_); rintro e w' ⟨rfl, rfl⟩) | ((with_reducible refine (rleaf3_any _ _ hx).mono ?_); rintro e w' ⟨rfl, rfl⟩)) | (go_at_call 110; first | ((with_reducible refine (some_20 _ _ hx).mono ?_); rintro e w' ⟨rfl, rfl⟩) | ((with_reducible refine (some_29 _ _ hx).mono ?_); rintro e w' ⟨rfl, rfl⟩) | ((with_reducible refine (some_12 _ b _ hx h).mono ?_); rintro e w' ⟨rfl, rfl⟩)))
      go_ret
      exact ⟨ret_bool (by rw [← hr.out]; simp [resF, h1, h2, h7, h8]), rfl⟩
  · have c4 : (l == 4) = false := by simp [l4]
    have c2 : (l == 2) = false := by simp [l2]
    have c3 : (l == 3) = false := by simp [l3]
    clear l4 l2 l3
    cases h1 : hasF x (beyondF b) <;> cases h2 : bitF x 63 <;> cases nxe
    all_goals
      go_enter Tryz.func72, Tryz.ntmps72
      go_wp2_with (first | (go_at_call 71; refine (rbit_any _ _ _ hx).mono ?_; rintro e w' ⟨rfl, rfl⟩) | (go_at_call 74; first | ((with_reducible refine (rleaf2_any _ _ hx).mono ?_); rintro e w' ⟨rfl, rfl⟩) | ((with_reducible refine (rleaf3_any _ _ hx).mono ?_); rintro e w' ⟨rfl, rfl⟩)) | (go_at_call 110; first | ((with_reducible refine (some_20 _ _ hx).mono ?_); rintro e w' ⟨rfl, rfl⟩) | ((with_reducible refine (some_29 _ _ hx).mono ?_); rintro e w' ⟨rfl, rfl⟩) | ((with_reducible refine (some_12 _ b _ hx h).mono ?_); rintro e w' ⟨rfl, rfl⟩)))
      go_ret
      exact ⟨ret_bool (by rw [← hr.out]; simp [resF, h1, h2, c4, c2, c3]), rfl⟩

set_option maxHeartbeats 1600000 in
theorem rres_hi (x l b : Int) (nxe : Bool) (w : World) (hx : W64 x) (h : 52 < b) :
    Calls Tryz.prog 72 #[.int .u64 x, .int .i64 l, .int .i64 b, .bool nxe] w fun e w' => e = .returned (.bool (resF x l b nxe)) ∧ w = w' := by
  have h12 : ¬ b < 12 := by omega
  obtain ⟨r, hr0⟩ : ∃ r, resF x l b nxe = r := ⟨_, rfl⟩
  rw [hr0]
  have hr := Lib.hid hr0
  clear hr0
  obtain rfl | rfl | rfl | ⟨l4, l2, l3⟩ : l = 4 ∨ l = 2 ∨ l = 3 ∨ (l ≠ 4 ∧ l ≠ 2 ∧ l ≠ 3) := by omega
  · cases h1 : hasF x (beyondF b) <;> cases h2 : bitF x 63 <;> cases nxe <;> cases h7 : bitF x 7
    all_goals
      go_enter Tryz.func72, Tryz.ntmps72
      go_wp2_with (first | (go_at_call 71; refine (rbit_any _ _ _ hx).mono ?_; rintro e w' ⟨rfl, rfl⟩) | (go_at_call 74; first | ((with_reducible refine (rleaf2_any _ _ hx).mono ?_); rintro e w' ⟨rfl, rfl⟩) | ((with_reducible refine (rleaf3_any _ _ hx).mono ?_); rintro e w' ⟨rfl, rfl⟩)) | (go_at_call 110; first | ((with_reducible refine (some_20 _ _ hx).mono ?_); rintro e w' ⟨rfl, rfl⟩) | ((with_reducible refine (some_29 _ _ hx).mono ?_); rintro e w' ⟨rfl, rfl⟩) | ((with_reducible refine (some_52 _ b _ hx h).mono ?_); rintro e w' ⟨rfl, rfl⟩)))
      go_ret
      exact ⟨ret_bool (by rw [← hr.out]; simp [resF, h1, h2, h7]), rfl⟩
  · cases h1 : hasF x (beyondF b) <;> cases h2 : bitF x 63 <;> cases nxe <;> cases h7 : bitF x 7 <;> cases h8 : hasF x (maskF 13 8)
    all_goals
      go_enter Tryz.func72, Tryz.ntmps72
      go_wp2_with (first | (go_at_call 71; refine (rbit_any _ _ _ hx).mono ?_; rintro e w' ⟨rfl, rfl⟩) | (go_at_call 74; first | ((with_reducible refine (rleaf2_any _ _ hx).mono ?_); rintro e w' ⟨rfl, rfl⟩) | ((with_reducible refine (rleaf3_any _ _ hx).mono ?_); rintro e w' ⟨rfl, rfl⟩)) | (go_at_call 110; first | ((with_reducible refine (some_20 _ _ hx).mono ?_); rintro e w' ⟨rfl, rfl⟩) | ((with_reducible refine (some_29 _ _ hx).mono ?_); rintro e w' ⟨rfl, rfl⟩) | ((with_reducible refine (some_52 _ b _ hx h).mono ?_); rintro e w' ⟨rfl, rfl⟩)))
      go_ret
      exact ⟨ret_bool (by rw [← hr.out]; simp [resF, h1, h2, h7, h8]), rfl⟩
  · cases h1 : hasF x (beyondF b) <;> cases h2 : bitF x 63 <;> cases nxe <;> cases h7 : bitF x 7 <;> cases h8 : hasF x (maskF 13 17)
    all_goals
      go_enter Tryz.func72, Tryz.ntmps72
      go_wp2_with (first | (go_at_call 71; refine (rbit_any _ _ _ hx).mono ?_; rintro e w' ⟨rfl, rfl⟩) | (go_at_call 74; first | ((with_reducible refine (rleaf2_any _ _ hx).mono ?_); rintro e w' ⟨rfl, rfl⟩) | ((with_reducible refine (rleaf3_any _ _ hx).mono ?_); rintro e w' ⟨rfl, rfl⟩)) | (go_at_call 110; first | ((with_reducible refine (some_20 _ _ hx).mono ?_); rintro e w' ⟨rfl, rfl⟩) | ((with_reducible refine (some_29 _ _ hx).mono ?_); rintro e w' ⟨rfl, rfl⟩) | ((with_reducible refine (some_52 _ b _ hx h).mono ?_); rintro e w' ⟨rfl, rfl⟩)))
      go_ret
      exact ⟨ret_bool (by rw [← hr.out]; simp [resF, h1, h2, h7, h8]), rfl⟩
  · have c4 : (l == 4) = false := by simp [l4]
    have c2 : (l == 2) = false := by simp [l2]
    have c3 : (l == 3) = false := by simp [l3]
    clear l4 l2 l3
    cases h1 : hasF x (beyondF b) <;> cases h2 : bitF x 63 <;> cases nxe
    all_goals
      go_enter Tryz.func72, Tryz.ntmps72
      go_wp2_with (first | (go_at_call 71; refine (rbit_any _ _ _ hx).mono ?_; rintro e w' ⟨rfl, rfl⟩) | (go_at_call 74; first | ((with_reducible refine (rleaf2_any _ _ hx).mono ?_); rintro e w' ⟨rfl, rfl⟩) | ((with_reducible refine (rleaf3_any _ _ hx).mono ?_); rintro e w' ⟨rfl, rfl⟩)) | (go_at_call 110; first | ((with_reducible refine (some_20 _ _ hx).mono ?_); rintro e w' ⟨rfl, rfl⟩) | ((with_reducible refine (some_29 _ _ hx).mono ?_); rintro e w' ⟨rfl, rfl⟩) | ((with_reducible refine (some_52 _ b _ hx h).mono ?_); rintro e w' ⟨rfl, rfl⟩)))
      go_ret
      exact ⟨ret_bool (by rw [← hr.out]; simp [resF, h1, h2, c4, c2, c3]), rfl⟩

set_option maxHeartbeats 1600000 in
theorem rres_mid (x l b : Int) (nxe : Bool) (w : World) (hx : W64 x) (h : 12 ≤ b) (h' : b ≤ 52) :
    Calls Tryz.prog 72 #[.int .u64 x, .int .i64 l, .int .i64 b, .bool nxe] w fun e w' => e = .returned (.bool (resF x l b nxe)) ∧ w = w' := by
  obtain ⟨r, hr0⟩ : ∃ r, resF x l b nxe = r := ⟨_, rfl⟩
  rw [hr0]
  have hr := Lib.hid hr0
  clear hr0
  obtain rfl | rfl | rfl | ⟨l4, l2, l3⟩ : l = 4 ∨ l = 2 ∨ l = 3 ∨ (l ≠ 4 ∧ l ≠ 2 ∧ l ≠ 3) := by omega
  · cases h1 : hasF x (beyondF b) <;> cases h2 : bitF x 63 <;> cases nxe <;> cases h7 : bitF x 7
    all_goals
      go_enter Tryz.func72, Tryz.ntmps72
      go_wp2_with (first | (go_at_call 71; refine (rbit_any _ _ _ hx).mono ?_; rintro e w' ⟨rfl, rfl⟩) | (go_at_call 74; first | ((with_reducible refine (rleaf2_any _ _ hx).mono ?_); rintro e w' ⟨rfl, rfl⟩) | ((with_reducible refine (rleaf3_any _ _ hx).mono ?_); rintro e w' ⟨rfl, rfl⟩)) | (go_at_call 110; first | ((with_reducible refine (some_20 _ _ hx).mono ?_); rintro e w' ⟨rfl, rfl⟩) | ((with_reducible refine (some_29 _ _ hx).mono ?_); rintro e w' ⟨rfl, rfl⟩) | ((with_reducible refine (some_b _ b _ hx h h').mono ?_); rintro e w' ⟨rfl, rfl⟩)))
      go_ret
      exact ⟨ret_bool (by rw [← hr.out]; simp [resF, h1, h2, h7]), rfl⟩
  · cases h1 : hasF x (beyondF b) <;> cases h2 : bitF x 63 <;> cases nxe <;> cases h7 : bitF x 7 <;> cases h8 : hasF x (maskF 13 8)
    all_goals
      go_enter Tryz.func72, Tryz.ntmps72
      go_wp2_with (first | (go_at_call 71; refine (rbit_any _ _ _ hx).mono ?_; rintro e w' ⟨rfl, rfl⟩) | (go_at_call 74; first | ((with_reducible refine (rleaf2_any _ _ hx).mono ?_); rintro e w' ⟨rfl, rfl⟩) | ((with_reducible refine (rleaf3_any _ _ hx).mono ?_); rintro e w' ⟨rfl, rfl⟩)) | (go_at_call 110; first | ((with_reducible refine (some_20 _ _ hx).mono ?_); rintro e w' ⟨rfl, rfl⟩) | ((with_reducible refine (some_29 _ _ hx).mono ?_); rintro e w' ⟨rfl, rfl⟩) | ((with_reducible refine (some_b _ b _ hx h h').mono ?_); rintro e w' ⟨rfl, rfl⟩)))
      go_ret
      exact ⟨ret_bool (by rw [← hr.out]; simp [resF, h1, h2, h7, h8]), rfl⟩
  · cases h1 : hasF x (beyondF b) <;> cases h2 : bitF x 63 <;> cases nxe <;> cases h7 : bitF x 7 <;> cases h8 : hasF x (maskF 13 17)
    all_goals
      go_enter Tryz.func72, Tryz.ntmps72
      go_wp2_with (first | (go_at_call 71; refine (rbit_any _ _ _ hx).mono ?_; rintro e w' ⟨rfl, rfl⟩) | (go_at_call 74; first | ((with_reducible refine (rleaf2_any _ _ hx).mono ?_); rintro e w' ⟨rfl, rfl⟩) | ((with_reducible refine (rleaf3_any _ _ hx).mono ?_); rintro e w' ⟨rfl, rfl⟩)) | (go_at_call 110; first | ((with_reducible refine (some_20 _ _ hx).mono ?_); rintro e w' ⟨rfl, rfl⟩) | ((with_reducible refine (some_29 _ _ hx).mono ?_); rintro e w' ⟨rfl, rfl⟩) | ((with_reducible refine (some_b _ b _ hx h h').mono ?_); rintro e w' ⟨rfl, rfl⟩)))
      go_ret
      exact ⟨ret_bool (by rw [← hr.out]; simp [resF, h1, h2, h7, h8]), rfl⟩
  · have c4 : (l == 4) = false := by simp [l4]
    have c2 : (l == 2) = false := by simp [l2]
    have c3 : (l == 3) = false := by simp [l3]
    clear l4 l2 l3
    cases h1 : hasF x (beyondF b) <;> cases h2 : bitF x 63 <;> cases nxe
    all_goals
      go_enter Tryz.func72, Tryz.ntmps72
      go_wp2_with (first | (go_at_call 71; refine (rbit_any _ _ _ hx).mono ?_; rintro e w' ⟨rfl, rfl⟩) | (go_at_call 74; first | ((with_reducible refine (rleaf2_any _ _ hx).mono ?_); rintro e w' ⟨rfl, rfl⟩) | ((with_reducible refine (rleaf3_any _ _ hx).mono ?_); rintro e w' ⟨rfl, rfl⟩)) | (go_at_call 110; first | ((with_reducible refine (some_20 _ _ hx).mono ?_); rintro e w' ⟨rfl, rfl⟩) | ((with_reducible refine (some_29 _ _ hx).mono ?_); rintro e w' ⟨rfl, rfl⟩) | ((with_reducible refine (some_b _ b _ hx h h').mono ?_); rintro e w' ⟨rfl, rfl⟩)))
      go_ret
      exact ⟨ret_bool (by rw [← hr.out]; simp [resF, h1, h2, c4, c2, c3]), rfl⟩

theorem rres_any (x l b : Int) (nxe : Bool) (w : World) (hx : W64 x) :
    Calls Tryz.prog 72 #[.int .u64 x, .int .i64 l, .int .i64 b, .bool nxe] w fun e w' => e = .returned (.bool (resF x l b nxe)) ∧ w = w' := by
  by_cases h : b < 12
  · exact rres_lo x l b nxe w hx h
  · by_cases h2 : 52 < b
    · exact rres_hi x l b nxe w hx h2
    · exact rres_mid x l b nxe w hx (by omega) (by omega)
end Go.Proofs.YtopmmlcjlopmaaaGreatDoor
/- Contracts of dormerref06: And. -/
namespace Go.Proofs.YtopmmlcjlopmaaaGreatDoor
set_option linter.unusedVariables false
set_option linter.unusedSimpArgs false
open Go.ChangeShapes Go.WideShapes Go.ChangeAt Go.RowKit Go.Joins

/-- block g holds a right of the document's -/
def RowG (w : World) (g : Nat) (cs : Array Value) : Prop := w.heap[g]? = some (.cells cs 49 (0, 0))
abbrev noG : Array Value := #[.bool false, .bool false, .bool false]

/-- a right's box, and room for another one -/
theorem rand_start (W : World) (w u x : Bool) :
    RgtAt ((W.alloc (.cells #[.bool w, .bool u, .bool x] 49)).alloc (.cells noG 49)) W.heap.size w u x ∧
    RowG ((W.alloc (.cells #[.bool w, .bool u, .bool x] 49)).alloc (.cells noG 49)) (W.heap.size + 1) noG ∧
    Below W.heap.size W ((W.alloc (.cells #[.bool w, .bool u, .bool x] 49)).alloc (.cells noG 49)) :=
  ⟨rgt_keep (rgt_new W w u x _) (by simp) (kept_alloc _ _), last_obj2 _ _ _, below2 _ _ _⟩

set_option maxRecDepth 100000 in
set_option maxHeartbeats 1600000 in
theorem rand_any (w u x : Bool) (y : Int) (W : World) (hy : W64 y) :
    Calls Tryz.prog 73 #[rgtV w u x, .int .u64 y] W fun e W' => e = .returned (andV w u x y) ∧ Below W.heap.size W W' := by
  cases w <;> cases u <;> cases x
  all_goals
    go_enter Tryz.func73, Tryz.ntmps73
    go_wp2
    obtain ⟨⟨a0, a1, a2⟩, hR, hB⟩ := rand_start W _ _ _
    have HR := Lib.hid hR
    have HB := Lib.hid hB
    clear hR hB
    generalize (W.alloc _).alloc _ = w1 at *
    refine wp_region_still_tail 20 (by kernel_rfl) (by kernel_rfl) ?_
    simp only [List.take_succ_cons, List.take_zero, List.drop_succ_cons, List.drop_zero]
    repeat (first | still_step | still_call (stillOf (rbit_any _ _ _ hy)))
    refine wpStill_nil ?_
    change wpList _ _ _ _ _ w1.drew
    have HE2 : Hid (RowG w1.drew (W.heap.size + 1) noG) := HR.out
    have HB2 : Hid (Below W.heap.size W w1.drew) := HB.out.drew
    clear HR HB a0 a1 a2
    generalize w1.drew = w2 at *
    have k0 := (cell_of_block HE2.out 0).trans (show noG[0]? = some (.bool false) from rfl)
    have k1 := (cell_of_block HE2.out 1).trans (show noG[1]? = some (.bool false) from rfl)
    have k2 := (cell_of_block HE2.out 2).trans (show noG[2]? = some (.bool false) from rfl)
    have f0 := unfrozen_of_block HE2.out 0
    have f1 := unfrozen_of_block HE2.out 1
    have f2 := unfrozen_of_block HE2.out 2
    go_wp2
    refine bodyPost_ret (results_cell_row rfl _ _ (W.heap.size + 1) _ _ _ _ rfl (block_setCell (block_setCell (block_setCell HE2.out (i := 0) _) (i := 1) _) (i := 2) _) Tryz.underlying49 rfl rfl) rfl ⟨rfl, ?_⟩
    exact ((HB2.out.setCell (by simp) _).setCell (by simp) _).setCell (by simp) _
end Go.Proofs.YtopmmlcjlopmaaaGreatDoor
/- The document's From. (Laid by tools/gen_ie.py.) -/
namespace Go.Proofs.YtopmmlcjlopmaaaGreatDoor
set_option linter.unusedVariables false
set_option linter.unusedSimpArgs false
open Go.ChangeShapes Go.WideShapes Go.ChangeAt Go.RowKit Go.Joins

theorem results_two {P : Program} {fn : Func} {p q : Tmp} {ty tz : TypeId} (h : fn.results = #[.cell p ty, .cell q tz]) (tmps : Array Value) (w : World) (g k : Nat) (t u : TypeId) (cs ds : Array Value) (fr gr : Nat × Nat) (d e : TypeDesc)
    (hp : tmps.getD p undef = .pointer (some ⟨g, 0, none⟩)) (hq : tmps.getD q undef = .pointer (some ⟨k, 0, none⟩)) (hg : w.heap[g]? = some (.cells cs t fr)) (hk : w.heap[k]? = some (.cells ds u gr))
    (hu : P.underlying ty = some d) (hd : (match d with | .struct _ | .array _ _ => true | _ => false) = true) (hi : (P.info? ty).map (·.size) = some cs.size)
    (hu2 : P.underlying tz = some e) (hd2 : (match e with | .struct _ | .array _ _ => true | _ => false) = true) (hi2 : (P.info? tz).map (·.size) = some ds.size) :
    (results fn tmps).run P w = .ok (.tuple #[.agg cs, .agg ds]) w := by
  have hp' : tmps[p]?.getD undef = .pointer (some ⟨g, 0, none⟩) := by simpa using hp
  have hq' : tmps[q]?.getD undef = .pointer (some ⟨k, 0, none⟩) := by simpa using hq
  simp [results, h, hp', hq', asAddr, run_loadVar_row w g t ty cs fr d hg hu hd hi, run_loadVar_row w k u tz ds gr e hk hu2 hd2 hi2, Sem.run_bind, Result.andThen]

theorem own_apart {wr : World} {b1 b2 s1 s2 n1 n2 : Nat} {e1 e2 : TypeId} {v1 v2 : Value} {xs1 xs2 : List Value} (h : wr.ownsRow b1 e1 s1 v1 n1 xs1) (k : wr.ownsRow b2 e2 s2 v2 n2 xs2) (hne : e1 ≠ e2) {i : Nat} (hi : v1.ownBlock = some i) : ¬ v2.ownBlock = some i := by
  intro hj
  rcases k.2 with ⟨rfl, _⟩ | ⟨g, cap, cur, rfl, _, hg, _⟩
  · simp [Value.ownBlock] at hj
  · simp [Value.ownBlock] at hj; subst hj; exact not_box h hg hne _ hi rfl

theorem NewOr.step {w wr : World} {v0 v v' : Value} (h : NewOr wr v v') (h0 : NewOr w v0 v) (hs : w.heap.size ≤ wr.heap.size) : NewOr w v0 v' := by
  rcases h with rfl | h
  · exact h0
  · exact Or.inr fun i hi => Nat.le_trans hs (h i hi)

/-- the document's From, in its loop -/
structure RFm (w wr : World) (vt0 : Value) (M : Int) (vs vt : Value) (f : Int → Int) (T : List Int) (L : List (Int × Int)) (W U X : Bool) (S : List (Int × Int × Int)) (v : Value) : Prop where
  mbox : Blk wr w.heap.size (docCells M vs vt) 45
  rm : Blk wr (w.heap.size + 2) (docCells 0 (.slice none 0 0) (.slice none 0 0)) 45
  rp : Blk wr (w.heap.size + 3) (pathCells (.slice none 0 0) (offP 0)) 51
  rgt : Blk wr (w.heap.size + 4) #[.bool W, .bool U, .bool X] 49
  doc : Doc wr M vs vt f T L
  own : StepsOwn 97 wr (w.heap.size + 5) v S
  below : Below w.heap.size w wr
  nt : NewOr w vt0 vt

/-- what it answers -/
def RAns (w : World) (vt0 : Value) (M : Int) (vs : Value) (f : Int → Int) (tr : List Int) (L : List (Int × Int)) (p : Pth) (e : Ending) (w' : World) : Prop :=
  ∃ v vt', e = .returned (.tuple #[.agg (docCells M vs vt'), pathV v p.why p.W p.U p.X p.lev p.fr]) ∧ Doc w' M vs vt' f (tr ++ slotsP p.steps) L ∧ StepsOwn 97 w' w.heap.size v p.steps ∧ NewOr w vt0 vt' ∧ Below w.heap.size w w'

section
variable {w wr w3 w5 : World} {M : Int} {vs vt vt0 vt' v v' : Value} {f : Int → Int} {T T' : List Int} {L : List (Int × Int)} {W U X : Bool} {S : List (Int × Int × Int)}
theorem RFm.quiet (h : RFm w wr vt0 M vs vt f T L W U X S v) (hb : Below wr.heap.size wr w3) : RFm w w3 vt0 M vs vt f T L W U X S v :=
  ⟨h.mbox.below hb, h.rm.below hb, h.rp.below hb, h.rgt.below hb, h.doc.quiet hb, h.own.below hb, h.below.trans (hb.mono h.below.size), h.nt⟩
/-- a box below the steps is turned -/
theorem StepsOwn.box {e : TypeId} {base b : Nat} (h : StepsOwn e wr base v S) (ht : Turn (fun i => i = b) wr w3) (hb : b < base) : StepsOwn e w3 base v S := h.turn ht (fun i hi e => by have := (h.lt hi).1; omega)
theorem RFm.load (h : RFm w wr vt0 M vs vt f T L W U X S v) (hb : Below wr.heap.size wr w3) (hw : WordsOwn w3 vt' T') (hn : NewOr wr vt vt') : RFm w (((w3.setCell ⟨w.heap.size, 0, none⟩ (.int .i64 M)).setCell ⟨w.heap.size, 1, none⟩ vs).setCell ⟨w.heap.size, 2, none⟩ vt') vt0 M vs vt' f T' L W U X S v := by
  have h3 := h.quiet hb
  have hd : Doc w3 M vs vt' f T' L := ⟨h3.doc.slots, hw, h3.doc.agree, h3.doc.ris, h3.doc.ins⟩
  have ht := turn3 w3 w.heap.size (.int .i64 M) vs vt'
  exact ⟨h3.mbox.set3 _ _ _, h3.rm.turn ht (by omega), h3.rp.turn ht (by omega), h3.rgt.turn ht (by omega), hd.box h3.mbox (by decide) (by decide) ht, h3.own.box ht (by omega), turn_below h3.below ht (by omega) h3.below.size, hn.step h.nt h.below.size⟩
theorem RFm.right (h : RFm w wr vt0 M vs vt f T L W U X S v) (W' U' X' : Bool) : RFm w (((wr.setCell ⟨w.heap.size + 4, 0, none⟩ (.bool W')).setCell ⟨w.heap.size + 4, 1, none⟩ (.bool U')).setCell ⟨w.heap.size + 4, 2, none⟩ (.bool X')) vt0 M vs vt f T L W' U' X' S v := by
  have ht := turn3 wr (w.heap.size + 4) (.bool W') (.bool U') (.bool X')
  exact ⟨h.mbox.turn ht (by omega), h.rm.turn ht (by omega), h.rp.turn ht (by omega), h.rgt.set3 _ _ _, h.doc.box h.rgt (by decide) (by decide) ht, h.own.box ht (by omega), turn_below h.below ht (by omega) h.below.size, h.nt⟩
theorem RFm.more {l s x : Int} {u : TypeId} (h : RFm w wr vt0 M vs vt f T L W U X S v) (hown : w5.ownsRow (w.heap.size + 5) 97 3 v' (S.length + 1) (stepCells S ++ [.int .i64 l, .int .u64 s, .int .u64 x]))
    (hg : (wr.alloc (.cells #[.int .i64 l, .int .u64 s, .int .u64 x] u)).grownBy w5 v.ownBlock) : RFm w w5 vt0 M vs vt f T L W U X (S ++ [(l, s, x)]) v' := by
  have ht : Turn (fun i => v.ownBlock = some i) wr w5 := (Turn.alloc _ wr _).and (Turn.grown hg (fun i hi => hi))
  have hv : ∀ i, v.ownBlock = some i → w.heap.size + 5 ≤ i := fun i hi => (h.own.lt hi).1
  have no : ∀ k, k < 5 → ¬ v.ownBlock = some (w.heap.size + k) := fun k hk e => by have := hv _ e; omega
  exact ⟨h.mbox.turn ht (no 0 (by omega)), h.rm.turn ht (no 2 (by omega)), h.rp.turn ht (no 3 (by omega)), h.rgt.turn ht (no 4 (by omega)),
    ⟨own_turn h.doc.slots ht (fun i hi => own_apart h.doc.slots h.own (by decide) hi), own_turn h.doc.words ht (fun i hi => own_apart h.doc.words h.own (by decide) hi), h.doc.agree, h.doc.ris, h.doc.ins⟩,
    StepsOwn.more hown, h.below.trans (ht.below (fun i hi => by have := hv i hi; omega) h.below.size), h.nt⟩
/-- behind what is laid for the results -/
theorem RFm.rmS (h : RFm w wr vt0 M vs vt f T L W U X S v) (a0 a1 a2 b0 b1 b2 b3 b4 b5 b6 : Value) : Blk ((((((((((wr.setCell ⟨w.heap.size + 2, 0, none⟩ a0).setCell ⟨w.heap.size + 2, 1, none⟩ a1).setCell ⟨w.heap.size + 2, 2, none⟩ a2).setCell ⟨w.heap.size + 3, 0, none⟩ b0).setCell ⟨w.heap.size + 3, 1, none⟩ b1).setCell ⟨w.heap.size + 3, 2, none⟩ b2).setCell ⟨w.heap.size + 3, 3, none⟩ b3).setCell ⟨w.heap.size + 3, 4, none⟩ b4).setCell ⟨w.heap.size + 3, 5, none⟩ b5).setCell ⟨w.heap.size + 3, 6, none⟩ b6) (w.heap.size + 2) #[a0, a1, a2] 45 :=
  (h.rm.set3 a0 a1 a2).turn (turn7 _ (w.heap.size + 3) b0 b1 b2 b3 b4 b5 b6) (by omega)
theorem RFm.rpS (h : RFm w wr vt0 M vs vt f T L W U X S v) (a0 a1 a2 b0 b1 b2 b3 b4 b5 b6 : Value) : Blk ((((((((((wr.setCell ⟨w.heap.size + 2, 0, none⟩ a0).setCell ⟨w.heap.size + 2, 1, none⟩ a1).setCell ⟨w.heap.size + 2, 2, none⟩ a2).setCell ⟨w.heap.size + 3, 0, none⟩ b0).setCell ⟨w.heap.size + 3, 1, none⟩ b1).setCell ⟨w.heap.size + 3, 2, none⟩ b2).setCell ⟨w.heap.size + 3, 3, none⟩ b3).setCell ⟨w.heap.size + 3, 4, none⟩ b4).setCell ⟨w.heap.size + 3, 5, none⟩ b5).setCell ⟨w.heap.size + 3, 6, none⟩ b6) (w.heap.size + 3) #[b0, b1, b2, b3, b4, b5, b6] 51 :=
  (h.rp.turn (turn3 wr (w.heap.size + 2) a0 a1 a2) (by omega)).set7 b0 b1 b2 b3 b4 b5 b6
theorem RFm.done {tr : List Int} {p : Pth} (h : RFm w wr vt0 M vs vt f T L W U X S v) (hp : p.steps = []) (hT : T = tr ++ slotsP S) (a0 a1 a2 b0 b1 b2 b3 b4 b5 b6 : Value) :
    RAns w vt0 M vs f tr L (preP S p) (.returned (.tuple #[.agg (docCells M vs vt), pathV v p.why p.W p.U p.X p.lev p.fr])) ((((((((((wr.setCell ⟨w.heap.size + 2, 0, none⟩ a0).setCell ⟨w.heap.size + 2, 1, none⟩ a1).setCell ⟨w.heap.size + 2, 2, none⟩ a2).setCell ⟨w.heap.size + 3, 0, none⟩ b0).setCell ⟨w.heap.size + 3, 1, none⟩ b1).setCell ⟨w.heap.size + 3, 2, none⟩ b2).setCell ⟨w.heap.size + 3, 3, none⟩ b3).setCell ⟨w.heap.size + 3, 4, none⟩ b4).setCell ⟨w.heap.size + 3, 5, none⟩ b5).setCell ⟨w.heap.size + 3, 6, none⟩ b6) := by
  have t3 := turn3 wr (w.heap.size + 2) a0 a1 a2
  have t7 := turn7 (((wr.setCell ⟨w.heap.size + 2, 0, none⟩ a0).setCell ⟨w.heap.size + 2, 1, none⟩ a1).setCell ⟨w.heap.size + 2, 2, none⟩ a2) (w.heap.size + 3) b0 b1 b2 b3 b4 b5 b6
  have e : (preP S p).steps = S := by show S ++ p.steps = S; rw [hp]; simp
  have d1 := h.doc.box h.rm (by decide) (by decide) t3
  have d2 := d1.box (h.rp.turn t3 (by omega)) (by decide) (by decide) t7
  have b1 := turn_below h.below t3 (by omega) h.below.size
  refine ⟨v, vt, rfl, ?_, ?_, h.nt, turn_below b1 t7 (by omega) b1.size⟩
  · rw [e, ← hT]; exact d2
  · rw [e]; exact ((h.own.box t3 (by omega)).box t7 (by omega)).down (by omega)
end

/-- what the region of the leaf keeps -/
def RegR (w : World) (M : Int) (vs vt : Value) (W U X : Bool) (w' : World) : Prop := Blk w' w.heap.size (docCells M vs vt) 45 ∧ Blk w' (w.heap.size + 4) #[.bool W, .bool U, .bool X] 49
theorem regr_turn {w w2 w3 : World} {M : Int} {vs vt : Value} {W U X : Bool} {b : Nat} (h : RegR w M vs vt W U X w2) (ht : Turn (fun i => i = b) w2 w3) (h1 : b = w.heap.size + 2 ∨ b = w.heap.size + 3) : RegR w M vs vt W U X w3 :=
  ⟨h.1.turn ht (by omega), h.2.turn ht (by omega)⟩

theorem rfm_start {w : World} {M : Int} {vs vt : Value} {f : Int → Int} {T : List Int} {L : List (Int × Int)} (h : Doc w M vs vt f T L) (lev t : Int) (W U X : Bool) :
    RFm w (((((w.alloc (.cells (docCells M vs vt) 45)).alloc (.cells #[.int .i64 lev, .int .u64 t, .bool W, .bool U, .bool X] 90)).alloc (.cells (docCells 0 (.slice none 0 0) (.slice none 0 0)) 45)).alloc (.cells (pathCells (.slice none 0 0) (offP 0)) 51)).alloc (.cells #[.bool W, .bool U, .bool X] 49)) vt M vs vt f T L W U X [] (.slice none 0 0) := by
  generalize hq : (.cells (docCells M vs vt) 45 : Obj) = o0
  generalize (.cells #[.int .i64 lev, .int .u64 t, .bool W, .bool U, .bool X] 90 : Obj) = o1
  have e1 : (w.alloc o0).heap.size = w.heap.size + 1 := by simp
  have e2 : ((w.alloc o0).alloc o1).heap.size = w.heap.size + 2 := by simp
  have e3 : ∀ o, (((w.alloc o0).alloc o1).alloc o).heap.size = w.heap.size + 3 := fun o => by simp
  have e4 : ∀ o o', ((((w.alloc o0).alloc o1).alloc o).alloc o').heap.size = w.heap.size + 4 := fun o o' => by simp
  have hb2 := below2 w o0 o1
  have hb : Below w.heap.size w (((((w.alloc o0).alloc o1).alloc (.cells (docCells 0 (.slice none 0 0) (.slice none 0 0)) 45)).alloc (.cells (pathCells (.slice none 0 0) (offP 0)) 51)).alloc (.cells #[.bool W, .bool U, .bool X] 49)) :=
    (below3 w o0 o1 _).trans ((below2 _ _ _).mono (below3 w o0 o1 _).size)
  refine ⟨?_, ?_, ?_, ?_, h.quiet hb, StepsOwn.nil _ _ _, hb, Or.inl rfl⟩
  · have : Blk (w.alloc o0) w.heap.size (docCells M vs vt) 45 := by rw [← hq]; exact Blk.new _ _ _
    exact (((this.alloc _).alloc _).alloc _).alloc _
  · have := ((Blk.new ((w.alloc o0).alloc o1) (docCells 0 (.slice none 0 0) (.slice none 0 0)) 45).alloc (.cells (pathCells (.slice none 0 0) (offP 0)) 51)).alloc (.cells #[.bool W, .bool U, .bool X] 49)
    rwa [e2] at this
  · have := (Blk.new (((w.alloc o0).alloc o1).alloc (.cells (docCells 0 (.slice none 0 0) (.slice none 0 0)) 45)) (pathCells (.slice none 0 0) (offP 0)) 51).alloc (.cells #[.bool W, .bool U, .bool X] 49)
    rwa [e3] at this
  · have := Blk.new ((((w.alloc o0).alloc o1).alloc (.cells (docCells 0 (.slice none 0 0) (.slice none 0 0)) 45)).alloc (.cells (pathCells (.slice none 0 0) (offP 0)) 51)) #[.bool W, .bool U, .bool X] 49
    rwa [e4] at this
end Go.Proofs.YtopmmlcjlopmaaaGreatDoor
