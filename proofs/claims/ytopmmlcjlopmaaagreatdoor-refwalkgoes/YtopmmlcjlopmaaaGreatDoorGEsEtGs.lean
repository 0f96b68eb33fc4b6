/- Several texts of ours in one: Es, Et, Gs. -/
import Derived.Test.YtopmmlcjlopmaaaGreatDoorGRjIaEr
import Derived.Test.YtopmmlcjlopmaaaGreatDoorGVmRN
import Derived.LoopTactic
import Derived.Lib.SmallJoins
import Derived.StillTailTactics
import Derived.Test.YtopmmlcjlopmaaaGreatDoorGGbRgHb
/- dormerref05.Reserved: what may not be, by the document's own answer. -/
namespace Go.Proofs.YtopmmlcjlopmaaaGreatDoor
set_option linter.unusedVariables false
set_option linter.unusedSimpArgs false
open Go.ChangeShapes Go.WideShapes Go.ChangeAt Go.RowKit Go.Joins

theorem some_int (x lo hi : Int) (w : World) (hx : W64 x) (h0 : 0 ≤ lo) (h : lo ≤ hi + 1) (h63 : hi ≤ 63) (hh : 0 ≤ hi) {m : Int} (hm : maskF lo (hi + 1 - lo) = m) :
    Calls Tryz.prog 110 #[.int .u64 x, .int .i64 lo, .int .i64 hi] w fun e w' => e = .returned (.bool (hasF x m)) ∧ w = w' := by
  obtain ⟨a, rfl⟩ := Int.eq_ofNat_of_zero_le h0
  obtain ⟨b, rfl⟩ := Int.eq_ofNat_of_zero_le hh
  subst hm
  exact some_any x a b w hx (by omega) (by omega)

theorem some_12 (x b : Int) (w : World) (hx : W64 x) (h : b < 12) : Calls Tryz.prog 110 #[.int .u64 x, .int .i64 12, .int .i64 51] w fun e w' => e = .returned (.bool (hasF x (beyondF b))) ∧ w = w' :=
  some_int x 12 51 w hx (by decide) (by decide) (by decide) (by decide) (by unfold beyondF lowB; rw [if_pos h]; rfl)
theorem some_52 (x b : Int) (w : World) (hx : W64 x) (h : 52 < b) : Calls Tryz.prog 110 #[.int .u64 x, .int .i64 52, .int .i64 51] w fun e w' => e = .returned (.bool (hasF x (beyondF b))) ∧ w = w' :=
  some_int x 52 51 w hx (by decide) (by decide) (by decide) (by decide) (by
    unfold beyondF lowB
    rw [if_neg (by omega), mask_no (isF_no (by omega)), mask_no (isF_no (by omega))])
theorem some_b (x b : Int) (w : World) (hx : W64 x) (h : 12 ≤ b) (h' : b ≤ 52) : Calls Tryz.prog 110 #[.int .u64 x, .int .i64 b, .int .i64 51] w fun e w' => e = .returned (.bool (hasF x (beyondF b))) ∧ w = w' :=
  some_int x b 51 w hx (by omega) (by omega) (by decide) (by decide) (by unfold beyondF lowB; rw [if_neg (by omega)]; rfl)
theorem some_20 (x : Int) (w : World) (hx : W64 x) : Calls Tryz.prog 110 #[.int .u64 x, .int .i64 13, .int .i64 20] w fun e w' => e = .returned (.bool (hasF x (maskF 13 8))) ∧ w = w' :=
  some_int x 13 20 w hx (by decide) (by decide) (by decide) (by decide) rfl
theorem some_29 (x : Int) (w : World) (hx : W64 x) : Calls Tryz.prog 110 #[.int .u64 x, .int .i64 13, .int .i64 29] w fun e w' => e = .returned (.bool (hasF x (maskF 13 17))) ∧ w = w' :=
  some_int x 13 29 w hx (by decide) (by decide) (by decide) (by decide) rfl
theorem rleaf2_any (x : Int) (w : World) (hx : W64 x) : Calls Tryz.prog 74 #[.int .u64 x, .int .i64 2] w fun e w' => e = .returned (.bool (bitF x 7)) ∧ w = w' := by
  have := rleaf_any x 2 w hx; rwa [leaf_two] at this
theorem rleaf3_any (x : Int) (w : World) (hx : W64 x) : Calls Tryz.prog 74 #[.int .u64 x, .int .i64 3] w fun e w' => e = .returned (.bool (bitF x 7)) ∧ w = w' := by
  have := rleaf_any x 3 w hx; rwa [leaf_three] at this

/- walks -/
set_option maxHeartbeats 1600000 in
theorem rres_lo (x l b : Int) (nxe : Bool) (w : World) (hx : W64 x) (h : b < 12) :
    Calls Tryz.prog 72 #[.int .u64 x, .int .i64 l, .int .i64 b, .bool nxe] w fun e w' => e = .returned (.bool (resF x l b nxe)) ∧ w = w' := by
  obtain ⟨r, hr0⟩ : ∃ r, resF x l b nxe = r := ⟨_, rfl⟩
  rw [hr0]
  have hr := Lib.hid hr0
  clear hr0
  obtain rfl | rfl | rfl | ⟨l4, l2, l3⟩ : l = 4 ∨ l = 2 ∨ l = 3 ∨ (l ≠ 4 ∧ l ≠ 2 ∧ l ≠ 3) := by omega
  · cases h1 : hasF x (beyondF b) <;> cases h2 : bitF x 63 <;> cases nxe <;> cases h7 : bitF x 7
    all_goals
      go_enter Tryz.func72, Tryz.ntmps72
      go_wp2_with (first | (go_at_call 71; refine (rbit_any _ _ _ hx).mono ?_; rintro e w' ⟨rfl, rfl⟩) | (go_at_call 74; first | ((with_reducible refine (rleaf2_any _ _ hx).mono ?_); rintro e w' ⟨rfl, rfl⟩) | ((with_reducible refine (rleaf3_any _ _ hx).mono ?_); rintro e w' ⟨rfl, rfl⟩)) | (go_at_call 110; first | ((with_reducible refine (some_20 _ _ hx).mono ?_); rintro e w' ⟨rfl, rfl⟩) | ((with_reducible refine (some_29 _ _ hx).mono ?_); rintro e w' ⟨rfl, rfl⟩) | ((with_reducible refine (some_12 _ b _ hx h).mono ?_); rintro e w' ⟨rfl, rfl⟩)))
      go_ret
      exact ⟨ret_bool (by rw [← hr.out]; simp [resF, h1, h2, h7]), rfl⟩
  · cases h1 : hasF x (beyondF b) <;> cases h2 : bitF x 63 <;> cases nxe <;> cases h7 : bitF x 7 <;> cases h8 : hasF x (maskF 13 8)
    all_goals
      go_enter Tryz.func72, Tryz.ntmps72
      go_wp2_with (first | (go_at_call 71; refine (rbit_any _ _ _ hx).mono ?_; rintro e w' ⟨rfl, rfl⟩) | (go_at_call 74; first | ((with_reducible refine (rleaf2_any _ _ hx).mono ?_); rintro e w' ⟨rfl, rfl⟩) | ((with_reducible refine (rleaf3_any _ _ hx).mono ?_); rintro e w' ⟨rfl, rfl⟩)) | (go_at_call 110; first | ((with_reducible refine (some_20 _ _ hx).mono ?_); rintro e w' ⟨rfl, rfl⟩) | ((with_reducible refine (some_29 _ _ hx).mono ?_); rintro e w' ⟨rfl, rfl⟩) | ((with_reducible refine (some_12 _ b _ hx h).mono ?_); rintro e w' ⟨rfl, rfl⟩)))
      go_ret
      exact ⟨ret_bool (by rw [← hr.out]; simp [resF, h1, h2, h7, h8]), rfl⟩
  · cases h1 : hasF x (beyondF b) <;> cases h2 : bitF x 63 <;> cases nxe <;> cases h7 : bitF x 7 <;> cases h8 : hasF x (maskF 13 17)
    all_goals
      go_enter Tryz.func72, Tryz.ntmps72
      go_wp2_with (first | (go_at_call 71; refine (rbit_any _ _ _ hx).mono ?_; rintro e w' ⟨rfl, rfl⟩) | (go_at_call 74; first | ((with_reducible refine (rleaf2_any _ _ hx).mono ?_); rintro e w' ⟨rfl, rfl⟩) | ((with_reducible refine (rleaf3_any _ _ hx).mono ?_); rintro e w' ⟨rfl, rfl⟩)) | (go_at_call 110; first | ((with_reducible refine (some_20 _ _ hx).mono ?_); rintro e w' ⟨rfl, rfl⟩) | ((with_reducible refine (some_29 _ _ hx).mono ?_); rintro e w' ⟨rfl, rfl⟩) | ((with_reducible refine (some_12 _ b _ hx h).mono ?_); rintro e w' ⟨rfl, rfl⟩)))
      go_ret
      exact ⟨ret_bool (by rw [← hr.out]; simp [resF, h1, h2, h7, h8]), rfl⟩
  · have c4 : (l == 4) = false := by simp [l4]
    have c2 : (l == 2) = false := by simp [l2]
    have c3 : (l == 3) = false := by simp [l3]
    clear l4 l2 l3
    cases h1 : hasF x (beyondF b) <;> cases h2 : bitF x 63 <;> cases nxe
    all_goals
      go_enter Tryz.func72, Tryz.ntmps72
      go_wp2_with (first | (go_at_call 71; refine (rbit_any _ _ _ hx).mono ?_; rintro e w' ⟨rfl, rfl⟩) | (go_at_call 74; first | ((with_reducible refine (rleaf2_any _ _ hx).mono ?_); rintro e w' ⟨rfl, rfl⟩) | ((with_reducible refine (rleaf3_any _ _ hx).mono ?_); rintro e w' ⟨rfl, rfl⟩)) | (go_at_call 110; first | ((with_reducible refine (some_20 _ _ hx).mono ?_); rintro e w' ⟨rfl, rfl⟩) | ((with_reducible refine (some_29 _ _ hx).mono ?_); rintro e w' ⟨rfl, rfl⟩) | ((with_reducible refine (some_12 _ b _ hx h).mono ?_); rintro e w' ⟨rfl, rfl⟩)))
      go_ret
      exact ⟨ret_bool (by rw [← hr.out]; simp [resF, h1, h2, c4, c2, c3]), rfl⟩

set_option maxHeartbeats 1600000 in
theorem rres_hi (x l b : Int) (nxe : Bool) (w : World) (hx : W64 x) (h : 52 < b) :
    Calls Tryz.prog 72 #[.int .u64 x, .int .i64 l, .int .i64 b, .bool nxe] w fun e w' => e = .returned (.bool (resF x l b nxe)) ∧ w = w' := by
  have h12 : ¬ b < 12 := by omega
  obtain ⟨r, hr0⟩ : ∃ r, resF x l b nxe = r := ⟨_, rfl⟩
  rw [hr0]
  have hr := Lib.hid hr0
  clear hr0
  obtain rfl | rfl | rfl | ⟨l4, l2, l3⟩ : l = 4 ∨ l = 2 ∨ l = 3 ∨ (l ≠ 4 ∧ l ≠ 2 ∧ l ≠ 3) := by omega
  · cases h1 : hasF x (beyondF b) <;> cases h2 : bitF x 63 <;> cases nxe <;> cases h7 : bitF x 7
    all_goals
      go_enter Tryz.func72, Tryz.ntmps72
      go_wp2_with (first | (go_at_call 71; refine (rbit_any _ _ _ hx).mono ?_; rintro e w' ⟨rfl, rfl⟩) | (go_at_call 74; first | ((with_reducible refine (rleaf2_any _ _ hx).mono ?_); rintro e w' ⟨rfl, rfl⟩) | ((with_reducible refine (rleaf3_any _ _ hx).mono ?_); rintro e w' ⟨rfl, rfl⟩)) | (go_at_call 110; first | ((with_reducible refine (some_20 _ _ hx).mono ?_); rintro e w' ⟨rfl, rfl⟩) | ((with_reducible refine (some_29 _ _ hx).mono ?_); rintro e w' ⟨rfl, rfl⟩) | ((with_reducible refine (some_52 _ b _ hx h).mono ?_); rintro e w' ⟨rfl, rfl⟩)))
      go_ret
      exact ⟨ret_bool (by rw [← hr.out]; simp [resF, h1, h2, h7]), rfl⟩
  · cases h1 : hasF x (beyondF b) <;> cases h2 : bitF x 63 <;> cases nxe <;> cases h7 : bitF x 7 <;> cases h8 : hasF x (maskF 13 8)
    all_goals
      go_enter Tryz.func72, Tryz.ntmps72
      go_wp2_with (first | (go_at_call 71; refine (rbit_any _ _ _ hx).mono ?_; rintro e w' ⟨rfl, rfl⟩) | (go_at_call 74; first | ((with_reducible refine (rleaf2_any _ _ hx).mono ?_); rintro e w' ⟨rfl, rfl⟩) | ((with_reducible refine (rleaf3_any _ _ hx).mono ?_); rintro e w' ⟨rfl, rfl⟩)) | (go_at_call 110; first | ((with_reducible refine (some_20 _ _ hx).mono ?_); rintro e w' ⟨rfl, rfl⟩) | ((with_reducible refine (some_29 _ _ hx).mono ?_); rintro e w' ⟨rfl, rfl⟩) | ((with_reducible refine (some_52 _ b _ hx h).mono ?_); rintro e w' ⟨rfl, rfl⟩)))
      go_ret
      exact ⟨ret_bool (by rw [← hr.out]; simp [resF, h1, h2, h7, h8]), rfl⟩
  · cases h1 : hasF x (beyondF b) <;> cases h2 : bitF x 63 <;> cases nxe <;> cases h7 : bitF x 7 <;> cases h8 : hasF x (maskF 13 17)
    all_goals
      go_enter Tryz.func72, Tryz.ntmps72
      go_wp2_with (first | (go_at_call 71; refine (rbit_any _ _ _ hx).mono ?_; rintro e w' ⟨rfl, rfl⟩) | (go_at_call 74; first | ((with_reducible refine (rleaf2_any _ _ hx).mono ?_); rintro e w' ⟨rfl, rfl⟩) | ((with_reducible refine (rleaf3_any _ _ hx).mono ?_); rintro e w' ⟨rfl, rfl⟩)) | (go_at_call 110; first | ((with_reducible refine (some_20 _ _ hx).mono ?_); rintro e w' ⟨rfl, rfl⟩) | ((with_reducible refine (some_29 _ _ hx).mono ?_); rintro e w' ⟨rfl, rfl⟩) | ((with_reducible refine (some_52 _ b _ hx h).mono ?_); rintro e w' ⟨rfl, rfl⟩)))
      go_ret
      exact ⟨ret_bool (by rw [← hr.out]; simp [resF, h1, h2, h7, h8]), rfl⟩
  · have c4 : (l == 4) = false := by simp [l4]
    have c2 : (l == 2) = false := by simp [l2]
    have c3 : (l == 3) = false := by simp [l3]
    clear l4 l2 l3
    cases h1 : hasF x (beyondF b) <;> cases h2 : bitF x 63 <;> cases nxe
    all_goals
      go_enter Tryz.func72, Tryz.ntmps72
      go_wp2_with (first | (go_at_call 71; refine (rbit_any _ _ _ hx).mono ?_; rintro e w' ⟨rfl, rfl⟩) | (go_at_call 74; first | ((with_reducible refine (rleaf2_any _ _ hx).mono ?_); rintro e w' ⟨rfl, rfl⟩) | ((with_reducible refine (rleaf3_any _ _ hx).mono ?_); rintro e w' ⟨rfl, rfl⟩)) | (go_at_call 110; first | ((with_reducible refine (some_20 _ _ hx).mono ?_); rintro e w' ⟨rfl, rfl⟩) | ((with_reducible refine (some_29 _ _ hx).mono ?_); rintro e w' ⟨rfl, rfl⟩) | ((with_reducible refine (some_52 _ b _ hx h).mono ?_); rintro e w' ⟨rfl, rfl⟩)))
      go_ret
      exact ⟨ret_bool (by rw [← hr.out]; simp [resF, h1, h2, c4, c2, c3]), rfl⟩

set_option maxHeartbeats 1600000 in
theorem rres_mid (x l b : Int) (nxe : Bool) (w : World) (hx : W64 x) (h : 12 ≤ b) (h' : b ≤ 52) :
    Calls Tryz.prog 72 #[.int .u64 x, .int .i64 l, .int .i64 b, .bool nxe] w fun e w' => e = .returned (.bool (resF x l b nxe)) ∧ w = w' := by
  obtain ⟨r, hr0⟩ : ∃ r, resF x l b nxe = r := ⟨_, rfl⟩
  rw [hr0]
  have hr := Lib.hid hr0
  clear hr0
  obtain rfl | rfl | rfl | ⟨l4, l2, l3⟩ : l = 4 ∨ l = 2 ∨ l = 3 ∨ (l ≠ 4 ∧ l ≠ 2 ∧ l ≠ 3) := by omega
  · cases h1 : hasF x (beyondF b) <;> cases h2 : bitF x 63 <;> cases nxe <;> cases h7 : bitF x 7
    all_goals
      go_enter Tryz.func72, Tryz.ntmps72
      go_wp2_with (first | (go_at_call 71; refine (rbit_any _ _ _ hx).mono ?_; rintro e w' ⟨rfl, rfl⟩) | (go_at_call 74; first | ((with_reducible refine (rleaf2_any _ _ hx).mono ?_); rintro e w' ⟨rfl, rfl⟩) | ((with_reducible refine (rleaf3_any _ _ hx).mono ?_); rintro e w' ⟨rfl, rfl⟩)) | (go_at_call 110; first | ((with_reducible refine (some_20 _ _ hx).mono ?_); rintro e w' ⟨rfl, rfl⟩) | ((with_reducible refine (some_29 _ _ hx).mono ?_); rintro e w' ⟨rfl, rfl⟩) | ((with_reducible refine (some_b _ b _ hx h h').mono ?_); rintro e w' ⟨rfl, rfl⟩)))
      go_ret
      exact ⟨ret_bool (by rw [← hr.out]; simp [resF, h1, h2, h7]), rfl⟩
  · cases h1 : hasF x (beyondF b) <;> cases h2 : bitF x 63 <;> cases nxe <;> cases h7 : bitF x 7 <;> cases h8 : hasF x (maskF 13 8)
    all_goals
      go_enter Tryz.func72, Tryz.ntmps72
      go_wp2_with (first | (go_at_call 71; refine (rbit_any _ _ _ hx).mono ?_; rintro e w' ⟨rfl, rfl⟩) | (go_at_call 74; first | ((with_reducible refine (rleaf2_any _ _ hx).mono ?_); rintro e w' ⟨rfl, rfl⟩) | ((with_reducible refine (rleaf3_any _ _ hx).mono ?_); rintro e w' ⟨rfl, rfl⟩)) | (go_at_call 110; first | ((with_reducible refine (some_20 _ _ hx).mono ?_); rintro e w' ⟨rfl, rfl⟩) | ((with_reducible refine (some_29 _ _ hx).mono ?_); rintro e w' ⟨rfl, rfl⟩) | ((with_reducible refine (some_b _ b _ hx h h').mono ?_); rintro e w' ⟨rfl, rfl⟩)))
      go_ret
      exact ⟨ret_bool (by rw [← hr.out]; simp [resF, h1, h2, h7, h8]), rfl⟩
  · cases h1 : hasF x (beyondF b) <;> cases h2 : bitF x 63 <;> cases nxe <;> cases h7 : bitF x 7 <;> cases h8 : hasF x (maskF 13 17)
    all_goals
      go_enter Tryz.func72, Tryz.ntmps72
      go_wp2_with (first | (go_at_call 71; refine (rbit_any _ _ _ hx).mono ?_; rintro e w' ⟨rfl, rfl⟩) | (go_at_call 74; first | ((with_reducible refine (rleaf2_any _ _ hx).mono ?_); rintro e w' ⟨rfl, rfl⟩) | ((with_reducible refine (rleaf3_any _ _ hx).mono ?_); rintro e w' ⟨rfl, rfl⟩)) | (go_at_call 110; first | ((with_reducible refine (some_20 _ _ hx).mono ?_); rintro e w' ⟨rfl, rfl⟩) | ((with_reducible refine (some_29 _ _ hx).mono ?_); rintro e w' ⟨rfl, rfl⟩) | ((with_reducible refine (some_b _ b _ hx h h').mono ?_); rintro e w' ⟨rfl, rfl⟩)))
      go_ret
      exact ⟨ret_bool (by rw [← hr.out]; simp [resF, h1, h2, h7, h8]), rfl⟩
  · have c4 : (l == 4) = false := by simp [l4]
    have c2 : (l == 2) = false := by simp [l2]
    have c3 : (l == 3) = false := by simp [l3]
    clear l4 l2 l3
    cases h1 : hasF x (beyondF b) <;> cases h2 : bitF x 63 <;> cases nxe
    all_goals
      go_enter Tryz.func72, Tryz.ntmps72
      go_wp2_with (first | (go_at_call 71; refine (rbit_any _ _ _ hx).mono ?_; rintro e w' ⟨rfl, rfl⟩) | (go_at_call 74; first | ((with_reducible refine (rleaf2_any _ _ hx).mono ?_); rintro e w' ⟨rfl, rfl⟩) | ((with_reducible refine (rleaf3_any _ _ hx).mono ?_); rintro e w' ⟨rfl, rfl⟩)) | (go_at_call 110; first | ((with_reducible refine (some_20 _ _ hx).mono ?_); rintro e w' ⟨rfl, rfl⟩) | ((with_reducible refine (some_29 _ _ hx).mono ?_); rintro e w' ⟨rfl, rfl⟩) | ((with_reducible refine (some_b _ b _ hx h h').mono ?_); rintro e w' ⟨rfl, rfl⟩)))
      go_ret
      exact ⟨ret_bool (by rw [← hr.out]; simp [resF, h1, h2, c4, c2, c3]), rfl⟩

theorem rres_any (x l b : Int) (nxe : Bool) (w : World) (hx : W64 x) :
    Calls Tryz.prog 72 #[.int .u64 x, .int .i64 l, .int .i64 b, .bool nxe] w fun e w' => e = .returned (.bool (resF x l b nxe)) ∧ w = w' := by
  by_cases h : b < 12
  · exact rres_lo x l b nxe w hx h
  · by_cases h2 : 52 < b
    · exact rres_hi x l b nxe w hx h2
    · exact rres_mid x l b nxe w hx (by omega) (by omega)
end Go.Proofs.YtopmmlcjlopmaaaGreatDoor
/- dormerref05.Parse: what the document's own answer says of a word. -/
namespace Go.Proofs.YtopmmlcjlopmaaaGreatDoor
set_option linter.unusedVariables false
set_option linter.unusedSimpArgs false
open Go.ChangeShapes Go.WideShapes Go.ChangeAt Go.RowKit Go.Joins

theorem stillOf {P : Program} {f : FuncId} {args : Array Value} {w : World} {v : Value} (h : Calls P f args w fun e w' => e = .returned v ∧ w = w') : Calls P f args w fun e w' => e = .returned v ∧ w' = w :=
  h.mono fun _ _ ⟨he, hw⟩ => ⟨he, hw.symm⟩

theorem size_alloc (v : World) (o : Obj) : (v.alloc o).heap.size = v.heap.size + 1 := by simp

end Go.Proofs.YtopmmlcjlopmaaaGreatDoor
/- Contracts of dormerref06: And. -/
namespace Go.Proofs.YtopmmlcjlopmaaaGreatDoor
set_option linter.unusedVariables false
set_option linter.unusedSimpArgs false
open Go.ChangeShapes Go.WideShapes Go.ChangeAt Go.RowKit Go.Joins

/-- block g holds a right of the document's -/
def RowG (w : World) (g : Nat) (cs : Array Value) : Prop := w.heap[g]? = some (.cells cs 49 (0, 0))
abbrev noG : Array Value := #[.bool false, .bool false, .bool false]

/-- a right's box, and room for another one -/
theorem rand_start (W : World) (w u x : Bool) :
    RgtAt ((W.alloc (.cells #[.bool w, .bool u, .bool x] 49)).alloc (.cells noG 49)) W.heap.size w u x ∧
    RowG ((W.alloc (.cells #[.bool w, .bool u, .bool x] 49)).alloc (.cells noG 49)) (W.heap.size + 1) noG ∧
    Below W.heap.size W ((W.alloc (.cells #[.bool w, .bool u, .bool x] 49)).alloc (.cells noG 49)) :=
  ⟨rgt_keep (rgt_new W w u x _) (by simp) (kept_alloc _ _), last_obj2 _ _ _, below2 _ _ _⟩

set_option maxRecDepth 100000 in
set_option maxHeartbeats 1600000 in
theorem rand_any (w u x : Bool) (y : Int) (W : World) (hy : W64 y) :
    Calls Tryz.prog 73 #[rgtV w u x, .int .u64 y] W fun e W' => e = .returned (andV w u x y) ∧ Below W.heap.size W W' := by
  cases w <;> cases u <;> cases x
  all_goals
    go_enter Tryz.func73, Tryz.ntmps73
    go_wp2
    obtain ⟨⟨a0, a1, a2⟩, hR, hB⟩ := rand_start W _ _ _
    have HR := Lib.hid hR
    have HB := Lib.hid hB
    clear hR hB
    generalize (W.alloc _).alloc _ = w1 at *
    refine wp_region_still_tail 20 (by kernel_rfl) (by kernel_rfl) ?_
    simp only [List.take_succ_cons, List.take_zero, List.drop_succ_cons, List.drop_zero]
    repeat (first | still_step | still_call (stillOf (rbit_any _ _ _ hy)))
    refine wpStill_nil ?_
    change wpList _ _ _ _ _ w1.drew
    have HE2 : Hid (RowG w1.drew (W.heap.size + 1) noG) := HR.out
    have HB2 : Hid (Below W.heap.size W w1.drew) := HB.out.drew
    clear HR HB a0 a1 a2
    generalize w1.drew = w2 at *
    have k0 := (cell_of_block HE2.out 0).trans (show noG[0]? = some (.bool false) from rfl)
    have k1 := (cell_of_block HE2.out 1).trans (show noG[1]? = some (.bool false) from rfl)
    have k2 := (cell_of_block HE2.out 2).trans (show noG[2]? = some (.bool false) from rfl)
    have f0 := unfrozen_of_block HE2.out 0
    have f1 := unfrozen_of_block HE2.out 1
    have f2 := unfrozen_of_block HE2.out 2
    go_wp2
    refine bodyPost_ret (results_cell_row rfl _ _ (W.heap.size + 1) _ _ _ _ rfl (block_setCell (block_setCell (block_setCell HE2.out (i := 0) _) (i := 1) _) (i := 2) _) Tryz.underlying49 rfl rfl) rfl ⟨rfl, ?_⟩
    exact ((HB2.out.setCell (by simp) _).setCell (by simp) _).setCell (by simp) _
end Go.Proofs.YtopmmlcjlopmaaaGreatDoor
