/- Several texts of ours in one: Es, Ng, Gs. -/
import Derived.Test.YtmglikmphddicaaDoorGErEtNc
import Derived.Test.YtmglikmphddicaaDoorGCaRN
import Derived.Test.YtmglikmphddicaaDoorGNfNdNe
import Derived.Test.YtmglikmphddicaaDoorGKpGbMc
import Derived.StillTailTactics
/- dormerref05.Reserved: what may not be, by the document's own answer. -/
namespace Go.Proofs.YtmglikmphddicaaDoor
set_option linter.unusedVariables false
set_option linter.unusedSimpArgs false
open Go.ChangeShapes Go.WideShapes Go.ChangeAt Go.RowKit Go.Joins

theorem some_int (x lo hi : Int) (w : World) (hx : W64 x) (h0 : 0 ≤ lo) (h : lo ≤ hi + 1) (h63 : hi ≤ 63) (hh : 0 ≤ hi) {m : Int} (hm : maskF lo (hi + 1 - lo) = m) :
    Calls Tryd.prog 36 #[.int .u64 x, .int .i64 lo, .int .i64 hi] w fun e w' => e = .returned (.bool (hasF x m)) ∧ w = w' := by
  obtain ⟨a, rfl⟩ := Int.eq_ofNat_of_zero_le h0
  obtain ⟨b, rfl⟩ := Int.eq_ofNat_of_zero_le hh
  subst hm
  exact some_any x a b w hx (by omega) (by omega)

theorem some_12 (x b : Int) (w : World) (hx : W64 x) (h : b < 12) : Calls Tryd.prog 36 #[.int .u64 x, .int .i64 12, .int .i64 51] w fun e w' => e = .returned (.bool (hasF x (beyondF b))) ∧ w = w' :=
  some_int x 12 51 w hx (by decide) (by decide) (by decide) (by decide) (by unfold beyondF lowB; rw [if_pos h]; rfl)
theorem some_52 (x b : Int) (w : World) (hx : W64 x) (h : 52 < b) : Calls Tryd.prog 36 #[.int .u64 x, .int .i64 52, .int .i64 51] w fun e w' => e = .returned (.bool (hasF x (beyondF b))) ∧ w = w' :=
  some_int x 52 51 w hx (by decide) (by decide) (by decide) (by decide) (by
    unfold beyondF lowB
    rw [if_neg (by omega), mask_no (isF_no (by omega)), mask_no (isF_no (by omega))])
theorem some_b (x b : Int) (w : World) (hx : W64 x) (h : 12 ≤ b) (h' : b ≤ 52) : Calls Tryd.prog 36 #[.int .u64 x, .int .i64 b, .int .i64 51] w fun e w' => e = .returned (.bool (hasF x (beyondF b))) ∧ w = w' :=
  some_int x b 51 w hx (by omega) (by omega) (by decide) (by decide) (by unfold beyondF lowB; rw [if_neg (by omega)]; rfl)
theorem some_20 (x : Int) (w : World) (hx : W64 x) : Calls Tryd.prog 36 #[.int .u64 x, .int .i64 13, .int .i64 20] w fun e w' => e = .returned (.bool (hasF x (maskF 13 8))) ∧ w = w' :=
  some_int x 13 20 w hx (by decide) (by decide) (by decide) (by decide) rfl
theorem some_29 (x : Int) (w : World) (hx : W64 x) : Calls Tryd.prog 36 #[.int .u64 x, .int .i64 13, .int .i64 29] w fun e w' => e = .returned (.bool (hasF x (maskF 13 17))) ∧ w = w' :=
  some_int x 13 29 w hx (by decide) (by decide) (by decide) (by decide) rfl
theorem rleaf2_any (x : Int) (w : World) (hx : W64 x) : Calls Tryd.prog 37 #[.int .u64 x, .int .i64 2] w fun e w' => e = .returned (.bool (bitF x 7)) ∧ w = w' := by
  have := rleaf_any x 2 w hx; rwa [leaf_two] at this
theorem rleaf3_any (x : Int) (w : World) (hx : W64 x) : Calls Tryd.prog 37 #[.int .u64 x, .int .i64 3] w fun e w' => e = .returned (.bool (bitF x 7)) ∧ w = w' := by
  have := rleaf_any x 3 w hx; rwa [leaf_three] at this

/- walks -/
set_option maxHeartbeats 1600000 in
theorem rres_lo (x l b : Int) (nxe : Bool) (w : World) (hx : W64 x) (h : b < 12) :
    Calls Tryd.prog 20 #[.int .u64 x, .int .i64 l, .int .i64 b, .bool nxe] w fun e w' => e = .returned (.bool (resF x l b nxe)) ∧ w = w' := by
  obtain ⟨r, hr0⟩ : ∃ r, resF x l b nxe = r := ⟨_, rfl⟩
  rw [hr0]
  have hr := Lib.hid hr0
  clear hr0
  obtain rfl | rfl | rfl | ⟨l4, l2, l3⟩ : l = 4 ∨ l = 2 ∨ l = 3 ∨ (l ≠ 4 ∧ l ≠ 2 ∧ l ≠ 3) := by omega
  · cases h1 : hasF x (beyondF b) <;> cases h2 : bitF x 63 <;> cases nxe <;> cases h7 : bitF x 7
    all_goals
      go_enter Tryd.func20, Tryd.ntmps20
      go_wp2_with (first | (go_at_call 34; refine (rbit_any _ _ _ hx).mono ?_; rintro e w' ⟨rfl, rfl⟩) | (go_at_call 37; first | ((with_reducible refine (rleaf2_any _ _ hx).mono ?_); rintro e w' ⟨rfl, rfl⟩) | ((with_reducible refine (rleaf3_any _ _ hx).mono ?_); rintro e w' ⟨rfl, rfl⟩)) | (go_at_call 36; first | ((with_reducible refine (some_20 _ _ hx).mono ?_); rintro e w' ⟨rfl, rfl⟩) | ((with_reducible refine (some_29 _ _ hx).mono ?_); rintro e w' ⟨rfl, rfl⟩) | ((with_reducible refine (some_12 _ b _ hx h).mono ?_); rintro e w' ⟨rfl, rfl⟩)))
      go_ret
      exact ⟨ret_bool (by rw [← hr.out]; simp [resF, h1, h2, h7]), rfl⟩
  · cases h1 : hasF x (beyondF b) <;> cases h2 : bitF x 63 <;> cases nxe <;> cases h7 : bitF x 7 <;> cases h8 : hasF x (maskF 13 8)
    all_goals
      go_enter Tryd.func20, Tryd.ntmps20
      go_wp2_with (first | (go_at_call 34; refine (rbit_any _ _ _ hx).mono ?_; rintro e w' ⟨rfl, rfl⟩) | (go_at_call 37; first | ((with_reducible refine (rleaf2_any _ _ hx).mono ?_); rintro e w' ⟨rfl, rfl⟩) | ((with_reducible refine (rleaf3_any _ _ hx).mono ?_); rintro e w' ⟨rfl, rfl⟩)) | (go_at_call 36; first | ((with_reducible refine (some_20 _ _ hx).mono ?_); rintro e w' ⟨rfl, rfl⟩) | ((with_reducible refine (some_29 _ _ hx).mono ?_); rintro e w' ⟨rfl, rfl⟩) | ((with_reducible refine (some_12 _ b _ hx h).mono ?_); rintro e w' ⟨rfl, rfl⟩)))
      go_ret
      exact ⟨ret_bool (by rw [← hr.out]; simp [resF, h1, h2, h7, h8]), rfl⟩
  · cases h1 : hasF x (beyondF b) <;> cases h2 : bitF x 63 <;> cases nxe <;> cases h7 : bitF x 7 <;> cases h8 : hasF x (maskF 13 17)
    all_goals
      go_enter Tryd.func20, Tryd.ntmps20
      go_wp2_with (first | (go_at_call 34; refine (rbit_any _ _ _ hx).mono ?_; rintro e w' ⟨rfl, rfl⟩) | (go_at_call 37; first | ((with_reducible refine (rleaf2_any _ _ hx).mono ?_); rintro e w' ⟨rfl, rfl⟩) | ((with_reducible refine (rleaf3_any _ _ hx).mono ?_); rintro e w' ⟨rfl, rfl⟩)) | (go_at_call 36; first | ((with_reducible refine (some_20 _ _ hx).mono ?_); rintro e w' ⟨rfl, rfl⟩) | ((with_reducible refine (some_29 _ _ hx).mono ?_); rintro e w' ⟨rfl, rfl⟩) | ((with_reducible refine (some_12 _ b _ hx h).mono ?_); rintro e w' ⟨rfl, rfl⟩)))
      go_ret
      exact ⟨ret_bool (by rw [← hr.out]; simp [resF, h1, h2, h7, h8]), rfl⟩
  · have c4 : (l == 4) = false := by simp [l4]
    have c2 : (l == 2) = false := by simp [l2]
    have c3 : (l == 3) = false := by simp [l3]
    clear l4 l2 l3
    cases h1 : hasF x (beyondF b) <;> cases h2 : bitF x 63 <;> cases nxe
    all_goals
      go_enter Tryd.func20, Tryd.ntmps20
      go_wp2_with (first | (go_at_call 34; refine (rbit_any _ _ _ hx).mono ?_; rintro e w' ⟨rfl, rfl⟩) | (go_at_call 37; first | ((with_reducible refine (rleaf2_any _ _ hx).mono ?_); rintro e w' ⟨rfl, rfl⟩) | ((with_reducible refine (rleaf3_any _ _ hx).mono ?_); rintro e w' ⟨rfl, rfl⟩)) | (go_at_call 36; first | ((with_reducible refine (some_20 _ _ hx).mono ?_); rintro e w' ⟨rfl, rfl⟩) | ((with_reducible refine (some_29 _ _ hx).mono ?_); rintro e w' ⟨rfl, rfl⟩) | ((with_reducible refine (some_12 _ b _ hx h).mono ?_); rintro e w' ⟨rfl, rfl⟩)))
      go_ret
      exact ⟨ret_bool (by rw [← hr.out]; simp [resF, h1, h2, c4, c2, c3]), rfl⟩

set_option maxHeartbeats 1600000 in
theorem rres_hi (x l b : Int) (nxe : Bool) (w : World) (hx : W64 x) (h : 52 < b) :
    Calls Tryd.prog 20 #[.int .u64 x, .int .i64 l, .int .i64 b, .bool nxe] w fun e w' => e = .returned (.bool (resF x l b nxe)) ∧ w = w' := by
  have h12 : ¬ b < 12 := by omega
  obtain ⟨r, hr0⟩ : ∃ r, resF x l b nxe = r := ⟨_, rfl⟩
  rw [hr0]
  have hr := Lib.hid hr0
  clear hr0
  obtain rfl | rfl | rfl | ⟨l4, l2, l3⟩ : l = 4 ∨ l = 2 ∨ l = 3 ∨ (l ≠ 4 ∧ l ≠ 2 ∧ l ≠ 3) := by omega
  · cases h1 : hasF x (beyondF b) <;> cases h2 : bitF x 63 <;> cases nxe <;> cases h7 : bitF x 7
    all_goals
      go_enter Tryd.func20, Tryd.ntmps20
      go_wp2_with (first | (go_at_call 34; refine (rbit_any _ _ _ hx).mono ?_; rintro e w' ⟨rfl, rfl⟩) | (go_at_call 37; first | ((with_reducible refine (rleaf2_any _ _ hx).mono ?_); rintro e w' ⟨rfl, rfl⟩) | ((with_reducible refine (rleaf3_any _ _ hx).mono ?_); rintro e w' ⟨rfl, rfl⟩)) | (go_at_call 36; first | ((with_reducible refine (some_20 _ _ hx).mono ?_); rintro e w' ⟨rfl, rfl⟩) | ((with_reducible refine (some_29 _ _ hx).mono ?_); rintro e w' ⟨rfl, rfl⟩) | ((with_reducible refine (some_52 _ b _ hx h).mono ?_); rintro e w' ⟨rfl, rfl⟩)))
      go_ret
      exact ⟨ret_bool (by rw [← hr.out]; simp [resF, h1, h2, h7]), rfl⟩
  · cases h1 : hasF x (beyondF b) <;> cases h2 : bitF x 63 <;> cases nxe <;> cases h7 : bitF x 7 <;> cases h8 : hasF x (maskF 13 8)
    all_goals
      go_enter Tryd.func20, Tryd.ntmps20
      go_wp2_with (first | (go_at_call 34; refine (rbit_any _ _ _ hx).mono ?_; rintro e w' ⟨rfl, rfl⟩) | (go_at_call 37; first | ((with_reducible refine (rleaf2_any _ _ hx).mono ?_); rintro e w' ⟨rfl, rfl⟩) | ((with_reducible refine (rleaf3_any _ _ hx).mono ?_); rintro e w' ⟨rfl, rfl⟩)) | (go_at_call 36; first | ((with_reducible refine (some_20 _ _ hx).mono ?_); rintro e w' ⟨rfl, rfl⟩) | ((with_reducible refine (some_29 _ _ hx).mono ?_); rintro e w' ⟨rfl, rfl⟩) | ((with_reducible refine (some_52 _ b _ hx h).mono ?_); rintro e w' ⟨rfl, rfl⟩)))
      go_ret
      exact ⟨ret_bool (by rw [← hr.out]; simp [resF, h1, h2, h7, h8]), rfl⟩
  · cases h1 : hasF x (beyondF b) <;> cases h2 : bitF x 63 <;> cases nxe <;> cases h7 : bitF x 7 <;> cases h8 : hasF x (maskF 13 17)
    all_goals
      go_enter Tryd.func20, Tryd.ntmps20
      go_wp2_with (first | (go_at_call 34; refine (rbit_any _ _ _ hx).mono ?_; rintro e w' ⟨rfl, rfl⟩) | (go_at_call 37; first | ((with_reducible refine (rleaf2_any _ _ hx).mono ?_); rintro e w' ⟨rfl, rfl⟩) | ((with_reducible refine (rleaf3_any _ _ hx).mono ?_); rintro e w' ⟨rfl, rfl⟩)) | (go_at_call 36; first | ((with_reducible refine (some_20 _ _ hx).mono ?_); rintro e w' ⟨rfl, rfl⟩) | ((with_reducible refine (some_29 _ _ hx).mono ?_); rintro e w' ⟨rfl, rfl⟩) | ((with_reducible refine (some_52 _ b _ hx h).mono ?_); rintro e w' ⟨rfl, rfl⟩)))
      go_ret
      exact ⟨ret_bool (by rw [← hr.out]; simp [resF, h1, h2, h7, h8]), rfl⟩
  · have c4 : (l == 4) = false := by simp [l4]
    have c2 : (l == 2) = false := by simp [l2]
    have c3 : (l == 3) = false := by simp [l3]
    clear l4 l2 l3
    cases h1 : hasF x (beyondF b) <;> cases h2 : bitF x 63 <;> cases nxe
    all_goals
      go_enter Tryd.func20, Tryd.ntmps20
      go_wp2_with (first | (go_at_call 34; refine (rbit_any _ _ _ hx).mono ?_; rintro e w' ⟨rfl, rfl⟩) | (go_at_call 37; first | ((with_reducible refine (rleaf2_any _ _ hx).mono ?_); rintro e w' ⟨rfl, rfl⟩) | ((with_reducible refine (rleaf3_any _ _ hx).mono ?_); rintro e w' ⟨rfl, rfl⟩)) | (go_at_call 36; first | ((with_reducible refine (some_20 _ _ hx).mono ?_); rintro e w' ⟨rfl, rfl⟩) | ((with_reducible refine (some_29 _ _ hx).mono ?_); rintro e w' ⟨rfl, rfl⟩) | ((with_reducible refine (some_52 _ b _ hx h).mono ?_); rintro e w' ⟨rfl, rfl⟩)))
      go_ret
      exact ⟨ret_bool (by rw [← hr.out]; simp [resF, h1, h2, c4, c2, c3]), rfl⟩

set_option maxHeartbeats 1600000 in
theorem rres_mid (x l b : Int) (nxe : Bool) (w : World) (hx : W64 x) (h : 12 ≤ b) (h' : b ≤ 52) :
    Calls Tryd.prog 20 #[.int .u64 x, .int .i64 l, .int .i64 b, .bool nxe] w fun e w' => e = .returned (.bool (resF x l b nxe)) ∧ w = w' := by
  obtain ⟨r, hr0⟩ : ∃ r, resF x l b nxe = r := ⟨_, rfl⟩
  rw [hr0]
  have hr := Lib.hid hr0
  clear hr0
  obtain rfl | rfl | rfl | ⟨l4, l2, l3⟩ : l = 4 ∨ l = 2 ∨ l = 3 ∨ (l ≠ 4 ∧ l ≠ 2 ∧ l ≠ 3) := by omega
  · cases h1 : hasF x (beyondF b) <;> cases h2 : bitF x 63 <;> cases nxe <;> cases h7 : bitF x 7
    all_goals
      go_enter Tryd.func20, Tryd.ntmps20
      go_wp2_with (first | (go_at_call 34; refine (rbit_any _ _ _ hx).mono ?_; rintro e w' ⟨rfl, rfl⟩) | (go_at_call 37; first | ((with_reducible refine (rleaf2_any _ _ hx).mono ?_); rintro e w' ⟨rfl, rfl⟩) | ((with_reducible refine (rleaf3_any _ _ hx).mono ?_); rintro e w' ⟨rfl, rfl⟩)) | (go_at_call 36; first | ((with_reducible refine (some_20 _ _ hx).mono ?_); rintro e w' ⟨rfl, rfl⟩) | ((with_reducible refine (some_29 _ _ hx).mono ?_); rintro e w' ⟨rfl, rfl⟩) | ((with_reducible refine (some_b _ b _ hx h h').mono ?_); rintro e w' ⟨rfl, rfl⟩)))
      go_ret
      exact ⟨ret_bool (by rw [← hr.out]; simp [resF, h1, h2, h7]), rfl⟩
  · cases h1 : hasF x (beyondF b) <;> cases h2 : bitF x 63 <;> cases nxe <;> cases h7 : bitF x 7 <;> cases h8 : hasF x (maskF 13 8)
    all_goals
      go_enter Tryd.func20, Tryd.ntmps20
      go_wp2_with (first | (go_at_call 34; refine (rbit_any _ _ _ hx).mono ?_; rintro e w' ⟨rfl, rfl⟩) | (go_at_call 37; first | ((with_reducible refine (rleaf2_any _ _ hx).mono ?_); rintro e w' ⟨rfl, rfl⟩) | ((with_reducible refine (rleaf3_any _ _ hx).mono ?_); rintro e w' ⟨rfl, rfl⟩)) | (go_at_call 36; first | ((with_reducible refine (some_20 _ _ hx).mono ?_); rintro e w' ⟨rfl, rfl⟩) | ((with_reducible refine (some_29 _ _ hx).mono ?_); rintro e w' ⟨rfl, rfl⟩) | ((with_reducible refine (some_b _ b _ hx h h').mono ?_); rintro e w' ⟨rfl, rfl⟩)))
      go_ret
      exact ⟨ret_bool (by rw [← hr.out]; simp [resF, h1, h2, h7, h8]), rfl⟩
  · cases h1 : hasF x (beyondF b) <;> cases h2 : bitF x 63 <;> cases nxe <;> cases h7 : bitF x 7 <;> cases h8 : hasF x (maskF 13 17)
    all_goals
      go_enter Tryd.func20, Tryd.ntmps20
      go_wp2_with (first | (go_at_call 34; refine (rbit_any _ _ _ hx).mono ?_; rintro e w' ⟨rfl, rfl⟩) | (go_at_call 37; first | ((with_reducible refine (rleaf2_any _ _ hx).mono ?_); rintro e w' ⟨rfl, rfl⟩) | ((with_reducible refine (rleaf3_any _ _ hx).mono ?_); rintro e w' ⟨rfl, rfl⟩)) | (go_at_call 36; first | ((with_reducible refine (some_20 _ _ hx).mono ?_); rintro e w' ⟨rfl, rfl⟩) | ((with_reducible refine (some_29 _ _ hx).mono ?_); rintro e w' ⟨rfl, rfl⟩) | ((with_reducible refine (some_b _ b _ hx h h').mono ?_); rintro e w' ⟨rfl, rfl⟩)))
      go_ret
      exact ⟨ret_bool (by rw [← hr.out]; simp [resF, h1, h2, h7, h8]), rfl⟩
  · have c4 : (l == 4) = false := by simp [l4]
    have c2 : (l == 2) = false := by simp [l2]
    have c3 : (l == 3) = false := by simp [l3]
    clear l4 l2 l3
    cases h1 : hasF x (beyondF b) <;> cases h2 : bitF x 63 <;> cases nxe
    all_goals
      go_enter Tryd.func20, Tryd.ntmps20
      go_wp2_with (first | (go_at_call 34; refine (rbit_any _ _ _ hx).mono ?_; rintro e w' ⟨rfl, rfl⟩) | (go_at_call 37; first | ((with_reducible refine (rleaf2_any _ _ hx).mono ?_); rintro e w' ⟨rfl, rfl⟩) | ((with_reducible refine (rleaf3_any _ _ hx).mono ?_); rintro e w' ⟨rfl, rfl⟩)) | (go_at_call 36; first | ((with_reducible refine (some_20 _ _ hx).mono ?_); rintro e w' ⟨rfl, rfl⟩) | ((with_reducible refine (some_29 _ _ hx).mono ?_); rintro e w' ⟨rfl, rfl⟩) | ((with_reducible refine (some_b _ b _ hx h h').mono ?_); rintro e w' ⟨rfl, rfl⟩)))
      go_ret
      exact ⟨ret_bool (by rw [← hr.out]; simp [resF, h1, h2, c4, c2, c3]), rfl⟩

theorem rres_any (x l b : Int) (nxe : Bool) (w : World) (hx : W64 x) :
    Calls Tryd.prog 20 #[.int .u64 x, .int .i64 l, .int .i64 b, .bool nxe] w fun e w' => e = .returned (.bool (resF x l b nxe)) ∧ w = w' := by
  by_cases h : b < 12
  · exact rres_lo x l b nxe w hx h
  · by_cases h2 : 52 < b
    · exact rres_hi x l b nxe w hx h2
    · exact rres_mid x l b nxe w hx (by omega) (by omega)
end Go.Proofs.YtmglikmphddicaaDoor
/- Layer 12: the document's may and Together. (Laid by tools/gen_ng.py.) -/
namespace Go.Proofs.YtmglikmphddicaaDoor
set_option linter.unusedVariables false
set_option linter.unusedSimpArgs false
open Go.ChangeShapes Go.WideShapes Go.ChangeAt Go.RowKit Go.Joins

theorem rmayG_any (s : Sn) (x : Int) (w : World) (hx : W64 x) :
    Calls Tryd.prog 30 #[seenV s, .int .u64 x] w fun e w' => e = .returned (.bool (mapW x s.b s.n)) ∧ Below w.heap.size w w' := by
  cases h : bitF x 0
  · have e2 : mapW x s.b s.n = false := by unfold mapW; rw [h]; rfl
    rw [e2]
    have HB := rbit_any x 0 (w.alloc (.cells (seenC s) 38)) hx
    rw [h] at HB
    clear h e2
    go_enter Tryd.func30, Tryd.ntmps30
    go_wp2_with (go_at_call 34; refine HB.mono ?_; rintro e w' ⟨rfl, rfl⟩)
    go_ret
    exact ⟨rfl, below_alloc1 _ _⟩
  · have e2 : mapW x s.b s.n = !resF x 1 s.b s.n := by unfold mapW; rw [h]; rfl
    rw [e2]
    have HB := rbit_any x 0 (w.alloc (.cells (seenC s) 38)) hx
    rw [h] at HB
    clear h e2
    go_enter Tryd.func30, Tryd.ntmps30
    go_wp2_with (first | (go_at_call 34; refine HB.mono ?_; rintro e w' ⟨rfl, rfl⟩) | (go_at_call 20; refine (rres_any _ _ _ _ _ hx).mono ?_; rintro e w' ⟨rfl, rfl⟩))
    go_ret
    exact ⟨rfl, below_alloc1 _ _⟩
theorem frm_two (t i a : Int) : IntKind.u64.wrap (IntKind.u64.wrap (t + IntKind.u64.wrap (4096 * IntKind.u64.wrap i)) - IntKind.u64.wrap (4096 * IntKind.u64.wrap a)) = frmF (frmF t (-a)) i := by
  rw [frm_code, frm_doc, frm_frm, frm_frm, Int.add_comm]

set_option maxRecDepth 100000 in
theorem rtog_own (s : Sn) (i : Int) (w : World) (a0 : 0 ≤ s.a) (a7 : s.a ≤ 7) (c : i = s.a) :
    Calls Tryd.prog 31 #[seenV s, .int .i64 i] w fun e w' => e = .returned (.bool (togF s.X s.a s.b s.n i)) ∧ Below w.heap.size w w' := by
  have e : togF s.X s.a s.b s.n i = true := by unfold togF; simp [c]
  rw [e]
  have H0 := Lib.hid ((Mine.start w).new (b := w.heap.size) rfl (seenC s) 38)
  have c' : (i == s.a) = true := by simp [c]
  have i0 : 0 ≤ i := by omega
  have i7 : i ≤ 7 := by omega
  have i8 : i < 8 := by omega
  have a8 : s.a < 8 := by omega
  clear e c
  go_enter Tryd.func31, Tryd.ntmps31
  go_upto_region 1 with fail
  generalize hw0 : w.alloc _ = w0
  have H1 := Lib.hid (H0.out.world hw0)
  clear hw0 H0
  have r8 := (cell_of_block (H1.out.at_ 0 rfl) 8).trans (show (seenC s)[8]? = some (.int .i64 s.a) from rfl)
  have ri := seen_word (H1.out.at_ 0 rfl) i0 i7
  have ra := seen_word (H1.out.at_ 0 rfl) a0 a7
  go_wp2
  go_ret
  exact ⟨rfl, H1.out.below⟩

theorem with_unlike {X : List Int} {a b i : Int} {n : Bool} (h : alikeF (thW X i) (thW X a) = false) : withW X a b n i = false := by unfold withW; rw [h]; simp
theorem with_unmay {X : List Int} {a b i : Int} {n : Bool} (h : mapW (thW X i) b n = false) : withW X a b n i = false := by unfold withW; rw [h]; simp
theorem with_unused {X : List Int} {a b i : Int} {n : Bool} (h : bitF (thW X i) 5 = false) : withW X a b n i = false := by unfold withW; rw [h]; simp
theorem with_frame {X : List Int} {a b i : Int} {n : Bool} (h1 : alikeF (thW X i) (thW X a) = true) (h2 : mapW (thW X i) b n = true) (h3 : bitF (thW X i) 5 = true) : withW X a b n i = (tableF (thW X i) == frmF (frmF (tableF (thW X a)) (-a)) i) := by unfold withW; rw [h1, h2, h3]; simp

set_option maxRecDepth 100000 in
theorem rtog_1 (s : Sn) (i : Int) (w : World) (hs : OkS s) (a0 : 0 ≤ s.a) (a7 : s.a ≤ 7) (i0 : 0 ≤ i) (i7 : i ≤ 7) (c : i ≠ s.a) (e1 : (bitF (thW s.X i) 1 == bitF (thW s.X s.a) 1) = false) :
    Calls Tryd.prog 31 #[seenV s, .int .i64 i] w fun e w' => e = .returned (.bool (togF s.X s.a s.b s.n i)) ∧ Below w.heap.size w w' := by
  have c' : (i == s.a) = false := by simp [c]
  have e : togF s.X s.a s.b s.n i = withW s.X s.a s.b s.n i := by unfold togF; simp [c]
  rw [e, with_unlike (by unfold alikeF; simp only [e1]; simp)]
  clear e
  have H0 := Lib.hid ((Mine.start w).new (b := w.heap.size) rfl (seenC s) 38)
  have i8 : i < 8 := by omega
  have a8 : s.a < 8 := by omega
  have hx := hs.at_ i
  have hy := hs.at_ s.a
  obtain ⟨xi, hxi⟩ : ∃ x, thW s.X i = x := ⟨_, rfl⟩
  obtain ⟨xa, hxa⟩ : ∃ x, thW s.X s.a = x := ⟨_, rfl⟩
  rw [hxi, hxa] at e1
  rw [hxi] at hx
  rw [hxa] at hy
  have HG := Lib.hid (rfl : (0 : Int) = 0)
  have HX := Lib.hid hxi
  have HA := Lib.hid hxa
  clear hxi hxa c hs
  go_enter Tryd.func31, Tryd.ntmps31
  go_upto_region 1 with fail
  generalize hw0 : w.alloc _ = w0
  have H1 := Lib.hid (H0.out.world hw0)
  clear hw0 H0
  have r8 := (cell_of_block (H1.out.at_ 0 rfl) 8).trans (show (seenC s)[8]? = some (.int .i64 s.a) from rfl)
  have ri := seen_word (H1.out.at_ 0 rfl) i0 i7
  have ra := seen_word (H1.out.at_ 0 rfl) a0 a7
  rw [HX.out] at ri
  rw [HA.out] at ra
  go_upto_region 6 with (go_at_call 34; first | ((with_reducible refine (rbit_any xi _ _ hx).mono ?_); rintro e w' ⟨rfl, rfl⟩) | ((with_reducible refine (rbit_any xa _ _ hy).mono ?_); rintro e w' ⟨rfl, rfl⟩))
  clear ri ra r8 e1
  refine wp_region_held_drew (S := fun w' => Mine w w' [⟨w.heap.size, seenC s, 38⟩] []) (by kernel_rfl) (H1.out.quiet (Kept.drew0 _)) (fun hHeld => ?_)
  have H2 := Lib.hid (H1.out.quiet (Kept.drew0 _))
  clear H1
  generalize w0.drew = w2 at *
  refine tk (v := ?_) 0 ?_ ?_
  rotate_left
  · intro w hSw
    go_simp
    (try with_reducible rfl)
  (try simp only [Act.put, List.setIfInBounds_toArray, List.set_cons_zero, List.set_cons_succ])
  refine tk (v := ?_) 1 ?_ ?_
  rotate_left
  · intro w hSw
    go_simp
    (try with_reducible rfl)
  (try simp only [Act.put, List.setIfInBounds_toArray, List.set_cons_zero, List.set_cons_succ])
  refine sk 2 ?_
  (try simp only [Act.put, List.setIfInBounds_toArray, List.set_cons_zero, List.set_cons_succ])
  refine sk 3 ?_
  (try simp only [Act.put, List.setIfInBounds_toArray, List.set_cons_zero, List.set_cons_succ])
  refine sk 4 ?_
  (try simp only [Act.put, List.setIfInBounds_toArray, List.set_cons_zero, List.set_cons_succ])
  refine tk (v := ?_) 5 ?_ ?_
  rotate_left
  · intro w hSw
    go_simp
    (try with_reducible rfl)
  (try simp only [Act.put, List.setIfInBounds_toArray, List.set_cons_zero, List.set_cons_succ])
  refine tk (v := ?_) 6 ?_ ?_
  rotate_left
  · intro w hSw
    go_simp
    (try with_reducible rfl)
  (try simp only [Act.put, List.setIfInBounds_toArray, List.set_cons_zero, List.set_cons_succ])
  refine sk 7 ?_
  (try simp only [Act.put, List.setIfInBounds_toArray, List.set_cons_zero, List.set_cons_succ])
  refine sk 8 ?_
  (try simp only [Act.put, List.setIfInBounds_toArray, List.set_cons_zero, List.set_cons_succ])
  refine tk (v := ?_) 9 ?_ ?_
  rotate_left
  · intro w hSw
    go_simp
    (try with_reducible rfl)
  (try simp only [Act.put, List.setIfInBounds_toArray, List.set_cons_zero, List.set_cons_succ])
  refine tk (v := ?_) 10 ?_ ?_
  rotate_left
  · intro w hSw
    go_simp
    (try with_reducible rfl)
  (try simp only [Act.put, List.setIfInBounds_toArray, List.set_cons_zero, List.set_cons_succ])
  refine sk 11 ?_
  (try simp only [Act.put, List.setIfInBounds_toArray, List.set_cons_zero, List.set_cons_succ])
  refine sk 12 ?_
  (try simp only [Act.put, List.setIfInBounds_toArray, List.set_cons_zero, List.set_cons_succ])
  refine sk 13 ?_
  (try simp only [Act.put, List.setIfInBounds_toArray, List.set_cons_zero, List.set_cons_succ])
  refine sk 14 ?_
  (try simp only [Act.put, List.setIfInBounds_toArray, List.set_cons_zero, List.set_cons_succ])
  refine sk 15 ?_
  (try simp only [Act.put, List.setIfInBounds_toArray, List.set_cons_zero, List.set_cons_succ])
  refine sk 16 ?_
  (try simp only [Act.put, List.setIfInBounds_toArray, List.set_cons_zero, List.set_cons_succ])
  refine sk 17 ?_
  (try simp only [Act.put, List.setIfInBounds_toArray, List.set_cons_zero, List.set_cons_succ])
  refine sk 18 ?_
  (try simp only [Act.put, List.setIfInBounds_toArray, List.set_cons_zero, List.set_cons_succ])
  refine sk 19 ?_
  (try simp only [Act.put, List.setIfInBounds_toArray, List.set_cons_zero, List.set_cons_succ])
  refine sk 20 ?_
  (try simp only [Act.put, List.setIfInBounds_toArray, List.set_cons_zero, List.set_cons_succ])
  refine sk 21 ?_
  (try simp only [Act.put, List.setIfInBounds_toArray, List.set_cons_zero, List.set_cons_succ])
  refine sk 22 ?_
  (try simp only [Act.put, List.setIfInBounds_toArray, List.set_cons_zero, List.set_cons_succ])
  refine sk 23 ?_
  (try simp only [Act.put, List.setIfInBounds_toArray, List.set_cons_zero, List.set_cons_succ])
  refine sk 24 ?_
  (try simp only [Act.put, List.setIfInBounds_toArray, List.set_cons_zero, List.set_cons_succ])
  refine tk (v := ?_) 25 ?_ ?_
  rotate_left
  · intro w hSw
    go_simp
    (try with_reducible rfl)
  (try simp only [Act.put, List.setIfInBounds_toArray, List.set_cons_zero, List.set_cons_succ])
  refine tk (v := ?_) 26 ?_ ?_
  rotate_left
  · intro w hSw
    go_simp
    (try with_reducible rfl)
  (try simp only [Act.put, List.setIfInBounds_toArray, List.set_cons_zero, List.set_cons_succ])
  refine wpAnyH_done (by kernel_rfl) ?_ _
  clear hHeld
  go_wp2
  go_ret
  exact ⟨ret_bool (by first | rfl | rw [HG.out]), H2.out.below⟩

set_option maxRecDepth 100000 in
theorem rtog_2 (s : Sn) (i : Int) (w : World) (hs : OkS s) (a0 : 0 ≤ s.a) (a7 : s.a ≤ 7) (i0 : 0 ≤ i) (i7 : i ≤ 7) (c : i ≠ s.a) (e1 : (bitF (thW s.X i) 1 == bitF (thW s.X s.a) 1) = true) (e2 : (bitF (thW s.X i) 2 == bitF (thW s.X s.a) 2) = false) :
    Calls Tryd.prog 31 #[seenV s, .int .i64 i] w fun e w' => e = .returned (.bool (togF s.X s.a s.b s.n i)) ∧ Below w.heap.size w w' := by
  have c' : (i == s.a) = false := by simp [c]
  have e : togF s.X s.a s.b s.n i = withW s.X s.a s.b s.n i := by unfold togF; simp [c]
  rw [e, with_unlike (by unfold alikeF; simp only [e1, e2]; simp)]
  clear e
  have H0 := Lib.hid ((Mine.start w).new (b := w.heap.size) rfl (seenC s) 38)
  have i8 : i < 8 := by omega
  have a8 : s.a < 8 := by omega
  have hx := hs.at_ i
  have hy := hs.at_ s.a
  obtain ⟨xi, hxi⟩ : ∃ x, thW s.X i = x := ⟨_, rfl⟩
  obtain ⟨xa, hxa⟩ : ∃ x, thW s.X s.a = x := ⟨_, rfl⟩
  rw [hxi, hxa] at e1 e2
  rw [hxi] at hx
  rw [hxa] at hy
  have HG := Lib.hid (rfl : (0 : Int) = 0)
  have HX := Lib.hid hxi
  have HA := Lib.hid hxa
  clear hxi hxa c hs
  go_enter Tryd.func31, Tryd.ntmps31
  go_upto_region 1 with fail
  generalize hw0 : w.alloc _ = w0
  have H1 := Lib.hid (H0.out.world hw0)
  clear hw0 H0
  have r8 := (cell_of_block (H1.out.at_ 0 rfl) 8).trans (show (seenC s)[8]? = some (.int .i64 s.a) from rfl)
  have ri := seen_word (H1.out.at_ 0 rfl) i0 i7
  have ra := seen_word (H1.out.at_ 0 rfl) a0 a7
  rw [HX.out] at ri
  rw [HA.out] at ra
  go_upto_region 6 with (go_at_call 34; first | ((with_reducible refine (rbit_any xi _ _ hx).mono ?_); rintro e w' ⟨rfl, rfl⟩) | ((with_reducible refine (rbit_any xa _ _ hy).mono ?_); rintro e w' ⟨rfl, rfl⟩))
  clear ri ra r8 e1 e2
  refine wp_region_held_drew (S := fun w' => Mine w w' [⟨w.heap.size, seenC s, 38⟩] []) (by kernel_rfl) (H1.out.quiet (Kept.drew0 _)) (fun hHeld => ?_)
  have H2 := Lib.hid (H1.out.quiet (Kept.drew0 _))
  clear H1
  generalize w0.drew = w2 at *
  refine tk (v := ?_) 0 ?_ ?_
  rotate_left
  · intro w hSw
    go_simp
    (try with_reducible rfl)
  (try simp only [Act.put, List.setIfInBounds_toArray, List.set_cons_zero, List.set_cons_succ])
  refine tk (v := ?_) 1 ?_ ?_
  rotate_left
  · intro w hSw
    go_simp
    (try with_reducible rfl)
  (try simp only [Act.put, List.setIfInBounds_toArray, List.set_cons_zero, List.set_cons_succ])
  refine sk 2 ?_
  (try simp only [Act.put, List.setIfInBounds_toArray, List.set_cons_zero, List.set_cons_succ])
  refine sk 3 ?_
  (try simp only [Act.put, List.setIfInBounds_toArray, List.set_cons_zero, List.set_cons_succ])
  refine sk 4 ?_
  (try simp only [Act.put, List.setIfInBounds_toArray, List.set_cons_zero, List.set_cons_succ])
  refine tk (v := ?_) 5 ?_ ?_
  rotate_left
  · intro w hSw
    go_simp
    (try with_reducible rfl)
  (try simp only [Act.put, List.setIfInBounds_toArray, List.set_cons_zero, List.set_cons_succ])
  refine tk (v := ?_) 6 ?_ ?_
  rotate_left
  · intro w hSw
    go_simp
    (try with_reducible rfl)
  (try simp only [Act.put, List.setIfInBounds_toArray, List.set_cons_zero, List.set_cons_succ])
  refine sk 7 ?_
  (try simp only [Act.put, List.setIfInBounds_toArray, List.set_cons_zero, List.set_cons_succ])
  refine sk 8 ?_
  (try simp only [Act.put, List.setIfInBounds_toArray, List.set_cons_zero, List.set_cons_succ])
  refine tk (v := ?_) 9 ?_ ?_
  rotate_left
  · intro w hSw
    go_simp
    (try with_reducible rfl)
  (try simp only [Act.put, List.setIfInBounds_toArray, List.set_cons_zero, List.set_cons_succ])
  refine tk (v := ?_) 10 ?_ ?_
  rotate_left
  · intro w hSw
    go_simp
    (try with_reducible rfl)
  (try simp only [Act.put, List.setIfInBounds_toArray, List.set_cons_zero, List.set_cons_succ])
  refine sk 11 ?_
  (try simp only [Act.put, List.setIfInBounds_toArray, List.set_cons_zero, List.set_cons_succ])
  refine sk 12 ?_
  (try simp only [Act.put, List.setIfInBounds_toArray, List.set_cons_zero, List.set_cons_succ])
  refine sk 13 ?_
  (try simp only [Act.put, List.setIfInBounds_toArray, List.set_cons_zero, List.set_cons_succ])
  refine sk 14 ?_
  (try simp only [Act.put, List.setIfInBounds_toArray, List.set_cons_zero, List.set_cons_succ])
  refine sk 15 ?_
  (try simp only [Act.put, List.setIfInBounds_toArray, List.set_cons_zero, List.set_cons_succ])
  refine sk 16 ?_
  (try simp only [Act.put, List.setIfInBounds_toArray, List.set_cons_zero, List.set_cons_succ])
  refine sk 17 ?_
  (try simp only [Act.put, List.setIfInBounds_toArray, List.set_cons_zero, List.set_cons_succ])
  refine sk 18 ?_
  (try simp only [Act.put, List.setIfInBounds_toArray, List.set_cons_zero, List.set_cons_succ])
  refine sk 19 ?_
  (try simp only [Act.put, List.setIfInBounds_toArray, List.set_cons_zero, List.set_cons_succ])
  refine sk 20 ?_
  (try simp only [Act.put, List.setIfInBounds_toArray, List.set_cons_zero, List.set_cons_succ])
  refine sk 21 ?_
  (try simp only [Act.put, List.setIfInBounds_toArray, List.set_cons_zero, List.set_cons_succ])
  refine sk 22 ?_
  (try simp only [Act.put, List.setIfInBounds_toArray, List.set_cons_zero, List.set_cons_succ])
  refine sk 23 ?_
  (try simp only [Act.put, List.setIfInBounds_toArray, List.set_cons_zero, List.set_cons_succ])
  refine sk 24 ?_
  (try simp only [Act.put, List.setIfInBounds_toArray, List.set_cons_zero, List.set_cons_succ])
  refine tk (v := ?_) 25 ?_ ?_
  rotate_left
  · intro w hSw
    go_simp
    (try with_reducible rfl)
  (try simp only [Act.put, List.setIfInBounds_toArray, List.set_cons_zero, List.set_cons_succ])
  refine tk (v := ?_) 26 ?_ ?_
  rotate_left
  · intro w hSw
    go_simp
    (try with_reducible rfl)
  (try simp only [Act.put, List.setIfInBounds_toArray, List.set_cons_zero, List.set_cons_succ])
  refine wpAnyH_done (by kernel_rfl) ?_ _
  clear hHeld
  go_wp2
  go_ret
  exact ⟨ret_bool (by first | rfl | rw [HG.out]), H2.out.below⟩

set_option maxRecDepth 100000 in
theorem rtog_6 (s : Sn) (i : Int) (w : World) (hs : OkS s) (a0 : 0 ≤ s.a) (a7 : s.a ≤ 7) (i0 : 0 ≤ i) (i7 : i ≤ 7) (c : i ≠ s.a) (e1 : (bitF (thW s.X i) 1 == bitF (thW s.X s.a) 1) = true) (e2 : (bitF (thW s.X i) 2 == bitF (thW s.X s.a) 2) = true) (e6 : (bitF (thW s.X i) 6 == bitF (thW s.X s.a) 6) = false) :
    Calls Tryd.prog 31 #[seenV s, .int .i64 i] w fun e w' => e = .returned (.bool (togF s.X s.a s.b s.n i)) ∧ Below w.heap.size w w' := by
  have c' : (i == s.a) = false := by simp [c]
  have e : togF s.X s.a s.b s.n i = withW s.X s.a s.b s.n i := by unfold togF; simp [c]
  rw [e, with_unlike (by unfold alikeF; simp only [e1, e2, e6]; simp)]
  clear e
  have H0 := Lib.hid ((Mine.start w).new (b := w.heap.size) rfl (seenC s) 38)
  have i8 : i < 8 := by omega
  have a8 : s.a < 8 := by omega
  have hx := hs.at_ i
  have hy := hs.at_ s.a
  obtain ⟨xi, hxi⟩ : ∃ x, thW s.X i = x := ⟨_, rfl⟩
  obtain ⟨xa, hxa⟩ : ∃ x, thW s.X s.a = x := ⟨_, rfl⟩
  rw [hxi, hxa] at e1 e2 e6
  rw [hxi] at hx
  rw [hxa] at hy
  have HG := Lib.hid (rfl : (0 : Int) = 0)
  have HX := Lib.hid hxi
  have HA := Lib.hid hxa
  clear hxi hxa c hs
  go_enter Tryd.func31, Tryd.ntmps31
  go_upto_region 1 with fail
  generalize hw0 : w.alloc _ = w0
  have H1 := Lib.hid (H0.out.world hw0)
  clear hw0 H0
  have r8 := (cell_of_block (H1.out.at_ 0 rfl) 8).trans (show (seenC s)[8]? = some (.int .i64 s.a) from rfl)
  have ri := seen_word (H1.out.at_ 0 rfl) i0 i7
  have ra := seen_word (H1.out.at_ 0 rfl) a0 a7
  rw [HX.out] at ri
  rw [HA.out] at ra
  go_upto_region 6 with (go_at_call 34; first | ((with_reducible refine (rbit_any xi _ _ hx).mono ?_); rintro e w' ⟨rfl, rfl⟩) | ((with_reducible refine (rbit_any xa _ _ hy).mono ?_); rintro e w' ⟨rfl, rfl⟩))
  clear ri ra r8 e1 e2 e6
  refine wp_region_held_drew (S := fun w' => Mine w w' [⟨w.heap.size, seenC s, 38⟩] []) (by kernel_rfl) (H1.out.quiet (Kept.drew0 _)) (fun hHeld => ?_)
  have H2 := Lib.hid (H1.out.quiet (Kept.drew0 _))
  clear H1
  generalize w0.drew = w2 at *
  refine tk (v := ?_) 0 ?_ ?_
  rotate_left
  · intro w hSw
    go_simp
    (try with_reducible rfl)
  (try simp only [Act.put, List.setIfInBounds_toArray, List.set_cons_zero, List.set_cons_succ])
  refine tk (v := ?_) 1 ?_ ?_
  rotate_left
  · intro w hSw
    go_simp
    (try with_reducible rfl)
  (try simp only [Act.put, List.setIfInBounds_toArray, List.set_cons_zero, List.set_cons_succ])
  refine sk 2 ?_
  (try simp only [Act.put, List.setIfInBounds_toArray, List.set_cons_zero, List.set_cons_succ])
  refine sk 3 ?_
  (try simp only [Act.put, List.setIfInBounds_toArray, List.set_cons_zero, List.set_cons_succ])
  refine sk 4 ?_
  (try simp only [Act.put, List.setIfInBounds_toArray, List.set_cons_zero, List.set_cons_succ])
  refine tk (v := ?_) 5 ?_ ?_
  rotate_left
  · intro w hSw
    go_simp
    (try with_reducible rfl)
  (try simp only [Act.put, List.setIfInBounds_toArray, List.set_cons_zero, List.set_cons_succ])
  refine tk (v := ?_) 6 ?_ ?_
  rotate_left
  · intro w hSw
    go_simp
    (try with_reducible rfl)
  (try simp only [Act.put, List.setIfInBounds_toArray, List.set_cons_zero, List.set_cons_succ])
  refine sk 7 ?_
  (try simp only [Act.put, List.setIfInBounds_toArray, List.set_cons_zero, List.set_cons_succ])
  refine sk 8 ?_
  (try simp only [Act.put, List.setIfInBounds_toArray, List.set_cons_zero, List.set_cons_succ])
  refine tk (v := ?_) 9 ?_ ?_
  rotate_left
  · intro w hSw
    go_simp
    (try with_reducible rfl)
  (try simp only [Act.put, List.setIfInBounds_toArray, List.set_cons_zero, List.set_cons_succ])
  refine tk (v := ?_) 10 ?_ ?_
  rotate_left
  · intro w hSw
    go_simp
    (try with_reducible rfl)
  (try simp only [Act.put, List.setIfInBounds_toArray, List.set_cons_zero, List.set_cons_succ])
  refine sk 11 ?_
  (try simp only [Act.put, List.setIfInBounds_toArray, List.set_cons_zero, List.set_cons_succ])
  refine sk 12 ?_
  (try simp only [Act.put, List.setIfInBounds_toArray, List.set_cons_zero, List.set_cons_succ])
  refine sk 13 ?_
  (try simp only [Act.put, List.setIfInBounds_toArray, List.set_cons_zero, List.set_cons_succ])
  refine sk 14 ?_
  (try simp only [Act.put, List.setIfInBounds_toArray, List.set_cons_zero, List.set_cons_succ])
  refine sk 15 ?_
  (try simp only [Act.put, List.setIfInBounds_toArray, List.set_cons_zero, List.set_cons_succ])
  refine sk 16 ?_
  (try simp only [Act.put, List.setIfInBounds_toArray, List.set_cons_zero, List.set_cons_succ])
  refine sk 17 ?_
  (try simp only [Act.put, List.setIfInBounds_toArray, List.set_cons_zero, List.set_cons_succ])
  refine sk 18 ?_
  (try simp only [Act.put, List.setIfInBounds_toArray, List.set_cons_zero, List.set_cons_succ])
  refine sk 19 ?_
  (try simp only [Act.put, List.setIfInBounds_toArray, List.set_cons_zero, List.set_cons_succ])
  refine sk 20 ?_
  (try simp only [Act.put, List.setIfInBounds_toArray, List.set_cons_zero, List.set_cons_succ])
  refine sk 21 ?_
  (try simp only [Act.put, List.setIfInBounds_toArray, List.set_cons_zero, List.set_cons_succ])
  refine sk 22 ?_
  (try simp only [Act.put, List.setIfInBounds_toArray, List.set_cons_zero, List.set_cons_succ])
  refine sk 23 ?_
  (try simp only [Act.put, List.setIfInBounds_toArray, List.set_cons_zero, List.set_cons_succ])
  refine sk 24 ?_
  (try simp only [Act.put, List.setIfInBounds_toArray, List.set_cons_zero, List.set_cons_succ])
  refine tk (v := ?_) 25 ?_ ?_
  rotate_left
  · intro w hSw
    go_simp
    (try with_reducible rfl)
  (try simp only [Act.put, List.setIfInBounds_toArray, List.set_cons_zero, List.set_cons_succ])
  refine tk (v := ?_) 26 ?_ ?_
  rotate_left
  · intro w hSw
    go_simp
    (try with_reducible rfl)
  (try simp only [Act.put, List.setIfInBounds_toArray, List.set_cons_zero, List.set_cons_succ])
  refine wpAnyH_done (by kernel_rfl) ?_ _
  clear hHeld
  go_wp2
  go_ret
  exact ⟨ret_bool (by first | rfl | rw [HG.out]), H2.out.below⟩

set_option maxRecDepth 100000 in
theorem rtog_63 (s : Sn) (i : Int) (w : World) (hs : OkS s) (a0 : 0 ≤ s.a) (a7 : s.a ≤ 7) (i0 : 0 ≤ i) (i7 : i ≤ 7) (c : i ≠ s.a) (e1 : (bitF (thW s.X i) 1 == bitF (thW s.X s.a) 1) = true) (e2 : (bitF (thW s.X i) 2 == bitF (thW s.X s.a) 2) = true) (e6 : (bitF (thW s.X i) 6 == bitF (thW s.X s.a) 6) = true) (e63 : (bitF (thW s.X i) 63 == bitF (thW s.X s.a) 63) = false) :
    Calls Tryd.prog 31 #[seenV s, .int .i64 i] w fun e w' => e = .returned (.bool (togF s.X s.a s.b s.n i)) ∧ Below w.heap.size w w' := by
  have c' : (i == s.a) = false := by simp [c]
  have e : togF s.X s.a s.b s.n i = withW s.X s.a s.b s.n i := by unfold togF; simp [c]
  rw [e, with_unlike (by unfold alikeF; simp only [e1, e2, e6, e63]; simp)]
  clear e
  have H0 := Lib.hid ((Mine.start w).new (b := w.heap.size) rfl (seenC s) 38)
  have i8 : i < 8 := by omega
  have a8 : s.a < 8 := by omega
  have hx := hs.at_ i
  have hy := hs.at_ s.a
  obtain ⟨xi, hxi⟩ : ∃ x, thW s.X i = x := ⟨_, rfl⟩
  obtain ⟨xa, hxa⟩ : ∃ x, thW s.X s.a = x := ⟨_, rfl⟩
  rw [hxi, hxa] at e1 e2 e6 e63
  rw [hxi] at hx
  rw [hxa] at hy
  have HG := Lib.hid (rfl : (0 : Int) = 0)
  have HX := Lib.hid hxi
  have HA := Lib.hid hxa
  clear hxi hxa c hs
  go_enter Tryd.func31, Tryd.ntmps31
  go_upto_region 1 with fail
  generalize hw0 : w.alloc _ = w0
  have H1 := Lib.hid (H0.out.world hw0)
  clear hw0 H0
  have r8 := (cell_of_block (H1.out.at_ 0 rfl) 8).trans (show (seenC s)[8]? = some (.int .i64 s.a) from rfl)
  have ri := seen_word (H1.out.at_ 0 rfl) i0 i7
  have ra := seen_word (H1.out.at_ 0 rfl) a0 a7
  rw [HX.out] at ri
  rw [HA.out] at ra
  go_upto_region 6 with (go_at_call 34; first | ((with_reducible refine (rbit_any xi _ _ hx).mono ?_); rintro e w' ⟨rfl, rfl⟩) | ((with_reducible refine (rbit_any xa _ _ hy).mono ?_); rintro e w' ⟨rfl, rfl⟩))
  clear ri ra r8 e1 e2 e6 e63
  refine wp_region_held_drew (S := fun w' => Mine w w' [⟨w.heap.size, seenC s, 38⟩] []) (by kernel_rfl) (H1.out.quiet (Kept.drew0 _)) (fun hHeld => ?_)
  have H2 := Lib.hid (H1.out.quiet (Kept.drew0 _))
  clear H1
  generalize w0.drew = w2 at *
  refine tk (v := ?_) 0 ?_ ?_
  rotate_left
  · intro w hSw
    go_simp
    (try with_reducible rfl)
  (try simp only [Act.put, List.setIfInBounds_toArray, List.set_cons_zero, List.set_cons_succ])
  refine tk (v := ?_) 1 ?_ ?_
  rotate_left
  · intro w hSw
    go_simp
    (try with_reducible rfl)
  (try simp only [Act.put, List.setIfInBounds_toArray, List.set_cons_zero, List.set_cons_succ])
  refine sk 2 ?_
  (try simp only [Act.put, List.setIfInBounds_toArray, List.set_cons_zero, List.set_cons_succ])
  refine sk 3 ?_
  (try simp only [Act.put, List.setIfInBounds_toArray, List.set_cons_zero, List.set_cons_succ])
  refine sk 4 ?_
  (try simp only [Act.put, List.setIfInBounds_toArray, List.set_cons_zero, List.set_cons_succ])
  refine tk (v := ?_) 5 ?_ ?_
  rotate_left
  · intro w hSw
    go_simp
    (try with_reducible rfl)
  (try simp only [Act.put, List.setIfInBounds_toArray, List.set_cons_zero, List.set_cons_succ])
  refine tk (v := ?_) 6 ?_ ?_
  rotate_left
  · intro w hSw
    go_simp
    (try with_reducible rfl)
  (try simp only [Act.put, List.setIfInBounds_toArray, List.set_cons_zero, List.set_cons_succ])
  refine sk 7 ?_
  (try simp only [Act.put, List.setIfInBounds_toArray, List.set_cons_zero, List.set_cons_succ])
  refine sk 8 ?_
  (try simp only [Act.put, List.setIfInBounds_toArray, List.set_cons_zero, List.set_cons_succ])
  refine tk (v := ?_) 9 ?_ ?_
  rotate_left
  · intro w hSw
    go_simp
    (try with_reducible rfl)
  (try simp only [Act.put, List.setIfInBounds_toArray, List.set_cons_zero, List.set_cons_succ])
  refine tk (v := ?_) 10 ?_ ?_
  rotate_left
  · intro w hSw
    go_simp
    (try with_reducible rfl)
  (try simp only [Act.put, List.setIfInBounds_toArray, List.set_cons_zero, List.set_cons_succ])
  refine sk 11 ?_
  (try simp only [Act.put, List.setIfInBounds_toArray, List.set_cons_zero, List.set_cons_succ])
  refine sk 12 ?_
  (try simp only [Act.put, List.setIfInBounds_toArray, List.set_cons_zero, List.set_cons_succ])
  refine sk 13 ?_
  (try simp only [Act.put, List.setIfInBounds_toArray, List.set_cons_zero, List.set_cons_succ])
  refine sk 14 ?_
  (try simp only [Act.put, List.setIfInBounds_toArray, List.set_cons_zero, List.set_cons_succ])
  refine sk 15 ?_
  (try simp only [Act.put, List.setIfInBounds_toArray, List.set_cons_zero, List.set_cons_succ])
  refine sk 16 ?_
  (try simp only [Act.put, List.setIfInBounds_toArray, List.set_cons_zero, List.set_cons_succ])
  refine sk 17 ?_
  (try simp only [Act.put, List.setIfInBounds_toArray, List.set_cons_zero, List.set_cons_succ])
  refine sk 18 ?_
  (try simp only [Act.put, List.setIfInBounds_toArray, List.set_cons_zero, List.set_cons_succ])
  refine sk 19 ?_
  (try simp only [Act.put, List.setIfInBounds_toArray, List.set_cons_zero, List.set_cons_succ])
  refine sk 20 ?_
  (try simp only [Act.put, List.setIfInBounds_toArray, List.set_cons_zero, List.set_cons_succ])
  refine sk 21 ?_
  (try simp only [Act.put, List.setIfInBounds_toArray, List.set_cons_zero, List.set_cons_succ])
  refine sk 22 ?_
  (try simp only [Act.put, List.setIfInBounds_toArray, List.set_cons_zero, List.set_cons_succ])
  refine sk 23 ?_
  (try simp only [Act.put, List.setIfInBounds_toArray, List.set_cons_zero, List.set_cons_succ])
  refine sk 24 ?_
  (try simp only [Act.put, List.setIfInBounds_toArray, List.set_cons_zero, List.set_cons_succ])
  refine tk (v := ?_) 25 ?_ ?_
  rotate_left
  · intro w hSw
    go_simp
    (try with_reducible rfl)
  (try simp only [Act.put, List.setIfInBounds_toArray, List.set_cons_zero, List.set_cons_succ])
  refine tk (v := ?_) 26 ?_ ?_
  rotate_left
  · intro w hSw
    go_simp
    (try with_reducible rfl)
  (try simp only [Act.put, List.setIfInBounds_toArray, List.set_cons_zero, List.set_cons_succ])
  refine wpAnyH_done (by kernel_rfl) ?_ _
  clear hHeld
  go_wp2
  go_ret
  exact ⟨ret_bool (by first | rfl | rw [HG.out]), H2.out.below⟩

set_option maxRecDepth 100000 in
theorem rtog_m (s : Sn) (i : Int) (w : World) (hs : OkS s) (a0 : 0 ≤ s.a) (a7 : s.a ≤ 7) (i0 : 0 ≤ i) (i7 : i ≤ 7) (c : i ≠ s.a) (e1 : (bitF (thW s.X i) 1 == bitF (thW s.X s.a) 1) = true) (e2 : (bitF (thW s.X i) 2 == bitF (thW s.X s.a) 2) = true) (e6 : (bitF (thW s.X i) 6 == bitF (thW s.X s.a) 6) = true) (e63 : (bitF (thW s.X i) 63 == bitF (thW s.X s.a) 63) = true) (hm : mapW (thW s.X i) s.b s.n = false) :
    Calls Tryd.prog 31 #[seenV s, .int .i64 i] w fun e w' => e = .returned (.bool (togF s.X s.a s.b s.n i)) ∧ Below w.heap.size w w' := by
  have c' : (i == s.a) = false := by simp [c]
  have e : togF s.X s.a s.b s.n i = withW s.X s.a s.b s.n i := by unfold togF; simp [c]
  rw [e, with_unmay hm]
  clear e
  have H0 := Lib.hid ((Mine.start w).new (b := w.heap.size) rfl (seenC s) 38)
  have i8 : i < 8 := by omega
  have a8 : s.a < 8 := by omega
  have hx := hs.at_ i
  have hy := hs.at_ s.a
  obtain ⟨xi, hxi⟩ : ∃ x, thW s.X i = x := ⟨_, rfl⟩
  obtain ⟨xa, hxa⟩ : ∃ x, thW s.X s.a = x := ⟨_, rfl⟩
  rw [hxi, hxa] at e1 e2 e6 e63
  rw [hxi] at hx hm
  rw [hxa] at hy
  have HG := Lib.hid (rfl : (0 : Int) = 0)
  have HM := Lib.hid hm
  clear hm
  have HX := Lib.hid hxi
  have HA := Lib.hid hxa
  clear hxi hxa c hs
  go_enter Tryd.func31, Tryd.ntmps31
  go_upto_region 1 with fail
  generalize hw0 : w.alloc _ = w0
  have H1 := Lib.hid (H0.out.world hw0)
  clear hw0 H0
  have r8 := (cell_of_block (H1.out.at_ 0 rfl) 8).trans (show (seenC s)[8]? = some (.int .i64 s.a) from rfl)
  have ri := seen_word (H1.out.at_ 0 rfl) i0 i7
  have ra := seen_word (H1.out.at_ 0 rfl) a0 a7
  rw [HX.out] at ri
  rw [HA.out] at ra
  go_upto_region 6 with (go_at_call 34; first | ((with_reducible refine (rbit_any xi _ _ hx).mono ?_); rintro e w' ⟨rfl, rfl⟩) | ((with_reducible refine (rbit_any xa _ _ hy).mono ?_); rintro e w' ⟨rfl, rfl⟩))
  clear ri ra r8 e1 e2 e6 e63
  refine wp_region_held_drew (S := fun w' => Mine w w' [⟨w.heap.size, seenC s, 38⟩] []) (by kernel_rfl) (H1.out.quiet (Kept.drew0 _)) (fun hHeld => ?_)
  have H2 := Lib.hid (H1.out.quiet (Kept.drew0 _))
  clear H1
  generalize w0.drew = w2 at *
  refine tk (v := ?_) 0 ?_ ?_
  rotate_left
  · intro w hSw
    go_simp
    (try with_reducible rfl)
  (try simp only [Act.put, List.setIfInBounds_toArray, List.set_cons_zero, List.set_cons_succ])
  refine tk (v := ?_) 1 ?_ ?_
  rotate_left
  · intro w hSw
    go_simp
    (try with_reducible rfl)
  (try simp only [Act.put, List.setIfInBounds_toArray, List.set_cons_zero, List.set_cons_succ])
  refine tk (v := ?_) 2 ?_ ?_
  rotate_left
  · intro w hSw
    obtain ⟨c0, c1, c2, c3, c4, c5, c6, c7, c8, c9, c10, c11, c12, c13⟩ := (hSw.at_ 0 rfl).seen
    go_simp
    (try with_reducible rfl)
  (try simp only [Act.put, List.setIfInBounds_toArray, List.set_cons_zero, List.set_cons_succ])
  refine tk (v := ?_) 3 ?_ ?_
  rotate_left
  · intro w hSw
    go_simp
    (try with_reducible rfl)
  (try simp only [Act.put, List.setIfInBounds_toArray, List.set_cons_zero, List.set_cons_succ])
  refine wpAnyH_ready (rs := [4]) (by kernel_rfl) (by simp) ?_
  refine anyH_one rfl (fun K hK => ?_) ?_
  · go_simp
    refine (rmayG_any s _ _ hx).mono ?_
    rw [HM.out]
    rintro e w3 ⟨rfl, hB3⟩
    have H3 := Lib.hid (H2.out.quiet hB3)
    clear H2
    refine hK.out _ _ (H3.out.pick [0] []) (fun hHeld => ?_)
    clear hK K
    (try simp only [Act.put, List.setIfInBounds_toArray, List.set_cons_zero, List.set_cons_succ])
    refine tk (v := ?_) 5 ?_ ?_
    rotate_left
    · intro w hSw
      go_simp
      (try with_reducible rfl)
    (try simp only [Act.put, List.setIfInBounds_toArray, List.set_cons_zero, List.set_cons_succ])
    refine tk (v := ?_) 6 ?_ ?_
    rotate_left
    · intro w hSw
      go_simp
      (try with_reducible rfl)
    (try simp only [Act.put, List.setIfInBounds_toArray, List.set_cons_zero, List.set_cons_succ])
    refine sk 7 ?_
    (try simp only [Act.put, List.setIfInBounds_toArray, List.set_cons_zero, List.set_cons_succ])
    refine sk 8 ?_
    (try simp only [Act.put, List.setIfInBounds_toArray, List.set_cons_zero, List.set_cons_succ])
    refine tk (v := ?_) 9 ?_ ?_
    rotate_left
    · intro w hSw
      go_simp
      (try with_reducible rfl)
    (try simp only [Act.put, List.setIfInBounds_toArray, List.set_cons_zero, List.set_cons_succ])
    refine tk (v := ?_) 10 ?_ ?_
    rotate_left
    · intro w hSw
      go_simp
      (try with_reducible rfl)
    (try simp only [Act.put, List.setIfInBounds_toArray, List.set_cons_zero, List.set_cons_succ])
    refine sk 11 ?_
    (try simp only [Act.put, List.setIfInBounds_toArray, List.set_cons_zero, List.set_cons_succ])
    refine sk 12 ?_
    (try simp only [Act.put, List.setIfInBounds_toArray, List.set_cons_zero, List.set_cons_succ])
    refine sk 13 ?_
    (try simp only [Act.put, List.setIfInBounds_toArray, List.set_cons_zero, List.set_cons_succ])
    refine sk 14 ?_
    (try simp only [Act.put, List.setIfInBounds_toArray, List.set_cons_zero, List.set_cons_succ])
    refine sk 15 ?_
    (try simp only [Act.put, List.setIfInBounds_toArray, List.set_cons_zero, List.set_cons_succ])
    refine sk 16 ?_
    (try simp only [Act.put, List.setIfInBounds_toArray, List.set_cons_zero, List.set_cons_succ])
    refine sk 17 ?_
    (try simp only [Act.put, List.setIfInBounds_toArray, List.set_cons_zero, List.set_cons_succ])
    refine sk 18 ?_
    (try simp only [Act.put, List.setIfInBounds_toArray, List.set_cons_zero, List.set_cons_succ])
    refine sk 19 ?_
    (try simp only [Act.put, List.setIfInBounds_toArray, List.set_cons_zero, List.set_cons_succ])
    refine sk 20 ?_
    (try simp only [Act.put, List.setIfInBounds_toArray, List.set_cons_zero, List.set_cons_succ])
    refine sk 21 ?_
    (try simp only [Act.put, List.setIfInBounds_toArray, List.set_cons_zero, List.set_cons_succ])
    refine sk 22 ?_
    (try simp only [Act.put, List.setIfInBounds_toArray, List.set_cons_zero, List.set_cons_succ])
    refine sk 23 ?_
    (try simp only [Act.put, List.setIfInBounds_toArray, List.set_cons_zero, List.set_cons_succ])
    refine sk 24 ?_
    (try simp only [Act.put, List.setIfInBounds_toArray, List.set_cons_zero, List.set_cons_succ])
    refine tk (v := ?_) 25 ?_ ?_
    rotate_left
    · intro w hSw
      go_simp
      (try with_reducible rfl)
    (try simp only [Act.put, List.setIfInBounds_toArray, List.set_cons_zero, List.set_cons_succ])
    refine tk (v := ?_) 26 ?_ ?_
    rotate_left
    · intro w hSw
      go_simp
      (try with_reducible rfl)
    (try simp only [Act.put, List.setIfInBounds_toArray, List.set_cons_zero, List.set_cons_succ])
    refine wpAnyH_done (by kernel_rfl) ?_ _
    clear hHeld
    go_wp2
    go_ret
    exact ⟨ret_bool (by first | rfl | rw [HG.out]), H3.out.below⟩
  exact AllReadyH.nil

set_option maxRecDepth 100000 in
theorem rtog_5 (s : Sn) (i : Int) (w : World) (hs : OkS s) (a0 : 0 ≤ s.a) (a7 : s.a ≤ 7) (i0 : 0 ≤ i) (i7 : i ≤ 7) (c : i ≠ s.a) (e1 : (bitF (thW s.X i) 1 == bitF (thW s.X s.a) 1) = true) (e2 : (bitF (thW s.X i) 2 == bitF (thW s.X s.a) 2) = true) (e6 : (bitF (thW s.X i) 6 == bitF (thW s.X s.a) 6) = true) (e63 : (bitF (thW s.X i) 63 == bitF (thW s.X s.a) 63) = true) (hm : mapW (thW s.X i) s.b s.n = true) (h5 : bitF (thW s.X i) 5 = false) :
    Calls Tryd.prog 31 #[seenV s, .int .i64 i] w fun e w' => e = .returned (.bool (togF s.X s.a s.b s.n i)) ∧ Below w.heap.size w w' := by
  have c' : (i == s.a) = false := by simp [c]
  have e : togF s.X s.a s.b s.n i = withW s.X s.a s.b s.n i := by unfold togF; simp [c]
  rw [e, with_unused h5]
  clear e
  have H0 := Lib.hid ((Mine.start w).new (b := w.heap.size) rfl (seenC s) 38)
  have i8 : i < 8 := by omega
  have a8 : s.a < 8 := by omega
  have hx := hs.at_ i
  have hy := hs.at_ s.a
  obtain ⟨xi, hxi⟩ : ∃ x, thW s.X i = x := ⟨_, rfl⟩
  obtain ⟨xa, hxa⟩ : ∃ x, thW s.X s.a = x := ⟨_, rfl⟩
  rw [hxi, hxa] at e1 e2 e6 e63
  rw [hxi] at hx hm h5
  rw [hxa] at hy
  have HG := Lib.hid (rfl : (0 : Int) = 0)
  have HM := Lib.hid hm
  clear hm
  have B5 := h5
  clear h5
  have HX := Lib.hid hxi
  have HA := Lib.hid hxa
  clear hxi hxa c hs
  go_enter Tryd.func31, Tryd.ntmps31
  go_upto_region 1 with fail
  generalize hw0 : w.alloc _ = w0
  have H1 := Lib.hid (H0.out.world hw0)
  clear hw0 H0
  have r8 := (cell_of_block (H1.out.at_ 0 rfl) 8).trans (show (seenC s)[8]? = some (.int .i64 s.a) from rfl)
  have ri := seen_word (H1.out.at_ 0 rfl) i0 i7
  have ra := seen_word (H1.out.at_ 0 rfl) a0 a7
  rw [HX.out] at ri
  rw [HA.out] at ra
  go_upto_region 6 with (go_at_call 34; first | ((with_reducible refine (rbit_any xi _ _ hx).mono ?_); rintro e w' ⟨rfl, rfl⟩) | ((with_reducible refine (rbit_any xa _ _ hy).mono ?_); rintro e w' ⟨rfl, rfl⟩))
  clear ri ra r8 e1 e2 e6 e63
  refine wp_region_held_drew (S := fun w' => Mine w w' [⟨w.heap.size, seenC s, 38⟩] []) (by kernel_rfl) (H1.out.quiet (Kept.drew0 _)) (fun hHeld => ?_)
  have H2 := Lib.hid (H1.out.quiet (Kept.drew0 _))
  clear H1
  generalize w0.drew = w2 at *
  refine tk (v := ?_) 0 ?_ ?_
  rotate_left
  · intro w hSw
    go_simp
    (try with_reducible rfl)
  (try simp only [Act.put, List.setIfInBounds_toArray, List.set_cons_zero, List.set_cons_succ])
  refine tk (v := ?_) 1 ?_ ?_
  rotate_left
  · intro w hSw
    go_simp
    (try with_reducible rfl)
  (try simp only [Act.put, List.setIfInBounds_toArray, List.set_cons_zero, List.set_cons_succ])
  refine tk (v := ?_) 2 ?_ ?_
  rotate_left
  · intro w hSw
    obtain ⟨c0, c1, c2, c3, c4, c5, c6, c7, c8, c9, c10, c11, c12, c13⟩ := (hSw.at_ 0 rfl).seen
    go_simp
    (try with_reducible rfl)
  (try simp only [Act.put, List.setIfInBounds_toArray, List.set_cons_zero, List.set_cons_succ])
  refine tk (v := ?_) 3 ?_ ?_
  rotate_left
  · intro w hSw
    go_simp
    (try with_reducible rfl)
  (try simp only [Act.put, List.setIfInBounds_toArray, List.set_cons_zero, List.set_cons_succ])
  refine wpAnyH_ready (rs := [4]) (by kernel_rfl) (by simp) ?_
  refine anyH_one rfl (fun K hK => ?_) ?_
  · go_simp
    refine (rmayG_any s _ _ hx).mono ?_
    rw [HM.out]
    rintro e w3 ⟨rfl, hB3⟩
    have H3 := Lib.hid (H2.out.quiet hB3)
    clear H2
    refine hK.out _ _ (H3.out.pick [0] []) (fun hHeld => ?_)
    clear hK K
    (try simp only [Act.put, List.setIfInBounds_toArray, List.set_cons_zero, List.set_cons_succ])
    refine tk (v := ?_) 5 ?_ ?_
    rotate_left
    · intro w hSw
      go_simp
      (try with_reducible rfl)
    (try simp only [Act.put, List.setIfInBounds_toArray, List.set_cons_zero, List.set_cons_succ])
    refine tk (v := ?_) 6 ?_ ?_
    rotate_left
    · intro w hSw
      go_simp
      (try with_reducible rfl)
    (try simp only [Act.put, List.setIfInBounds_toArray, List.set_cons_zero, List.set_cons_succ])
    refine tk (v := ?_) 7 ?_ ?_
    rotate_left
    · intro w hSw
      go_simp
      (try with_reducible rfl)
    (try simp only [Act.put, List.setIfInBounds_toArray, List.set_cons_zero, List.set_cons_succ])
    refine wpAnyH_ready (rs := [8]) (by kernel_rfl) (by simp) ?_
    refine anyH_one rfl (fun K hK => ?_) ?_
    · go_simp
      refine (callsB (rbit_any _ _ _ hx)).mono ?_
      rw [B5]
      rintro e w4 ⟨rfl, hB4⟩
      have H4 := Lib.hid (H3.out.quiet hB4)
      clear H3
      refine hK.out _ _ (H4.out.pick [0] []) (fun hHeld => ?_)
      clear hK K
      (try simp only [Act.put, List.setIfInBounds_toArray, List.set_cons_zero, List.set_cons_succ])
      refine tk (v := ?_) 9 ?_ ?_
      rotate_left
      · intro w hSw
        go_simp
        (try with_reducible rfl)
      (try simp only [Act.put, List.setIfInBounds_toArray, List.set_cons_zero, List.set_cons_succ])
      refine tk (v := ?_) 10 ?_ ?_
      rotate_left
      · intro w hSw
        go_simp
        (try with_reducible rfl)
      (try simp only [Act.put, List.setIfInBounds_toArray, List.set_cons_zero, List.set_cons_succ])
      refine sk 11 ?_
      (try simp only [Act.put, List.setIfInBounds_toArray, List.set_cons_zero, List.set_cons_succ])
      refine sk 12 ?_
      (try simp only [Act.put, List.setIfInBounds_toArray, List.set_cons_zero, List.set_cons_succ])
      refine sk 13 ?_
      (try simp only [Act.put, List.setIfInBounds_toArray, List.set_cons_zero, List.set_cons_succ])
      refine sk 14 ?_
      (try simp only [Act.put, List.setIfInBounds_toArray, List.set_cons_zero, List.set_cons_succ])
      refine sk 15 ?_
      (try simp only [Act.put, List.setIfInBounds_toArray, List.set_cons_zero, List.set_cons_succ])
      refine sk 16 ?_
      (try simp only [Act.put, List.setIfInBounds_toArray, List.set_cons_zero, List.set_cons_succ])
      refine sk 17 ?_
      (try simp only [Act.put, List.setIfInBounds_toArray, List.set_cons_zero, List.set_cons_succ])
      refine sk 18 ?_
      (try simp only [Act.put, List.setIfInBounds_toArray, List.set_cons_zero, List.set_cons_succ])
      refine sk 19 ?_
      (try simp only [Act.put, List.setIfInBounds_toArray, List.set_cons_zero, List.set_cons_succ])
      refine sk 20 ?_
      (try simp only [Act.put, List.setIfInBounds_toArray, List.set_cons_zero, List.set_cons_succ])
      refine sk 21 ?_
      (try simp only [Act.put, List.setIfInBounds_toArray, List.set_cons_zero, List.set_cons_succ])
      refine sk 22 ?_
      (try simp only [Act.put, List.setIfInBounds_toArray, List.set_cons_zero, List.set_cons_succ])
      refine sk 23 ?_
      (try simp only [Act.put, List.setIfInBounds_toArray, List.set_cons_zero, List.set_cons_succ])
      refine sk 24 ?_
      (try simp only [Act.put, List.setIfInBounds_toArray, List.set_cons_zero, List.set_cons_succ])
      refine tk (v := ?_) 25 ?_ ?_
      rotate_left
      · intro w hSw
        go_simp
        (try with_reducible rfl)
      (try simp only [Act.put, List.setIfInBounds_toArray, List.set_cons_zero, List.set_cons_succ])
      refine tk (v := ?_) 26 ?_ ?_
      rotate_left
      · intro w hSw
        go_simp
        (try with_reducible rfl)
      (try simp only [Act.put, List.setIfInBounds_toArray, List.set_cons_zero, List.set_cons_succ])
      refine wpAnyH_done (by kernel_rfl) ?_ _
      clear hHeld
      go_wp2
      go_ret
      exact ⟨ret_bool (by first | rfl | rw [HG.out]), H4.out.below⟩
    exact AllReadyH.nil
  exact AllReadyH.nil

set_option maxRecDepth 100000 in
theorem rtog_f (s : Sn) (i : Int) (w : World) (hs : OkS s) (a0 : 0 ≤ s.a) (a7 : s.a ≤ 7) (i0 : 0 ≤ i) (i7 : i ≤ 7) (c : i ≠ s.a) (e1 : (bitF (thW s.X i) 1 == bitF (thW s.X s.a) 1) = true) (e2 : (bitF (thW s.X i) 2 == bitF (thW s.X s.a) 2) = true) (e6 : (bitF (thW s.X i) 6 == bitF (thW s.X s.a) 6) = true) (e63 : (bitF (thW s.X i) 63 == bitF (thW s.X s.a) 63) = true) (hm : mapW (thW s.X i) s.b s.n = true) (h5 : bitF (thW s.X i) 5 = true) :
    Calls Tryd.prog 31 #[seenV s, .int .i64 i] w fun e w' => e = .returned (.bool (togF s.X s.a s.b s.n i)) ∧ Below w.heap.size w w' := by
  have c' : (i == s.a) = false := by simp [c]
  have e : togF s.X s.a s.b s.n i = withW s.X s.a s.b s.n i := by unfold togF; simp [c]
  rw [e, with_frame (by unfold alikeF; rw [e1, e2, e6, e63]; rfl) hm h5]
  clear e
  have H0 := Lib.hid ((Mine.start w).new (b := w.heap.size) rfl (seenC s) 38)
  have i8 : i < 8 := by omega
  have a8 : s.a < 8 := by omega
  have hx := hs.at_ i
  have hy := hs.at_ s.a
  obtain ⟨xi, hxi⟩ : ∃ x, thW s.X i = x := ⟨_, rfl⟩
  obtain ⟨xa, hxa⟩ : ∃ x, thW s.X s.a = x := ⟨_, rfl⟩
  rw [hxi, hxa] at e1 e2 e6 e63
  rw [hxi] at hx hm h5
  rw [hxa] at hy
  rw [hxi, hxa]
  have HG := Lib.hid (frm_two (tableF xa) i s.a)
  have HM := Lib.hid hm
  clear hm
  have B5 := h5
  clear h5
  have HX := Lib.hid hxi
  have HA := Lib.hid hxa
  clear hxi hxa c hs
  go_enter Tryd.func31, Tryd.ntmps31
  go_upto_region 1 with fail
  generalize hw0 : w.alloc _ = w0
  have H1 := Lib.hid (H0.out.world hw0)
  clear hw0 H0
  have r8 := (cell_of_block (H1.out.at_ 0 rfl) 8).trans (show (seenC s)[8]? = some (.int .i64 s.a) from rfl)
  have ri := seen_word (H1.out.at_ 0 rfl) i0 i7
  have ra := seen_word (H1.out.at_ 0 rfl) a0 a7
  rw [HX.out] at ri
  rw [HA.out] at ra
  go_upto_region 6 with (go_at_call 34; first | ((with_reducible refine (rbit_any xi _ _ hx).mono ?_); rintro e w' ⟨rfl, rfl⟩) | ((with_reducible refine (rbit_any xa _ _ hy).mono ?_); rintro e w' ⟨rfl, rfl⟩))
  clear ri ra r8 e1 e2 e6 e63
  refine wp_region_held_drew (S := fun w' => Mine w w' [⟨w.heap.size, seenC s, 38⟩] []) (by kernel_rfl) (H1.out.quiet (Kept.drew0 _)) (fun hHeld => ?_)
  have H2 := Lib.hid (H1.out.quiet (Kept.drew0 _))
  clear H1
  generalize w0.drew = w2 at *
  refine tk (v := ?_) 0 ?_ ?_
  rotate_left
  · intro w hSw
    go_simp
    (try with_reducible rfl)
  (try simp only [Act.put, List.setIfInBounds_toArray, List.set_cons_zero, List.set_cons_succ])
  refine tk (v := ?_) 1 ?_ ?_
  rotate_left
  · intro w hSw
    go_simp
    (try with_reducible rfl)
  (try simp only [Act.put, List.setIfInBounds_toArray, List.set_cons_zero, List.set_cons_succ])
  refine tk (v := ?_) 2 ?_ ?_
  rotate_left
  · intro w hSw
    obtain ⟨c0, c1, c2, c3, c4, c5, c6, c7, c8, c9, c10, c11, c12, c13⟩ := (hSw.at_ 0 rfl).seen
    go_simp
    (try with_reducible rfl)
  (try simp only [Act.put, List.setIfInBounds_toArray, List.set_cons_zero, List.set_cons_succ])
  refine tk (v := ?_) 3 ?_ ?_
  rotate_left
  · intro w hSw
    go_simp
    (try with_reducible rfl)
  (try simp only [Act.put, List.setIfInBounds_toArray, List.set_cons_zero, List.set_cons_succ])
  refine wpAnyH_ready (rs := [4]) (by kernel_rfl) (by simp) ?_
  refine anyH_one rfl (fun K hK => ?_) ?_
  · go_simp
    refine (rmayG_any s _ _ hx).mono ?_
    rw [HM.out]
    rintro e w3 ⟨rfl, hB3⟩
    have H3 := Lib.hid (H2.out.quiet hB3)
    clear H2
    refine hK.out _ _ (H3.out.pick [0] []) (fun hHeld => ?_)
    clear hK K
    (try simp only [Act.put, List.setIfInBounds_toArray, List.set_cons_zero, List.set_cons_succ])
    refine tk (v := ?_) 5 ?_ ?_
    rotate_left
    · intro w hSw
      go_simp
      (try with_reducible rfl)
    (try simp only [Act.put, List.setIfInBounds_toArray, List.set_cons_zero, List.set_cons_succ])
    refine tk (v := ?_) 6 ?_ ?_
    rotate_left
    · intro w hSw
      go_simp
      (try with_reducible rfl)
    (try simp only [Act.put, List.setIfInBounds_toArray, List.set_cons_zero, List.set_cons_succ])
    refine tk (v := ?_) 7 ?_ ?_
    rotate_left
    · intro w hSw
      go_simp
      (try with_reducible rfl)
    (try simp only [Act.put, List.setIfInBounds_toArray, List.set_cons_zero, List.set_cons_succ])
    refine wpAnyH_ready (rs := [8]) (by kernel_rfl) (by simp) ?_
    refine anyH_one rfl (fun K hK => ?_) ?_
    · go_simp
      refine (callsB (rbit_any _ _ _ hx)).mono ?_
      rw [B5]
      rintro e w4 ⟨rfl, hB4⟩
      have H4 := Lib.hid (H3.out.quiet hB4)
      clear H3
      refine hK.out _ _ (H4.out.pick [0] []) (fun hHeld => ?_)
      clear hK K
      (try simp only [Act.put, List.setIfInBounds_toArray, List.set_cons_zero, List.set_cons_succ])
      refine tk (v := ?_) 9 ?_ ?_
      rotate_left
      · intro w hSw
        go_simp
        (try with_reducible rfl)
      (try simp only [Act.put, List.setIfInBounds_toArray, List.set_cons_zero, List.set_cons_succ])
      refine tk (v := ?_) 10 ?_ ?_
      rotate_left
      · intro w hSw
        go_simp
        (try with_reducible rfl)
      (try simp only [Act.put, List.setIfInBounds_toArray, List.set_cons_zero, List.set_cons_succ])
      refine tk (v := ?_) 11 ?_ ?_
      rotate_left
      · intro w hSw
        go_simp
        (try with_reducible rfl)
      (try simp only [Act.put, List.setIfInBounds_toArray, List.set_cons_zero, List.set_cons_succ])
      refine tk (v := ?_) 13 ?_ ?_
      rotate_left
      · intro w hSw
        go_simp
        (try with_reducible rfl)
      (try simp only [Act.put, List.setIfInBounds_toArray, List.set_cons_zero, List.set_cons_succ])
      refine tk (v := ?_) 15 ?_ ?_
      rotate_left
      · intro w hSw
        go_simp
        (try with_reducible rfl)
      (try simp only [Act.put, List.setIfInBounds_toArray, List.set_cons_zero, List.set_cons_succ])
      refine tk (v := ?_) 16 ?_ ?_
      rotate_left
      · intro w hSw
        go_simp
        (try with_reducible rfl)
      (try simp only [Act.put, List.setIfInBounds_toArray, List.set_cons_zero, List.set_cons_succ])
      refine tk (v := ?_) 17 ?_ ?_
      rotate_left
      · intro w hSw
        go_simp
        (try with_reducible rfl)
      (try simp only [Act.put, List.setIfInBounds_toArray, List.set_cons_zero, List.set_cons_succ])
      refine tk (v := ?_) 19 ?_ ?_
      rotate_left
      · intro w hSw
        go_simp
        (try with_reducible rfl)
      (try simp only [Act.put, List.setIfInBounds_toArray, List.set_cons_zero, List.set_cons_succ])
      refine tk (v := ?_) 20 ?_ ?_
      rotate_left
      · intro w hSw
        have r8 := (cell_of_block (hSw.at_ 0 rfl) 8).trans (show (seenC s)[8]? = some (.int .i64 s.a) from rfl)
        go_simp
        (try with_reducible rfl)
      (try simp only [Act.put, List.setIfInBounds_toArray, List.set_cons_zero, List.set_cons_succ])
      refine tk (v := ?_) 21 ?_ ?_
      rotate_left
      · intro w hSw
        go_simp
        (try with_reducible rfl)
      (try simp only [Act.put, List.setIfInBounds_toArray, List.set_cons_zero, List.set_cons_succ])
      refine tk (v := ?_) 22 ?_ ?_
      rotate_left
      · intro w hSw
        go_simp
        (try with_reducible rfl)
      (try simp only [Act.put, List.setIfInBounds_toArray, List.set_cons_zero, List.set_cons_succ])
      refine wpAnyH_ready (rs := [12]) (by kernel_rfl) (by simp) ?_
      refine anyH_one rfl (fun K hK => ?_) ?_
      · go_simp
        refine (callsB (rtable_any _ _ hx)).mono ?_
        rintro e w5 ⟨rfl, hB5⟩
        have H5 := Lib.hid (H4.out.quiet hB5)
        clear H4
        refine hK.out _ _ (H5.out.pick [0] []) (fun hHeld => ?_)
        clear hK K
        (try simp only [Act.put, List.setIfInBounds_toArray, List.set_cons_zero, List.set_cons_succ])
        refine wpAnyH_ready (rs := [14]) (by kernel_rfl) (by simp) ?_
        refine anyH_one rfl (fun K hK => ?_) ?_
        · go_simp
          refine (callsB (rtable_any _ _ hy)).mono ?_
          rintro e w6 ⟨rfl, hB6⟩
          have H6 := Lib.hid (H5.out.quiet hB6)
          clear H5
          refine hK.out _ _ (H6.out.pick [0] []) (fun hHeld => ?_)
          clear hK K
          (try simp only [Act.put, List.setIfInBounds_toArray, List.set_cons_zero, List.set_cons_succ])
          refine tk (v := ?_) 18 ?_ ?_
          rotate_left
          · intro w hSw
            go_simp
            (try with_reducible rfl)
          (try simp only [Act.put, List.setIfInBounds_toArray, List.set_cons_zero, List.set_cons_succ])
          refine tk (v := ?_) 23 ?_ ?_
          rotate_left
          · intro w hSw
            go_simp
            (try with_reducible rfl)
          (try simp only [Act.put, List.setIfInBounds_toArray, List.set_cons_zero, List.set_cons_succ])
          refine tk (v := ?_) 24 ?_ ?_
          rotate_left
          · intro w hSw
            go_simp
            (try with_reducible rfl)
          (try simp only [Act.put, List.setIfInBounds_toArray, List.set_cons_zero, List.set_cons_succ])
          refine tk (v := ?_) 25 ?_ ?_
          rotate_left
          · intro w hSw
            go_simp
            (try with_reducible rfl)
          (try simp only [Act.put, List.setIfInBounds_toArray, List.set_cons_zero, List.set_cons_succ])
          refine tk (v := ?_) 26 ?_ ?_
          rotate_left
          · intro w hSw
            go_simp
            (try with_reducible rfl)
          (try simp only [Act.put, List.setIfInBounds_toArray, List.set_cons_zero, List.set_cons_succ])
          refine wpAnyH_done (by kernel_rfl) ?_ _
          clear hHeld
          go_wp2
          go_ret
          exact ⟨ret_bool (by first | rfl | rw [HG.out]), H6.out.below⟩
        exact AllReadyH.nil
      exact AllReadyH.nil
    exact AllReadyH.nil
  exact AllReadyH.nil

theorem rtog_any (s : Sn) (i : Int) (w : World) (hs : OkS s) (a0 : 0 ≤ s.a) (a7 : s.a ≤ 7) (i0 : 0 ≤ i) (i7 : i ≤ 7) :
    Calls Tryd.prog 31 #[seenV s, .int .i64 i] w fun e w' => e = .returned (.bool (togF s.X s.a s.b s.n i)) ∧ Below w.heap.size w w' := by
  by_cases c : i = s.a
  · exact rtog_own s i w a0 a7 c
  · cases e1 : (bitF (thW s.X i) 1 == bitF (thW s.X s.a) 1)
    · exact rtog_1 s i w hs a0 a7 i0 i7 c e1
    · cases e2 : (bitF (thW s.X i) 2 == bitF (thW s.X s.a) 2)
      · exact rtog_2 s i w hs a0 a7 i0 i7 c e1 e2
      · cases e6 : (bitF (thW s.X i) 6 == bitF (thW s.X s.a) 6)
        · exact rtog_6 s i w hs a0 a7 i0 i7 c e1 e2 e6
        · cases e63 : (bitF (thW s.X i) 63 == bitF (thW s.X s.a) 63)
          · exact rtog_63 s i w hs a0 a7 i0 i7 c e1 e2 e6 e63
          · cases hm : mapW (thW s.X i) s.b s.n
            · exact rtog_m s i w hs a0 a7 i0 i7 c e1 e2 e6 e63 hm
            · cases h5 : bitF (thW s.X i) 5
              · exact rtog_5 s i w hs a0 a7 i0 i7 c e1 e2 e6 e63 hm h5
              · exact rtog_f s i w hs a0 a7 i0 i7 c e1 e2 e6 e63 hm h5
end Go.Proofs.YtmglikmphddicaaDoor
/- Contracts of dormerref06: And. -/
namespace Go.Proofs.YtmglikmphddicaaDoor
set_option linter.unusedVariables false
set_option linter.unusedSimpArgs false
open Go.ChangeShapes Go.WideShapes Go.ChangeAt Go.RowKit Go.Joins

/-- block g holds a right of the document's -/
def RowG (w : World) (g : Nat) (cs : Array Value) : Prop := w.heap[g]? = some (.cells cs 29 (0, 0))
abbrev noG : Array Value := #[.bool false, .bool false, .bool false]

/-- a right's box, and room for another one -/
theorem rand_start (W : World) (w u x : Bool) :
    RgtAt ((W.alloc (.cells #[.bool w, .bool u, .bool x] 29)).alloc (.cells noG 29)) W.heap.size w u x ∧
    RowG ((W.alloc (.cells #[.bool w, .bool u, .bool x] 29)).alloc (.cells noG 29)) (W.heap.size + 1) noG ∧
    Below W.heap.size W ((W.alloc (.cells #[.bool w, .bool u, .bool x] 29)).alloc (.cells noG 29)) :=
  ⟨rgt_keep (rgt_new W w u x _) (by simp) (kept_alloc _ _), last_obj2 _ _ _, below2 _ _ _⟩

set_option maxRecDepth 100000 in
set_option maxHeartbeats 1600000 in
theorem rand_any (w u x : Bool) (y : Int) (W : World) (hy : W64 y) :
    Calls Tryd.prog 33 #[rgtV w u x, .int .u64 y] W fun e W' => e = .returned (andV w u x y) ∧ Below W.heap.size W W' := by
  cases w <;> cases u <;> cases x
  all_goals
    go_enter Tryd.func33, Tryd.ntmps33
    go_wp2
    obtain ⟨⟨a0, a1, a2⟩, hR, hB⟩ := rand_start W _ _ _
    have HR := Lib.hid hR
    have HB := Lib.hid hB
    clear hR hB
    generalize (W.alloc _).alloc _ = w1 at *
    refine wp_region_still_tail 20 (by kernel_rfl) (by kernel_rfl) ?_
    simp only [List.take_succ_cons, List.take_zero, List.drop_succ_cons, List.drop_zero]
    repeat (first | still_step | still_call (stillOf (rbit_any _ _ _ hy)))
    refine wpStill_nil ?_
    change wpList _ _ _ _ _ w1.drew
    have HE2 : Hid (RowG w1.drew (W.heap.size + 1) noG) := HR.out
    have HB2 : Hid (Below W.heap.size W w1.drew) := HB.out.drew
    clear HR HB a0 a1 a2
    generalize w1.drew = w2 at *
    have k0 := (cell_of_block HE2.out 0).trans (show noG[0]? = some (.bool false) from rfl)
    have k1 := (cell_of_block HE2.out 1).trans (show noG[1]? = some (.bool false) from rfl)
    have k2 := (cell_of_block HE2.out 2).trans (show noG[2]? = some (.bool false) from rfl)
    have f0 := unfrozen_of_block HE2.out 0
    have f1 := unfrozen_of_block HE2.out 1
    have f2 := unfrozen_of_block HE2.out 2
    go_wp2
    refine bodyPost_ret (results_cell_row rfl _ _ (W.heap.size + 1) _ _ _ _ rfl (block_setCell (block_setCell (block_setCell HE2.out (i := 0) _) (i := 1) _) (i := 2) _) Tryd.underlying29 rfl rfl) rfl ⟨rfl, ?_⟩
    exact ((HB2.out.setCell (by simp) _).setCell (by simp) _).setCell (by simp) _
end Go.Proofs.YtmglikmphddicaaDoor
