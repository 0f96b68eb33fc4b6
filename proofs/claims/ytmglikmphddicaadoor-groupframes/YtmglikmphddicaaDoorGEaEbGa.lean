/- Several texts of ours in one: Ea, Eb, Ga. -/
import Derived.Test.YtmglikmphddicaaDoorGEmGmA
import Derived.Test.YtmglikmphddicaaDoorGNaVaFr
import Derived.BigQuiet
import Derived.Deep.DrawnRows
import Derived.OwnWalk
import Derived.Laws.Rows
import Derived.Test.YtmglikmphddicaaDoorGCaRN
/- Contracts of package entry: what each call returns; Parse and Word make memory of their own, the others leave the world as it was. -/
namespace Go.Proofs.YtmglikmphddicaaDoor
set_option linter.unusedVariables false
set_option linter.unusedSimpArgs false
open Go.ChangeShapes Go.WideShapes Go.ChangeAt Go.RowKit Go.Joins

theorem below_drewN {n : Nat} {w w' : World} (h : Below n w w') (k : Nat) : Below n w (w'.drewN k) := h.trans ⟨rfl, rfl, rfl, Nat.le_refl _, fun _ _ => rfl⟩

theorem last_obj (w : World) (o : Obj) : (w.alloc o).heap[w.heap.size]? = some o := by
  show (w.heap.push o)[w.heap.size]? = some o
  simp

theorem has_any (x m : Int) (w : World) :
    Calls Tryd.prog 43 #[.int .u64 x, .int .u64 m] w fun e w' => e = .returned (.bool (hasF x m)) ∧ w = w' := by
  go_enter Tryd.func43, Tryd.ntmps43
  go_wp2
  go_ret
  exact ⟨rfl, rfl⟩

theorem i64_40 : I64 40 := ⟨by decide, by decide⟩
theorem i64_8 : I64 8 := ⟨by decide, by decide⟩
theorem i64_17 : I64 17 := ⟨by decide, by decide⟩

theorem table_any (x : Int) (w : World) (hx : W64 x) :
    Calls Tryd.prog 28 #[.int .u64 x] w fun e w' => e = .returned (.int .u64 (tableF x)) ∧ w = w' := by
  have e := Lib.hid (table_and hx)
  go_enter Tryd.func28, Tryd.ntmps28
  go_wp2_with (go_at_call 40; refine (mask_any _ _ _ i64_40).mono ?_; rintro e w' ⟨rfl, rfl⟩)
  go_ret
  exact ⟨ret_int e.out, rfl⟩

theorem beyond_any (b : Int) (w : World) (hb : I64 b) :
    Calls Tryd.prog 44 #[.int .i64 b] w fun e w' => e = .returned (.int .u64 (beyondF b)) ∧ w = w' := by
  obtain ⟨h1, h2⟩ := hb
  by_cases c : b < 12
  · have e : beyondF b = maskF 12 40 := by unfold beyondF lowB; rw [if_pos c]; rfl
    rw [e]
    go_enter Tryd.func44, Tryd.ntmps44
    go_wp2_with (go_at_call 40; refine (mask_any _ _ _ i64_40).mono ?_; rintro e w' ⟨rfl, rfl⟩)
    go_ret
    exact ⟨rfl, rfl⟩
  · have e : beyondF b = maskF b (52 - b) := by unfold beyondF lowB; rw [if_neg c]
    rw [e]
    have hn : I64 (52 - b) := by unfold I64; omega
    go_enter Tryd.func44, Tryd.ntmps44
    go_wp2_with (go_at_call 40; refine (mask_any _ _ _ hn).mono ?_; rintro e w' ⟨rfl, rfl⟩)
    go_ret
    exact ⟨rfl, rfl⟩

theorem leaf_any (x l : Int) (w : World) :
    Calls Tryd.prog 45 #[.int .u64 x, .int .i64 l] w fun e w' => e = .returned (.bool (leafF x l)) ∧ w = w' := by
  have b7 := Lib.hid (has_b7 x)
  by_cases h1 : l = 1
  · subst h1
    go_enter Tryd.func45, Tryd.ntmps45
    go_wp2
    go_ret
    exact ⟨rfl, rfl⟩
  · by_cases h2 : l = 2
    · subst h2
      rw [leaf_two]
      go_enter Tryd.func45, Tryd.ntmps45
      go_wp2_with (go_at_call 43; refine (has_any _ _ _).mono ?_; rintro e w' ⟨rfl, rfl⟩)
      go_ret
      exact ⟨ret_bool b7.out, rfl⟩
    · by_cases h3 : l = 3
      · subst h3
        rw [leaf_three]
        go_enter Tryd.func45, Tryd.ntmps45
        go_wp2_with (go_at_call 43; refine (has_any _ _ _).mono ?_; rintro e w' ⟨rfl, rfl⟩)
        go_ret
        exact ⟨ret_bool b7.out, rfl⟩
      · rw [leaf_else x h1 h2 h3]
        have c1 : (l == 1) = false := by simp [h1]
        have c2 : (l == 2) = false := by simp [h2]
        have c3 : (l == 3) = false := by simp [h3]
        go_enter Tryd.func45, Tryd.ntmps45
        go_wp2
        go_ret
        exact ⟨rfl, rfl⟩

theorem ret_val {v u : Value} (h : v = u) : Ending.returned v = .returned u := by rw [h]

end Go.Proofs.YtmglikmphddicaaDoor
/- Contracts of package entry: Reserved. -/
namespace Go.Proofs.YtmglikmphddicaaDoor
set_option linter.unusedVariables false
set_option linter.unusedSimpArgs false
open Go.ChangeShapes Go.WideShapes Go.ChangeAt Go.RowKit Go.Joins

theorem has7_any (x : Int) (w : World) : Calls Tryd.prog 43 #[.int .u64 x, .int .u64 128] w fun e w' => e = .returned (.bool (bitF x 7)) ∧ w = w' := by
  have := has_any x 128 w; rwa [has_b7] at this
theorem has63_any (x : Int) (w : World) : Calls Tryd.prog 43 #[.int .u64 x, .int .u64 9223372036854775808] w fun e w' => e = .returned (.bool (bitF x 63)) ∧ w = w' := by
  have := has_any x 9223372036854775808 w; rwa [has_b63] at this
theorem leaf2_any (x : Int) (w : World) : Calls Tryd.prog 45 #[.int .u64 x, .int .i64 2] w fun e w' => e = .returned (.bool (bitF x 7)) ∧ w = w' := by
  have := leaf_any x 2 w; rwa [leaf_two] at this
theorem leaf3_any (x : Int) (w : World) : Calls Tryd.prog 45 #[.int .u64 x, .int .i64 3] w fun e w' => e = .returned (.bool (bitF x 7)) ∧ w = w' := by
  have := leaf_any x 3 w; rwa [leaf_three] at this

set_option maxHeartbeats 1600000 in
theorem res_any (x l b : Int) (nxe : Bool) (w : World) (hb : I64 b) :
    Calls Tryd.prog 39 #[.int .u64 x, .int .i64 l, .int .i64 b, .bool nxe] w fun e w' => e = .returned (.bool (resF x l b nxe)) ∧ w = w' := by
  obtain ⟨r, hr0⟩ : ∃ r, resF x l b nxe = r := ⟨_, rfl⟩
  rw [hr0]
  have hr := Lib.hid hr0
  clear hr0
  obtain rfl | rfl | rfl | ⟨l4, l2, l3⟩ : l = 4 ∨ l = 2 ∨ l = 3 ∨ (l ≠ 4 ∧ l ≠ 2 ∧ l ≠ 3) := by omega
  · cases h1 : hasF x (beyondF b) <;> cases h2 : bitF x 63 <;> cases nxe <;> cases h7 : bitF x 7
    all_goals
      go_enter Tryd.func39, Tryd.ntmps39
      go_wp2_with (first | (go_at_call 44; refine (beyond_any _ _ hb).mono ?_; rintro e w' ⟨rfl, rfl⟩) | (go_at_call 43; first | ((with_reducible refine (has63_any _ _).mono ?_); rintro e w' ⟨rfl, rfl⟩) | ((with_reducible refine (has7_any _ _).mono ?_); rintro e w' ⟨rfl, rfl⟩) | (refine (has_any _ _ _).mono ?_; rintro e w' ⟨rfl, rfl⟩)))
      go_ret
      exact ⟨ret_bool (by rw [← hr.out]; simp [resF, h1, h2, h7]), rfl⟩
  · cases h1 : hasF x (beyondF b) <;> cases h2 : bitF x 63 <;> cases nxe <;> cases h7 : bitF x 7 <;> cases h8 : hasF x (maskF 13 8)
    all_goals
      go_enter Tryd.func39, Tryd.ntmps39
      go_wp2_with (first | (go_at_call 44; refine (beyond_any _ _ hb).mono ?_; rintro e w' ⟨rfl, rfl⟩) | (go_at_call 40; refine (mask_any _ _ _ i64_8).mono ?_; rintro e w' ⟨rfl, rfl⟩) | (go_at_call 45; refine (leaf2_any _ _).mono ?_; rintro e w' ⟨rfl, rfl⟩) | (go_at_call 43; first | ((with_reducible refine (has63_any _ _).mono ?_); rintro e w' ⟨rfl, rfl⟩) | ((with_reducible refine (has7_any _ _).mono ?_); rintro e w' ⟨rfl, rfl⟩) | (refine (has_any _ _ _).mono ?_; rintro e w' ⟨rfl, rfl⟩)))
      go_ret
      exact ⟨ret_bool (by rw [← hr.out]; simp [resF, h1, h2, h7, h8]), rfl⟩
  · cases h1 : hasF x (beyondF b) <;> cases h2 : bitF x 63 <;> cases nxe <;> cases h7 : bitF x 7 <;> cases h8 : hasF x (maskF 13 17)
    all_goals
      go_enter Tryd.func39, Tryd.ntmps39
      go_wp2_with (first | (go_at_call 44; refine (beyond_any _ _ hb).mono ?_; rintro e w' ⟨rfl, rfl⟩) | (go_at_call 40; refine (mask_any _ _ _ i64_17).mono ?_; rintro e w' ⟨rfl, rfl⟩) | (go_at_call 45; refine (leaf3_any _ _).mono ?_; rintro e w' ⟨rfl, rfl⟩) | (go_at_call 43; first | ((with_reducible refine (has63_any _ _).mono ?_); rintro e w' ⟨rfl, rfl⟩) | ((with_reducible refine (has7_any _ _).mono ?_); rintro e w' ⟨rfl, rfl⟩) | (refine (has_any _ _ _).mono ?_; rintro e w' ⟨rfl, rfl⟩)))
      go_ret
      exact ⟨ret_bool (by rw [← hr.out]; simp [resF, h1, h2, h7, h8]), rfl⟩
  · have c4 : (l == 4) = false := by simp [l4]
    have c2 : (l == 2) = false := by simp [l2]
    have c3 : (l == 3) = false := by simp [l3]
    clear l4 l2 l3
    cases h1 : hasF x (beyondF b) <;> cases h2 : bitF x 63 <;> cases nxe
    all_goals
      go_enter Tryd.func39, Tryd.ntmps39
      go_wp2_with (first | (go_at_call 44; refine (beyond_any _ _ hb).mono ?_; rintro e w' ⟨rfl, rfl⟩) | (go_at_call 43; first | ((with_reducible refine (has63_any _ _).mono ?_); rintro e w' ⟨rfl, rfl⟩) | ((with_reducible refine (has7_any _ _).mono ?_); rintro e w' ⟨rfl, rfl⟩) | (refine (has_any _ _ _).mono ?_; rintro e w' ⟨rfl, rfl⟩)))
      go_ret
      exact ⟨ret_bool (by rw [← hr.out]; simp [resF, h1, h2, c4, c2, c3]), rfl⟩
end Go.Proofs.YtmglikmphddicaaDoor
/- Contracts of package right: what each call returns; those that take a struct make memory of their own. -/
namespace Go.Proofs.YtmglikmphddicaaDoor
set_option linter.unusedVariables false
set_option linter.unusedSimpArgs false
open Go.ChangeShapes Go.WideShapes Go.ChangeAt Go.RowKit Go.Joins

/-- a right, an access, a control, by value -/
abbrev rgtV (w u x : Bool) : Value := .agg #[.bool w, .bool u, .bool x]
theorem below2 (w : World) (a b : Obj) : Below w.heap.size w ((w.alloc a).alloc b) :=
  (below_alloc1 _ _).alloc (by simp) _

set_option maxRecDepth 100000 in
theorem all_any (w : World) :
    Calls Tryd.prog 24 #[] w fun e w' => e = .returned (rgtV true true true) ∧ Below w.heap.size w w' := by
  go_enter Tryd.func24, Tryd.ntmps24
  go_wp2
  refine bodyPost_ret (results_cell_row rfl _ _ w.heap.size _ _ _ _ rfl (last_obj _ _) Tryd.underlying25 rfl rfl) rfl ⟨rfl, below_alloc1 _ _⟩

end Go.Proofs.YtmglikmphddicaaDoor
