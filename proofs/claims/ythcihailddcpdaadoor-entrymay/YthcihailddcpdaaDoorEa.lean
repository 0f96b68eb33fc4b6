/- Contracts of package entry: what each call returns; Parse and Word make memory of their own, the others leave the world as it was. -/
import Derived.Test.YthcihailddcpdaaDoorEm
import Derived.Test.YthcihailddcpdaaDoorVa
import Derived.Test.YthcihailddcpdaaDoorFr
import Derived.BigQuiet
import Derived.Deep.DrawnRows
import Derived.OwnWalk
import Derived.Laws.Rows
namespace Go.Proofs.YthcihailddcpdaaDoor
set_option linter.unusedVariables false
set_option linter.unusedSimpArgs false
open Go.ChangeShapes Go.WideShapes Go.ChangeAt Go.RowKit Go.Joins

/-- an entry, by value -/
abbrev entV (p w u a d s n : Bool) (f : Int) : Value := .agg #[.bool p, .bool w, .bool u, .bool a, .bool d, .bool s, .bool n, .int .u64 f]
/-- what a word says -/
abbrev saysV (x : Int) : Value := entV (bitF x 0) (bitF x 1) (bitF x 2) (bitF x 5) (bitF x 6) (bitF x 7) (bitF x 63) (tableF x)

theorem below_drewN {n : Nat} {w w' : World} (h : Below n w w') (k : Nat) : Below n w (w'.drewN k) := h.trans ⟨rfl, rfl, rfl, Nat.le_refl _, fun _ _ => rfl⟩

theorem last_obj (w : World) (o : Obj) : (w.alloc o).heap[w.heap.size]? = some o := by
  show (w.heap.push o)[w.heap.size]? = some o
  simp

theorem has_any (x m : Int) (w : World) :
    Calls Tryd.prog 26 #[.int .u64 x, .int .u64 m] w fun e w' => e = .returned (.bool (hasF x m)) ∧ w = w' := by
  go_enter Tryd.func26, Tryd.ntmps26
  go_wp2
  go_ret
  exact ⟨rfl, rfl⟩

theorem when_any (b : Bool) (m : Int) (w : World) :
    Calls Tryd.prog 28 #[.bool b, .int .u64 m] w fun e w' => e = .returned (.int .u64 (whenF b m)) ∧ w = w' := by
  cases b
  · go_enter Tryd.func28, Tryd.ntmps28
    go_wp2
    go_ret
    exact ⟨rfl, rfl⟩
  · go_enter Tryd.func28, Tryd.ntmps28
    go_wp2
    go_ret
    exact ⟨rfl, rfl⟩

theorem i64_40 : I64 40 := ⟨by decide, by decide⟩
theorem i64_8 : I64 8 := ⟨by decide, by decide⟩
theorem i64_17 : I64 17 := ⟨by decide, by decide⟩

theorem table_any (x : Int) (w : World) (hx : W64 x) :
    Calls Tryd.prog 16 #[.int .u64 x] w fun e w' => e = .returned (.int .u64 (tableF x)) ∧ w = w' := by
  have e := Lib.hid (table_and hx)
  go_enter Tryd.func16, Tryd.ntmps16
  go_wp2_with (go_at_call 30; refine (mask_any _ _ _ i64_40).mono ?_; rintro e w' ⟨rfl, rfl⟩)
  go_ret
  exact ⟨ret_int e.out, rfl⟩

theorem beyond_any (b : Int) (w : World) (hb : I64 b) :
    Calls Tryd.prog 34 #[.int .i64 b] w fun e w' => e = .returned (.int .u64 (beyondF b)) ∧ w = w' := by
  obtain ⟨h1, h2⟩ := hb
  by_cases c : b < 12
  · have e : beyondF b = maskF 12 40 := by unfold beyondF lowB; rw [if_pos c]; rfl
    rw [e]
    go_enter Tryd.func34, Tryd.ntmps34
    go_wp2_with (go_at_call 30; refine (mask_any _ _ _ i64_40).mono ?_; rintro e w' ⟨rfl, rfl⟩)
    go_ret
    exact ⟨rfl, rfl⟩
  · have e : beyondF b = maskF b (52 - b) := by unfold beyondF lowB; rw [if_neg c]
    rw [e]
    have hn : I64 (52 - b) := by unfold I64; omega
    go_enter Tryd.func34, Tryd.ntmps34
    go_wp2_with (go_at_call 30; refine (mask_any _ _ _ hn).mono ?_; rintro e w' ⟨rfl, rfl⟩)
    go_ret
    exact ⟨rfl, rfl⟩

theorem leaf_any (x l : Int) (w : World) :
    Calls Tryd.prog 14 #[.int .u64 x, .int .i64 l] w fun e w' => e = .returned (.bool (leafF x l)) ∧ w = w' := by
  have b7 := Lib.hid (has_b7 x)
  by_cases h1 : l = 1
  · subst h1
    go_enter Tryd.func14, Tryd.ntmps14
    go_wp2
    go_ret
    exact ⟨rfl, rfl⟩
  · by_cases h2 : l = 2
    · subst h2
      rw [leaf_two]
      go_enter Tryd.func14, Tryd.ntmps14
      go_wp2_with (go_at_call 26; refine (has_any _ _ _).mono ?_; rintro e w' ⟨rfl, rfl⟩)
      go_ret
      exact ⟨ret_bool b7.out, rfl⟩
    · by_cases h3 : l = 3
      · subst h3
        rw [leaf_three]
        go_enter Tryd.func14, Tryd.ntmps14
        go_wp2_with (go_at_call 26; refine (has_any _ _ _).mono ?_; rintro e w' ⟨rfl, rfl⟩)
        go_ret
        exact ⟨ret_bool b7.out, rfl⟩
      · rw [leaf_else x h1 h2 h3]
        have c1 : (l == 1) = false := by simp [h1]
        have c2 : (l == 2) = false := by simp [h2]
        have c3 : (l == 3) = false := by simp [h3]
        go_enter Tryd.func14, Tryd.ntmps14
        go_wp2
        go_ret
        exact ⟨rfl, rfl⟩

theorem slot_any (t a l : Int) (w : World) (hs : Shifts w) (ht : W64 t) (ha : W64 a) :
    Calls Tryd.prog 22 #[.int .u64 t, .int .u64 a, .int .i64 l] w fun e w' => e = .returned (.int .u64 (slotF t a l)) ∧ w = w' := by
  have e := Lib.hid (slot_wrap t a l)
  go_enter Tryd.func22, Tryd.ntmps22
  go_wp2_with (first | (go_at_call 16; refine (table_any _ _ ht).mono ?_; rintro e w' ⟨rfl, rfl⟩) | (go_at_call 25; refine (index_any _ _ _ hs ha).mono ?_; rintro e w' ⟨rfl, rfl⟩))
  go_ret
  exact ⟨ret_int e.out, rfl⟩

theorem frame_any (x l : Int) (w : World) (hs : Shifts w) (hx : W64 x) :
    Calls Tryd.prog 18 #[.int .u64 x, .int .i64 l] w fun e w' => e = .returned (.int .u64 (frameF x l)) ∧ w = w' := by
  have hT := w64_table x
  cases h : leafF x l
  · rw [frame_else h]
    go_enter Tryd.func18, Tryd.ntmps18
    go_wp2_with (first | (go_at_call 16; refine (table_any _ _ hx).mono ?_; rintro e w' ⟨rfl, rfl⟩) | (go_at_call 14; refine (leaf_any _ _ _).mono ?_; rintro e w' ⟨rfl, rfl⟩) | (go_at_call 32; refine (page_any _ _ _ hs hT).mono ?_; rintro e w' ⟨rfl, rfl⟩))
    go_ret
    exact ⟨rfl, rfl⟩
  · rw [frame_leaf h]
    go_enter Tryd.func18, Tryd.ntmps18
    go_wp2_with (first | (go_at_call 16; refine (table_any _ _ hx).mono ?_; rintro e w' ⟨rfl, rfl⟩) | (go_at_call 14; refine (leaf_any _ _ _).mono ?_; rintro e w' ⟨rfl, rfl⟩) | (go_at_call 32; refine (page_any _ _ _ hs hT).mono ?_; rintro e w' ⟨rfl, rfl⟩))
    go_ret
    exact ⟨rfl, rfl⟩

theorem says_has (x : Int) : entV (hasF x 1) (hasF x 2) (hasF x 4) (hasF x 32) (hasF x 64) (hasF x 128) (hasF x 9223372036854775808) (tableF x) = saysV x := by
  rw [has_b0, has_b1, has_b2, has_b5, has_b6, has_b7, has_b63]
theorem ret_val {v u : Value} (h : v = u) : Ending.returned v = .returned u := by rw [h]

theorem parse_any (x : Int) (w : World) (hx : W64 x) :
    Calls Tryd.prog 10 #[.int .u64 x] w fun e w' => e = .returned (saysV x) ∧ Below w.heap.size w w' := by
  have e := Lib.hid (says_has x)
  go_enter Tryd.func10, Tryd.ntmps10
  go_wp2_with (first | (go_at_call 16; refine (table_any _ _ hx).mono ?_; rintro e w' ⟨rfl, rfl⟩) | (go_at_call 26; refine (has_any _ _ _).mono ?_; rintro e w' ⟨rfl, rfl⟩))
  refine bodyPost_ret (results_cell_row rfl _ _ w.heap.size _ _ _ _ rfl (last_obj _ _) Tryd.underlying24 rfl rfl) rfl ⟨ret_val e.out, below_alloc1 _ _⟩

theorem word_any (p w u a d s n : Bool) (f : Int) (W : World) (hf : W64 f) :
    Calls Tryd.prog 12 #[entV p w u a d s n f] W fun e W' => e = .returned (.int .u64 (wordF p w u a d s n f)) ∧ Below W.heap.size W W' := by
  have e := Lib.hid (word_or hf p w u a d s n)
  go_enter Tryd.func12, Tryd.ntmps12
  go_wp2
  go_quiet (first | (go_at_call 16; exact quietOf (table_any _ _ hf)) | (go_at_call 28; exact quietOf (when_any _ _ _)))
  go_wp2
  go_ret
  exact ⟨ret_int e.out, below_drewN (below_alloc1 _ _) _⟩
end Go.Proofs.YthcihailddcpdaaDoor
