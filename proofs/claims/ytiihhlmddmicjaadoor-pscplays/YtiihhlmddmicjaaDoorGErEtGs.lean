/- Several texts of ours in one: Er, Et, Gs. -/
import Derived.Test.YtiihhlmddmicjaaDoorGEaHaGm
import Derived.Test.YtiihhlmddmicjaaDoorGVaVrFr
import Derived.LoopTactic
import Derived.Lib.SmallJoins
import Derived.StillTailTactics
import Derived.Test.YtiihhlmddmicjaaDoorGGaKpGb
/- Contracts of dormerref05: what each call of the document's own answer returns. -/
namespace Go.Proofs.YtiihhlmddmicjaaDoor
set_option linter.unusedVariables false
set_option linter.unusedSimpArgs false
open Go.ChangeShapes Go.WideShapes Go.ChangeAt Go.RowKit Go.Joins

theorem rtable_any (x : Int) (w : World) (hx : W64 x) :
    Calls Tryd.prog 68 #[.int .u64 x] w fun e w' => e = .returned (.int .u64 (tableF x)) ∧ w = w' := by
  have e := Lib.hid (table_get hx)
  go_enter Tryd.func68, Tryd.ntmps68
  go_wp2_with (go_at_call 75; refine (rget_any _ _ _ _ hx).mono ?_; rintro e w' ⟨rfl, rfl⟩)
  go_ret
  exact ⟨ret_int e.out, rfl⟩

theorem rleaf_any (x l : Int) (w : World) (hx : W64 x) :
    Calls Tryd.prog 65 #[.int .u64 x, .int .i64 l] w fun e w' => e = .returned (.bool (leafF x l)) ∧ w = w' := by
  by_cases h1 : l = 1
  · subst h1
    go_enter Tryd.func65, Tryd.ntmps65
    go_wp2
    go_ret
    exact ⟨rfl, rfl⟩
  · by_cases h2 : l = 2
    · subst h2
      rw [leaf_two]
      go_enter Tryd.func65, Tryd.ntmps65
      go_wp2_with (go_at_call 64; refine (rbit_any _ _ _ hx).mono ?_; rintro e w' ⟨rfl, rfl⟩)
      go_ret
      exact ⟨rfl, rfl⟩
    · by_cases h3 : l = 3
      · subst h3
        rw [leaf_three]
        go_enter Tryd.func65, Tryd.ntmps65
        go_wp2_with (go_at_call 64; refine (rbit_any _ _ _ hx).mono ?_; rintro e w' ⟨rfl, rfl⟩)
        go_ret
        exact ⟨rfl, rfl⟩
      · rw [leaf_else x h1 h2 h3]
        have c1 : (l == 1) = false := by simp [h1]
        have c2 : (l == 2) = false := by simp [h2]
        have c3 : (l == 3) = false := by simp [h3]
        clear h1 h2 h3
        go_enter Tryd.func65, Tryd.ntmps65
        go_wp2_with (go_at_call 64; refine (rbit_any _ _ _ hx).mono ?_; rintro e w' ⟨rfl, rfl⟩)
        go_ret
        exact ⟨rfl, rfl⟩

end Go.Proofs.YtiihhlmddmicjaaDoor
/- dormerref05.Parse: what the document's own answer says of a word. -/
namespace Go.Proofs.YtiihhlmddmicjaaDoor
set_option linter.unusedVariables false
set_option linter.unusedSimpArgs false
open Go.ChangeShapes Go.WideShapes Go.ChangeAt Go.RowKit Go.Joins

theorem stillOf {P : Program} {f : FuncId} {args : Array Value} {w : World} {v : Value} (h : Calls P f args w fun e w' => e = .returned v ∧ w = w') : Calls P f args w fun e w' => e = .returned v ∧ w' = w :=
  h.mono fun _ _ ⟨he, hw⟩ => ⟨he, hw.symm⟩

end Go.Proofs.YtiihhlmddmicjaaDoor
/- Contracts of dormerref06: And. -/
namespace Go.Proofs.YtiihhlmddmicjaaDoor
set_option linter.unusedVariables false
set_option linter.unusedSimpArgs false
open Go.ChangeShapes Go.WideShapes Go.ChangeAt Go.RowKit Go.Joins

/-- block g holds a right of the document's -/
def RowG (w : World) (g : Nat) (cs : Array Value) : Prop := w.heap[g]? = some (.cells cs 47 (0, 0))
abbrev noG : Array Value := #[.bool false, .bool false, .bool false]

/-- a right's box, and room for another one -/
theorem rand_start (W : World) (w u x : Bool) :
    RgtAt ((W.alloc (.cells #[.bool w, .bool u, .bool x] 47)).alloc (.cells noG 47)) W.heap.size w u x ∧
    RowG ((W.alloc (.cells #[.bool w, .bool u, .bool x] 47)).alloc (.cells noG 47)) (W.heap.size + 1) noG ∧
    Below W.heap.size W ((W.alloc (.cells #[.bool w, .bool u, .bool x] 47)).alloc (.cells noG 47)) :=
  ⟨rgt_keep (rgt_new W w u x _) (by simp) (kept_alloc _ _), last_obj2 _ _ _, below2 _ _ _⟩

set_option maxRecDepth 100000 in
set_option maxHeartbeats 1600000 in
theorem rand_any (w u x : Bool) (y : Int) (W : World) (hy : W64 y) :
    Calls Tryd.prog 66 #[rgtV w u x, .int .u64 y] W fun e W' => e = .returned (andV w u x y) ∧ Below W.heap.size W W' := by
  cases w <;> cases u <;> cases x
  all_goals
    go_enter Tryd.func66, Tryd.ntmps66
    go_wp2
    obtain ⟨⟨a0, a1, a2⟩, hR, hB⟩ := rand_start W _ _ _
    have HR := Lib.hid hR
    have HB := Lib.hid hB
    clear hR hB
    generalize (W.alloc _).alloc _ = w1 at *
    refine wp_region_still_tail 20 (by kernel_rfl) (by kernel_rfl) ?_
    simp only [List.take_succ_cons, List.take_zero, List.drop_succ_cons, List.drop_zero]
    repeat (first | still_step | still_call (stillOf (rbit_any _ _ _ hy)))
    refine wpStill_nil ?_
    change wpList _ _ _ _ _ w1.drew
    have HE2 : Hid (RowG w1.drew (W.heap.size + 1) noG) := HR.out
    have HB2 : Hid (Below W.heap.size W w1.drew) := HB.out.drew
    clear HR HB a0 a1 a2
    generalize w1.drew = w2 at *
    have k0 := (cell_of_block HE2.out 0).trans (show noG[0]? = some (.bool false) from rfl)
    have k1 := (cell_of_block HE2.out 1).trans (show noG[1]? = some (.bool false) from rfl)
    have k2 := (cell_of_block HE2.out 2).trans (show noG[2]? = some (.bool false) from rfl)
    have f0 := unfrozen_of_block HE2.out 0
    have f1 := unfrozen_of_block HE2.out 1
    have f2 := unfrozen_of_block HE2.out 2
    go_wp2
    refine bodyPost_ret (results_cell_row rfl _ _ (W.heap.size + 1) _ _ _ _ rfl (block_setCell (block_setCell (block_setCell HE2.out (i := 0) _) (i := 1) _) (i := 2) _) Tryd.underlying47 rfl rfl) rfl ⟨rfl, ?_⟩
    exact ((HB2.out.setCell (by simp) _).setCell (by simp) _).setCell (by simp) _
end Go.Proofs.YtiihhlmddmicjaaDoor
