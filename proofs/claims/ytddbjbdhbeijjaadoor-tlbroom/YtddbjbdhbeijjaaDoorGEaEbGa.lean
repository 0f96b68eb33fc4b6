/- Several texts of ours in one: Ea, Eb, Ga. -/
import Derived.Test.YtddbjbdhbeijjaaDoorGVjTdEm
import Derived.Test.YtddbjbdhbeijjaaDoorGVaVrFr
import Derived.BigQuiet
import Derived.Deep.DrawnRows
import Derived.OwnWalk
import Derived.Laws.Rows
import Derived.Test.YtddbjbdhbeijjaaDoorGGmByWd
import Derived.Test.YtddbjbdhbeijjaaDoorGVmRN
/- Contracts of package entry: what each call returns; Parse and Word make memory of their own, the others leave the world as it was. -/
namespace Go.Proofs.YtddbjbdhbeijjaaDoor
set_option linter.unusedVariables false
set_option linter.unusedSimpArgs false
open Go.ChangeShapes Go.WideShapes Go.ChangeAt Go.RowKit Go.Joins

theorem below_drewN {n : Nat} {w w' : World} (h : Below n w w') (k : Nat) : Below n w (w'.drewN k) := h.trans ⟨rfl, rfl, rfl, Nat.le_refl _, fun _ _ => rfl⟩

theorem last_obj (w : World) (o : Obj) : (w.alloc o).heap[w.heap.size]? = some o := by
  show (w.heap.push o)[w.heap.size]? = some o
  simp

theorem ret_val {v u : Value} (h : v = u) : Ending.returned v = .returned u := by rw [h]

end Go.Proofs.YtddbjbdhbeijjaaDoor
/- Contracts of package entry: Reserved. -/
namespace Go.Proofs.YtddbjbdhbeijjaaDoor
set_option linter.unusedVariables false
set_option linter.unusedSimpArgs false
open Go.ChangeShapes Go.WideShapes Go.ChangeAt Go.RowKit Go.Joins

end Go.Proofs.YtddbjbdhbeijjaaDoor
/- Contracts of package right: what each call returns; those that take a struct make memory of their own. -/
namespace Go.Proofs.YtddbjbdhbeijjaaDoor
set_option linter.unusedVariables false
set_option linter.unusedSimpArgs false
open Go.ChangeShapes Go.WideShapes Go.ChangeAt Go.RowKit Go.Joins

/-- a right, an access, a control, by value -/
abbrev rgtV (w u x : Bool) : Value := .agg #[.bool w, .bool u, .bool x]
set_option maxRecDepth 100000 in
theorem all_any (w : World) :
    Calls Tryd.prog 28 #[] w fun e w' => e = .returned (rgtV true true true) ∧ Below w.heap.size w w' := by
  go_enter Tryd.func28, Tryd.ntmps28
  go_wp2
  refine bodyPost_ret (results_cell_row rfl _ _ w.heap.size _ _ _ _ rfl (last_obj _ _) Tryd.underlying33 rfl rfl) rfl ⟨rfl, below_alloc1 _ _⟩

end Go.Proofs.YtddbjbdhbeijjaaDoor
