/- Contracts of package right: what each call returns; those that take a struct make memory of their own. -/
import Derived.Test.YtlpjbmlkpmhdlaaDoorGm
import Derived.Test.YtlpjbmlkpmhdlaaDoorFr
import Derived.Test.YtlpjbmlkpmhdlaaDoorN
import Derived.Test.YtlpjbmlkpmhdlaaDoorEa
import Derived.BigQuiet
import Derived.Deep.DrawnRows
import Derived.OwnWalk
import Derived.Laws.Rows
namespace Go.Proofs.YtlpjbmlkpmhdlaaDoor
set_option linter.unusedVariables false
set_option linter.unusedSimpArgs false
open Go.ChangeShapes Go.WideShapes Go.ChangeAt Go.RowKit Go.Joins

/-- a right, an access, a control, by value -/
abbrev rgtV (w u x : Bool) : Value := .agg #[.bool w, .bool u, .bool x]
abbrev accV (k : Int) (u c : Bool) : Value := .agg #[.int .i64 k, .bool u, .bool c]
abbrev ctlV (p n e a : Bool) : Value := .agg #[.bool p, .bool n, .bool e, .bool a]

theorem below3 (w : World) (a b c : Obj) : Below w.heap.size w (((w.alloc a).alloc b).alloc c) :=
  ((below_alloc1 _ _).alloc (by simp) _).alloc (by simp; omega) _
theorem below2 (w : World) (a b : Obj) : Below w.heap.size w ((w.alloc a).alloc b) :=
  (below_alloc1 _ _).alloc (by simp) _

set_option maxRecDepth 100000 in
theorem all_any (w : World) :
    Calls Tryd.prog 27 #[] w fun e w' => e = .returned (rgtV true true true) ∧ Below w.heap.size w w' := by
  go_enter Tryd.func27, Tryd.ntmps27
  go_wp2
  refine bodyPost_ret (results_cell_row rfl _ _ w.heap.size _ _ _ _ rfl (last_obj _ _) Tryd.underlying25 rfl rfl) rfl ⟨rfl, below_alloc1 _ _⟩

end Go.Proofs.YtlpjbmlkpmhdlaaDoor
