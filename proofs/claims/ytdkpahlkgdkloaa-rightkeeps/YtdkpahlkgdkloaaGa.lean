/- Contracts of package right: what each call returns; those that take a struct make memory of their own. -/
import Derived.Test.YtdkpahlkgdkloaaGm
import Derived.Test.YtdkpahlkgdkloaaFr
import Derived.Test.YtdkpahlkgdkloaaN
import Derived.Test.YtdkpahlkgdkloaaEa
import Derived.BigQuiet
import Derived.Deep.DrawnRows
import Derived.OwnWalk
import Derived.Laws.Rows
namespace Go.Proofs.Ytdkpahlkgdkloaa
set_option linter.unusedVariables false
set_option linter.unusedSimpArgs false
open Go.ChangeShapes Go.WideShapes Go.ChangeAt Go.RowKit Go.Joins

/-- a right, an access, a control, by value -/
abbrev rgtV (w u x : Bool) : Value := .agg #[.bool w, .bool u, .bool x]
abbrev accV (k : Int) (u c : Bool) : Value := .agg #[.int .i64 k, .bool u, .bool c]
abbrev ctlV (p n e a : Bool) : Value := .agg #[.bool p, .bool n, .bool e, .bool a]

theorem below3 (w : World) (a b c : Obj) : Below w.heap.size w (((w.alloc a).alloc b).alloc c) :=
  ((below_alloc1 _ _).alloc (by simp) _).alloc (by simp; omega) _
theorem below2 (w : World) (a b : Obj) : Below w.heap.size w ((w.alloc a).alloc b) :=
  (below_alloc1 _ _).alloc (by simp) _

theorem part_any (b : Bool) (n : Int) (w : World) :
    Calls Try.prog 24 #[.bool b, .int .i64 n] w fun e w' => e = .returned (.int .i64 (oneF b n)) ∧ w = w' := by
  cases b
  · go_enter Try.func24, Try.ntmps24
    go_wp2
    go_ret
    exact ⟨rfl, rfl⟩
  · go_enter Try.func24, Try.ntmps24
    go_wp2
    go_ret
    exact ⟨rfl, rfl⟩

theorem all_any (w : World) :
    Calls Try.prog 17 #[] w fun e w' => e = .returned (rgtV true true true) ∧ Below w.heap.size w w' := by
  go_enter Try.func17, Try.ntmps17
  go_wp2
  refine bodyPost_ret (results_cell_row rfl _ _ w.heap.size _ _ _ _ rfl (last_obj _ _) Try.underlying23 rfl rfl) rfl ⟨rfl, below_alloc1 _ _⟩

theorem mayW_any (W U X : Bool) (k : Int) (user ac wp nxe smep smap : Bool) (w : World) :
    Calls Try.prog 20 #[rgtV W U X, accV k user ac, ctlV wp nxe smep smap] w fun e w' => e = .returned (.bool (mayWF W user wp)) ∧ Below w.heap.size w w' := by
  cases W <;> cases user <;> cases wp
  all_goals
    go_enter Try.func20, Try.ntmps20
    go_wp2
    go_ret
    exact ⟨rfl, below3 _ _ _ _⟩

theorem mayR_any (W U X : Bool) (k : Int) (user ac wp nxe smep smap : Bool) (w : World) :
    Calls Try.prog 21 #[rgtV W U X, accV k user ac, ctlV wp nxe smep smap] w fun e w' => e = .returned (.bool (mayRF U user ac smap)) ∧ Below w.heap.size w w' := by
  cases user <;> cases U <;> cases smap
  all_goals
    go_enter Try.func21, Try.ntmps21
    go_wp2
    go_ret
    exact ⟨rfl, below3 _ _ _ _⟩

theorem mayE_any (W U X : Bool) (k : Int) (user ac wp nxe smep smap : Bool) (w : World) :
    Calls Try.prog 22 #[rgtV W U X, accV k user ac, ctlV wp nxe smep smap] w fun e w' => e = .returned (.bool (mayEF U user smep)) ∧ Below w.heap.size w w' := by
  cases user <;> cases U
  all_goals
    go_enter Try.func22, Try.ntmps22
    go_wp2
    go_ret
    exact ⟨rfl, below3 _ _ _ _⟩

set_option maxHeartbeats 1600000 in
theorem least_any (w u x w' u' x' : Bool) (W : World) :
    Calls Try.prog 15 #[rgtV w u x, rgtV w' u' x'] W fun e W' => e = .returned (.bool (leastF w u x w' u' x')) ∧ Below W.heap.size W W' := by
  cases w <;> cases w' <;> cases u <;> cases u' <;> cases x'
  all_goals
    go_enter Try.func15, Try.ntmps15
    go_wp2
    go_ret
    exact ⟨rfl, below2 _ _ _⟩
end Go.Proofs.Ytdkpahlkgdkloaa
