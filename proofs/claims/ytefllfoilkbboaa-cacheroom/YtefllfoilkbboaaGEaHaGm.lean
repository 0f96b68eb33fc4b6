/- Several texts of ours in one: Ea, Ha, Gm. -/
import Derived.Test.YtefllfoilkbboaaGEmVaFr
import Derived.BigQuiet
import Derived.Deep.DrawnRows
import Derived.OwnWalk
import Derived.Laws.Rows
import Derived.Test.YtefllfoilkbboaaGMeMVm
/- Contracts of package entry: what each call returns; Parse and Word make memory of their own, the others leave the world as it was. -/
namespace Go.Proofs.Ytefllfoilkbboaa
set_option linter.unusedVariables false
set_option linter.unusedSimpArgs false
open Go.ChangeShapes Go.WideShapes Go.ChangeAt Go.RowKit Go.Joins

theorem below_drewN {n : Nat} {w w' : World} (h : Below n w w') (k : Nat) : Below n w (w'.drewN k) := h.trans ⟨rfl, rfl, rfl, Nat.le_refl _, fun _ _ => rfl⟩

theorem last_obj (w : World) (o : Obj) : (w.alloc o).heap[w.heap.size]? = some o := by
  show (w.heap.push o)[w.heap.size]? = some o
  simp

end Go.Proofs.Ytefllfoilkbboaa
/- Plain mathematics of walks: the document's walk as a function of the memory's words. Nothing of the program. -/
namespace Go.Proofs.Ytefllfoilkbboaa
set_option linter.unusedVariables false
set_option linter.unusedSimpArgs false

section
variable {M : Int} {f : Int → Int} {a : Int} {nxe : Bool} {lev t s x : Int} {W U X : Bool}

end

end Go.Proofs.Ytefllfoilkbboaa
/- Plain mathematics of rights: what is left behind a word, who may, and a fault's code. Nothing of the program. -/
namespace Go.Proofs.Ytefllfoilkbboaa
set_option linter.unusedVariables false
set_option linter.unusedSimpArgs false

end Go.Proofs.Ytefllfoilkbboaa
