/- Several texts of ours in one: Es, Et, Gs. -/
import Derived.Test.YtopmmlcjlopmaaaGreatDoorGRjIaEr
import Derived.Test.YtopmmlcjlopmaaaGreatDoorGVmRN
import Derived.LoopTactic
import Derived.Lib.SmallJoins
import Derived.StillTailTactics
import Derived.Test.YtopmmlcjlopmaaaGreatDoorGGbRgHb
/- dormerref05.Reserved: what may not be, by the document's own answer. -/
namespace Go.Proofs.YtopmmlcjlopmaaaGreatDoor
set_option linter.unusedVariables false
set_option linter.unusedSimpArgs false
open Go.ChangeShapes Go.WideShapes Go.ChangeAt Go.RowKit Go.Joins

/- walks -/
end Go.Proofs.YtopmmlcjlopmaaaGreatDoor
/- dormerref05.Parse: what the document's own answer says of a word. -/
namespace Go.Proofs.YtopmmlcjlopmaaaGreatDoor
set_option linter.unusedVariables false
set_option linter.unusedSimpArgs false
open Go.ChangeShapes Go.WideShapes Go.ChangeAt Go.RowKit Go.Joins

theorem size_alloc (v : World) (o : Obj) : (v.alloc o).heap.size = v.heap.size + 1 := by simp

end Go.Proofs.YtopmmlcjlopmaaaGreatDoor
/- Contracts of dormerref06: And. -/
namespace Go.Proofs.YtopmmlcjlopmaaaGreatDoor
set_option linter.unusedVariables false
set_option linter.unusedSimpArgs false
open Go.ChangeShapes Go.WideShapes Go.ChangeAt Go.RowKit Go.Joins

end Go.Proofs.YtopmmlcjlopmaaaGreatDoor
