/- Several texts of ours in one: Vj, Td, Em. -/
import Derived.Test.YtddbjbdhbeijjaaDoorGVaVrFr
import Derived.Test.YtddbjbdhbeijjaaDoorRows
import Derived.ProofKit
import Derived.LaidMore
import Derived.Lib.LaidTab
import Derived.OpenShut
import Derived.Stop.Joined
import Derived.Test.YtddbjbdhbeijjaaDoorGVmRN
/- Join, of package va and of the document: four places' address. -/
namespace Go.Proofs.YtddbjbdhbeijjaaDoor
set_option linter.unusedVariables false
set_option linter.unusedSimpArgs false
open Go.ChangeShapes Go.WideShapes Go.ChangeAt Go.RowKit Go.Joins

end Go.Proofs.YtddbjbdhbeijjaaDoor
/- Layer 3's table of shifts: from the row's condition to the four cells that the walks ask; the world that the program's own initialiser leaves meets it. -/
namespace Go.Proofs.YtddbjbdhbeijjaaDoor
set_option linter.unusedVariables false
set_option linter.unusedSimpArgs false
open Go.ChangeShapes Go.WideShapes Go.ChangeAt Go.RowKit

theorem gShifts : Tryd.prog.globalNamed "dormer/va.shifts" = some 1 := by kernel_rfl
theorem tShifts : (Tryd.prog.globals[1]?).map (·.type) = some 112 := by kernel_rfl

end Go.Proofs.YtddbjbdhbeijjaaDoor
/- Plain mathematics of entries: a word's table, its bits, what may not be, slots and frames. Nothing of the program. -/
namespace Go.Proofs.YtddbjbdhbeijjaaDoor
set_option linter.unusedVariables false
set_option linter.unusedSimpArgs false

/- ### what may not be -/
/- ### slots and frames -/
end Go.Proofs.YtddbjbdhbeijjaaDoor
