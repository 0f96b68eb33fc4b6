/- Several texts of ours in one: Dk, L4w, L4b. -/
import Derived.Test.YtopmmlcjlopmaaaGreatDoorGDhDiDc
import Derived.Test.YtopmmlcjlopmaaaGreatDoorGDpWaWr
import Derived.Test.YtopmmlcjlopmaaaGreatDoorGVaVrFr
import Derived.Deep.RegionWith
/- (*Mem).Copy: its walk. -/
namespace Go.Proofs.YtopmmlcjlopmaaaGreatDoor
set_option linter.unusedVariables false
set_option linter.unusedSimpArgs false
open Go.ChangeShapes Go.WideShapes Go.ChangeAt Go.RowKit Go.Joins

section
variable {w w' : World} {m : Nat} {M : Int} {f : Int → Int} {tr : List Int} {n mb : Nat} {v : Value} {D : Dw}

end

end Go.Proofs.YtopmmlcjlopmaaaGreatDoor
/- The walks of MemWords and MemBytes. -/
namespace Go.Proofs.YtopmmlcjlopmaaaGreatDoor
set_option linter.unusedVariables false
set_option linter.unusedSimpArgs false
open Go.ChangeShapes Go.WideShapes Go.ChangeAt Go.RowKit Go.Joins

end Go.Proofs.YtopmmlcjlopmaaaGreatDoor
/- The walk of MemBytes. -/
namespace Go.Proofs.YtopmmlcjlopmaaaGreatDoor
set_option linter.unusedVariables false
set_option linter.unusedSimpArgs false
open Go.ChangeShapes Go.WideShapes Go.ChangeAt Go.RowKit Go.Joins

end Go.Proofs.YtopmmlcjlopmaaaGreatDoor
