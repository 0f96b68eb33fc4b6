/- Several texts of ours in one: Nf, Nd, Ne. -/
import Derived.Test.YtddbjbdhbeijjaaDoorGEtNcQa
/- Layer 12: Slots, the program's and the document's. -/
namespace Go.Proofs.YtddbjbdhbeijjaaDoor
set_option linter.unusedVariables false
set_option linter.unusedSimpArgs false
open Go.ChangeShapes Go.WideShapes Go.ChangeAt Go.RowKit Go.Joins

end Go.Proofs.YtddbjbdhbeijjaaDoor
/- Package group: together. -/
namespace Go.Proofs.YtddbjbdhbeijjaaDoor
set_option linter.unusedVariables false
set_option linter.unusedSimpArgs false
open Go.ChangeShapes Go.WideShapes Go.ChangeAt Go.RowKit Go.Joins

end Go.Proofs.YtddbjbdhbeijjaaDoor
/- Package group: Run. (Laid by tools/gen_ne.py.) -/
namespace Go.Proofs.YtddbjbdhbeijjaaDoor
set_option linter.unusedVariables false
set_option linter.unusedSimpArgs false
open Go.ChangeShapes Go.WideShapes Go.ChangeAt Go.RowKit Go.Joins

end Go.Proofs.YtddbjbdhbeijjaaDoor
