/- Several texts of ours in one: Gm, By, Wd. -/
import Derived.Test.YtddbjbdhbeijjaaDoorGVjTdEm
import Derived.Test.YtddbjbdhbeijjaaDoorGBvAM
import Derived.Lib.Hide
/- Plain mathematics of rights: what is left behind a word, who may, and a fault's code. Nothing of the program. -/
namespace Go.Proofs.YtddbjbdhbeijjaaDoor
set_option linter.unusedVariables false
set_option linter.unusedSimpArgs false

end Go.Proofs.YtddbjbdhbeijjaaDoor
/- Plain mathematics: words of 64 bits told by their bytes. Nothing of the program. -/
namespace Go.Proofs.YtddbjbdhbeijjaaDoor
set_option linter.unusedVariables false
set_option linter.unusedSimpArgs false

/- ### a list of bytes as a word -/
end Go.Proofs.YtddbjbdhbeijjaaDoor
/- Contracts of package word: the calls that make no memory. -/
namespace Go.Proofs.YtddbjbdhbeijjaaDoor
set_option linter.unusedVariables false
set_option linter.unusedSimpArgs false
open Go.ChangeShapes Go.WideShapes Go.ChangeAt Go.RowKit

end Go.Proofs.YtddbjbdhbeijjaaDoor
