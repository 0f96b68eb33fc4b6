/- Several texts of ours in one: Es, Ng, Gs. -/
import Derived.Test.YtddbjbdhbeijjaaDoorGCjJeEr
import Derived.Test.YtddbjbdhbeijjaaDoorGVmRN
import Derived.Test.YtddbjbdhbeijjaaDoorGNfNdNe
import Derived.Test.YtddbjbdhbeijjaaDoorGKpGbMc
import Derived.Test.YtddbjbdhbeijjaaDoorGEtNcQa
import Derived.StillTailTactics
/- dormerref05.Reserved: what may not be, by the document's own answer. -/
namespace Go.Proofs.YtddbjbdhbeijjaaDoor
set_option linter.unusedVariables false
set_option linter.unusedSimpArgs false
open Go.ChangeShapes Go.WideShapes Go.ChangeAt Go.RowKit Go.Joins

/- walks -/
end Go.Proofs.YtddbjbdhbeijjaaDoor
/- Layer 12: the document's may and Together. (Laid by tools/gen_ng.py.) -/
namespace Go.Proofs.YtddbjbdhbeijjaaDoor
set_option linter.unusedVariables false
set_option linter.unusedSimpArgs false
open Go.ChangeShapes Go.WideShapes Go.ChangeAt Go.RowKit Go.Joins

end Go.Proofs.YtddbjbdhbeijjaaDoor
/- Contracts of dormerref06: And. -/
namespace Go.Proofs.YtddbjbdhbeijjaaDoor
set_option linter.unusedVariables false
set_option linter.unusedSimpArgs false
open Go.ChangeShapes Go.WideShapes Go.ChangeAt Go.RowKit Go.Joins

end Go.Proofs.YtddbjbdhbeijjaaDoor
