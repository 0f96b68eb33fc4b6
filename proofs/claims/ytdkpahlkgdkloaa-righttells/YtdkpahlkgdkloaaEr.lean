/- Contracts of dormerref05: what each call of the document's own answer returns. -/
import Derived.Test.YtdkpahlkgdkloaaEa
import Derived.Test.YtdkpahlkgdkloaaVr
namespace Go.Proofs.Ytdkpahlkgdkloaa
set_option linter.unusedVariables false
set_option linter.unusedSimpArgs false
open Go.ChangeShapes Go.WideShapes Go.ChangeAt Go.RowKit Go.Joins

end Go.Proofs.Ytdkpahlkgdkloaa
