/- Several texts of ours in one: Bv, A, By. -/
import Derived.Laws.Bits64
import Derived.Test.YtefllfoilkbboaaRows
import Derived.WalkKit
import Derived.ProofKit
import Derived.OpenShut
/- Plain mathematics: words of 64 bits as numbers, told by their bits; fields of them. Nothing of the program. -/
namespace Go.Proofs.Ytefllfoilkbboaa
set_option linter.unusedVariables false
set_option linter.unusedSimpArgs false

/-- a number that fits a word of 64 bits -/
def W64 (a : Int) : Prop := 0 ≤ a ∧ a < 18446744073709551616

/- ### fields -/
end Go.Proofs.Ytefllfoilkbboaa
/- Contracts of package field: what each call returns, in an unchanged world. -/
namespace Go.Proofs.Ytefllfoilkbboaa
set_option linter.unusedVariables false
set_option linter.unusedSimpArgs false
open Go.ChangeShapes Go.WideShapes Go.ChangeAt Go.RowKit

/-- a number that fits an int -/
def I64 (n : Int) : Prop := -9223372036854775808 ≤ n ∧ n ≤ 9223372036854775807

end Go.Proofs.Ytefllfoilkbboaa
/- Plain mathematics: words of 64 bits told by their bytes. Nothing of the program. -/
namespace Go.Proofs.Ytefllfoilkbboaa
set_option linter.unusedVariables false
set_option linter.unusedSimpArgs false

/- ### a list of bytes as a word -/
end Go.Proofs.Ytefllfoilkbboaa
