/- Several texts of ours in one: Me, M, Vm. -/
import Derived.Test.YtefllfoilkbboaaGMcWmMd
import Derived.Test.YtefllfoilkbboaaGBvABy
/- Contracts of package mem: of a memory that is nil; of one whose blocks lie from B on; awake. -/
namespace Go.Proofs.Ytefllfoilkbboaa
set_option linter.unusedVariables false
set_option linter.unusedSimpArgs false
open Go.ChangeShapes Go.WideShapes Go.ChangeAt Go.RowKit Go.Joins

section
variable {w : World} {B m : Nat} {M : Int} {f : Int → Int} {tr : List Int} {n : Nat}

end

theorem w8 : W64 8 := ⟨by decide, by decide⟩
theorem w9 : W64 9 := ⟨by decide, by decide⟩
end Go.Proofs.Ytefllfoilkbboaa
/- What setting and getting fields do to each other. Nothing of the program. -/
namespace Go.Proofs.Ytefllfoilkbboaa
set_option linter.unusedVariables false
set_option linter.unusedSimpArgs false

end Go.Proofs.Ytefllfoilkbboaa
/- Plain mathematics of addresses: sign, places, pages, the next page. Nothing of the program. -/
namespace Go.Proofs.Ytefllfoilkbboaa
set_option linter.unusedVariables false
set_option linter.unusedSimpArgs false

end Go.Proofs.Ytefllfoilkbboaa
