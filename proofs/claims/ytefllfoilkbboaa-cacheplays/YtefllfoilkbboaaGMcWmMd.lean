/- Several texts of ours in one: Mc, Wm, Md. -/
import Derived.Test.YtefllfoilkbboaaGWdMmCa
import Derived.Test.YtefllfoilkbboaaGRNCb
import Derived.WalkSpells
import Derived.Lib.SliceRun
import Derived.LoopTactic
import Derived.Lib.SmallJoins
/- Contracts of package mem, over a memory as it lies in the world. -/
namespace Go.Proofs.Ytefllfoilkbboaa
set_option linter.unusedVariables false
set_option linter.unusedSimpArgs false
open Go.ChangeShapes Go.WideShapes Go.ChangeAt Go.RowKit
open Go.Maps (Keyed IsMap)

section
variable {w : World} {m : Nat} {M : Int} {f : Int → Int} {tr : List Int} {n mb : Nat} {v : Value} {D : Dw}

end

end Go.Proofs.Ytefllfoilkbboaa
/- Contracts of package word: the calls that make or read memory. -/
namespace Go.Proofs.Ytefllfoilkbboaa
set_option linter.unusedVariables false
set_option linter.unusedSimpArgs false
open Go.ChangeShapes Go.WideShapes Go.ChangeAt Go.RowKit Go.Joins

/-- block g holds the cells cs, of bytes, none frozen -/
def Row8 (w : World) (g : Nat) (cs : Array Value) : Prop := w.heap[g]? = some (.cells cs 5 (0, 0))

end Go.Proofs.Ytefllfoilkbboaa
/- Contracts of package mem: its calls. -/
namespace Go.Proofs.Ytefllfoilkbboaa
set_option linter.unusedVariables false
set_option linter.unusedSimpArgs false
open Go.ChangeShapes Go.WideShapes Go.ChangeAt Go.RowKit Go.Joins
open Go.Maps (Keyed IsMap)

section
variable {w : World} {F : Nat → Prop} {m : Nat} {M : Int} {f : Int → Int} {tr : List Int} {n : Nat}

end

end Go.Proofs.Ytefllfoilkbboaa
