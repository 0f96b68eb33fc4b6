/- Several texts of ours in one: Wm, Md, Me. -/
import Derived.Test.YtddbjbdhbeijjaaDoorGGmByWd
import Derived.LoopTactic
import Derived.Lib.SmallJoins
import Derived.Test.YtddbjbdhbeijjaaDoorGKpGbMc
/- Contracts of package word: the calls that make or read memory. -/
namespace Go.Proofs.YtddbjbdhbeijjaaDoor
set_option linter.unusedVariables false
set_option linter.unusedSimpArgs false
open Go.ChangeShapes Go.WideShapes Go.ChangeAt Go.RowKit Go.Joins

/-- block g holds the cells cs, of bytes, none frozen -/
def Row8 (w : World) (g : Nat) (cs : Array Value) : Prop := w.heap[g]? = some (.cells cs 5 (0, 0))

end Go.Proofs.YtddbjbdhbeijjaaDoor
/- Contracts of package mem: its calls. -/
namespace Go.Proofs.YtddbjbdhbeijjaaDoor
set_option linter.unusedVariables false
set_option linter.unusedSimpArgs false
open Go.ChangeShapes Go.WideShapes Go.ChangeAt Go.RowKit Go.Joins
open Go.Maps (Keyed IsMap)

section
variable {w : World} {F : Nat → Prop} {m : Nat} {M : Int} {f : Int → Int} {tr : List Int} {n : Nat}

end

end Go.Proofs.YtddbjbdhbeijjaaDoor
/- Contracts of package mem: of a memory that is nil; of one whose blocks lie from B on; awake. -/
namespace Go.Proofs.YtddbjbdhbeijjaaDoor
set_option linter.unusedVariables false
set_option linter.unusedSimpArgs false
open Go.ChangeShapes Go.WideShapes Go.ChangeAt Go.RowKit Go.Joins

section
variable {w : World} {B m : Nat} {M : Int} {f : Int → Int} {tr : List Int} {n : Nat}

end

theorem w8 : W64 8 := ⟨by decide, by decide⟩
theorem w9 : W64 9 := ⟨by decide, by decide⟩
end Go.Proofs.YtddbjbdhbeijjaaDoor
