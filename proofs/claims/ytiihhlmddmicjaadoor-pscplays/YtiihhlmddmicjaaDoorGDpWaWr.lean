/- Several texts of ours in one: Dp, Wa, Wr. -/
import Derived.Test.YtiihhlmddmicjaaDoorGMdMeEm
import Derived.Laws.Cells
import Derived.Test.YtiihhlmddmicjaaDoorGCbMcWm
import Derived.Laws.BytesArg
import Derived.Test.YtiihhlmddmicjaaDoorGVmRN
import Derived.Maps.AppendAt
import Derived.OwnWalk
import Derived.Laws.OwnMore
/- Deeds: pair, run; a slice of deeds. -/
namespace Go.Proofs.YtiihhlmddmicjaaDoor
set_option linter.unusedVariables false
set_option linter.unusedSimpArgs false
open Go.ChangeShapes Go.WideShapes Go.ChangeAt Go.RowKit Go.Joins

section
variable {w : World} {F : Nat → Prop} {m : Nat} {M : Int} {f : Int → Int} {tr : List Int} {n : Nat}

end

/-- how many deeds are done -/
def many (ds : List (Int × Int × Int)) : Nat := min ds.length 120

end Go.Proofs.YtiihhlmddmicjaaDoor
/- Bytes as a string; the document's example (awake of dormerlaw02). -/
namespace Go.Proofs.YtiihhlmddmicjaaDoor
set_option linter.unusedVariables false
set_option linter.unusedSimpArgs false
open Go.ChangeShapes Go.WideShapes Go.ChangeAt Go.RowKit Go.Joins

theorem Row8.alloc {w : World} {g : Nat} {cs : Array Value} (h : Row8 w g cs) (hg : g < w.heap.size) (o : Obj) : Row8 (w.alloc o) g cs := (Below.heap_alloc w o g hg).trans h
theorem Row8.lt {w : World} {g : Nat} {cs : Array Value} (h : Row8 w g cs) : g < w.heap.size := by
  rcases Nat.lt_or_ge g w.heap.size with hlt | hge
  · exact hlt
  · unfold Row8 at h; rw [Array.getElem?_eq_none hge] at h; cases h

end Go.Proofs.YtiihhlmddmicjaaDoor
/- Contracts of package dormerref02: each answers as package word does. -/
namespace Go.Proofs.YtiihhlmddmicjaaDoor
set_option linter.unusedVariables false
set_option linter.unusedSimpArgs false
open Go.ChangeShapes Go.WideShapes Go.ChangeAt Go.RowKit Go.Joins

end Go.Proofs.YtiihhlmddmicjaaDoor
