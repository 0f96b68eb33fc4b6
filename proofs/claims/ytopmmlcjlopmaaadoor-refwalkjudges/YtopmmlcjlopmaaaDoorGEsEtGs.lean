/- Several texts of ours in one: Es, Et, Gs. -/
import Derived.Test.YtopmmlcjlopmaaaDoorGRjIaEr
import Derived.Test.YtopmmlcjlopmaaaDoorGVmRN
import Derived.LoopTactic
import Derived.Lib.SmallJoins
import Derived.StillTailTactics
import Derived.Test.YtopmmlcjlopmaaaDoorGGbRgHb
/- dormerref05.Reserved: what may not be, by the document's own answer. -/
namespace Go.Proofs.YtopmmlcjlopmaaaDoor
set_option linter.unusedVariables false
set_option linter.unusedSimpArgs false
open Go.ChangeShapes Go.WideShapes Go.ChangeAt Go.RowKit Go.Joins

/- walks -/
end Go.Proofs.YtopmmlcjlopmaaaDoor
/- dormerref05.Parse: what the document's own answer says of a word. -/
namespace Go.Proofs.YtopmmlcjlopmaaaDoor
set_option linter.unusedVariables false
set_option linter.unusedSimpArgs false
open Go.ChangeShapes Go.WideShapes Go.ChangeAt Go.RowKit Go.Joins

/-- of the bits of x the first k, then none -/
def partT (x : Int) (k : Nat) : Array Value := ((List.range 64).map fun j : Nat => Value.bool (decide (j < k) && bitF x (j : Int))).toArray

theorem partT_get (x : Int) (k : Nat) {j : Nat} (hj : j < 64) : (partT x k)[j]? = some (.bool (decide (j < k) && bitF x (j : Int))) := by
  simp [partT, List.getElem?_map, List.getElem?_range hj]

theorem partT_set (x : Int) {k : Nat} : (partT x k).setIfInBounds k (.bool (bitF x (k : Int))) = partT x (k + 1) := by
  apply Array.ext
  · simp [partT]
  · intro j h1 h2
    have hj : j < 64 := by simpa [partT] using h2
    rw [Array.getElem_setIfInBounds (by simpa [partT] using hj)]
    by_cases e : k = j
    · subst e; simp [partT]
    · rw [if_neg e]
      by_cases c : j < k
      · simp [partT, c, show j < k + 1 by omega]
      · simp [partT, c, show ¬ j < k + 1 by omega]

def offT : Array Value := ((List.range 64).map fun _ : Nat => Value.bool false).toArray
theorem partT_zero (x : Int) : partT x 0 = offT := by simp [partT, offT]

/-- block g holds the cells cs, of bools, none frozen -/
def RowT (w : World) (g : Nat) (cs : Array Value) : Prop := w.heap[g]? = some (.cells cs 4 (0, 0))
abbrev noE : Array Value := #[.bool false, .bool false, .bool false, .bool false, .bool false, .bool false, .bool false, .int .u64 0]

theorem stillOf {P : Program} {f : FuncId} {args : Array Value} {w : World} {v : Value} (h : Calls P f args w fun e w' => e = .returned v ∧ w = w') : Calls P f args w fun e w' => e = .returned v ∧ w' = w :=
  h.mono fun _ _ ⟨he, hw⟩ => ⟨he, hw.symm⟩

theorem size_alloc (v : World) (o : Obj) : (v.alloc o).heap.size = v.heap.size + 1 := by simp

theorem alloc_old (w : World) (o : Obj) {i : Nat} (h : i < w.heap.size) : (w.alloc o).heap[i]? = w.heap[i]? := by
  show (w.heap.push o)[i]? = w.heap[i]?
  rw [Array.getElem?_push_lt h, Array.getElem?_eq_getElem h]

end Go.Proofs.YtopmmlcjlopmaaaDoor
/- Contracts of dormerref06: And. -/
namespace Go.Proofs.YtopmmlcjlopmaaaDoor
set_option linter.unusedVariables false
set_option linter.unusedSimpArgs false
open Go.ChangeShapes Go.WideShapes Go.ChangeAt Go.RowKit Go.Joins

/-- block g holds a right of the document's -/
def RowG (w : World) (g : Nat) (cs : Array Value) : Prop := w.heap[g]? = some (.cells cs 44 (0, 0))
abbrev noG : Array Value := #[.bool false, .bool false, .bool false]

/-- a right's box, and room for another one -/
theorem rand_start (W : World) (w u x : Bool) :
    RgtAt ((W.alloc (.cells #[.bool w, .bool u, .bool x] 44)).alloc (.cells noG 44)) W.heap.size w u x ∧
    RowG ((W.alloc (.cells #[.bool w, .bool u, .bool x] 44)).alloc (.cells noG 44)) (W.heap.size + 1) noG ∧
    Below W.heap.size W ((W.alloc (.cells #[.bool w, .bool u, .bool x] 44)).alloc (.cells noG 44)) :=
  ⟨rgt_keep (rgt_new W w u x _) (by simp) (kept_alloc _ _), last_obj2 _ _ _, below2 _ _ _⟩

end Go.Proofs.YtopmmlcjlopmaaaDoor
