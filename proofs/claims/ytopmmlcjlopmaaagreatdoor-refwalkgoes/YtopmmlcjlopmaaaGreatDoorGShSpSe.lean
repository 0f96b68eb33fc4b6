/- Several texts of ours in one: Sh, Sp, Se. -/
import Derived.Test.YtopmmlcjlopmaaaGreatDoorGIdKgSo
import Derived.Sort.LotA
import Derived.Deep.CutRange
import Derived.Deep.CutBlock
/- slices.Sort at uint64: siftDownOrdered, heapSortOrdered. -/
namespace Go.Proofs.YtopmmlcjlopmaaaGreatDoor
set_option linter.unusedVariables false
set_option linter.unusedSimpArgs false
open Go.ChangeShapes Go.WideShapes Go.ChangeAt Go.RowKit
open Go.Sort (swp ltInt)

/-- the greater child -/
def pick (hi F root : Nat) (d : Array Int) : Nat := if 2 * root + 2 < hi ∧ ltInt d[F + (2 * root + 1)]! d[F + (2 * root + 1) + 1]! = true then 2 * root + 2 else 2 * root + 1

end Go.Proofs.YtopmmlcjlopmaaaGreatDoor
/- slices.Sort at uint64, at fewer than fifty: reverseRangeOrdered, choosePivotOrdered, partialInsertionSortOrdered. -/
namespace Go.Proofs.YtopmmlcjlopmaaaGreatDoor
set_option linter.unusedVariables false
set_option linter.unusedSimpArgs false
open Go.ChangeShapes Go.WideShapes Go.ChangeAt Go.RowKit
open Go.Sort (swp ltInt SortedIn)

/-- a counter in a block of its own -/
def Cnt (w : World) (s : Nat) : Prop := ∃ c : Int, w.heap[s]? = some (.cells #[.int .i64 c] 3 (0, 0))

theorem Row.turn {w w' : World} {s g N : Nat} {d : Array Int} (hr : Row w g N d) (ht : Turn (fun i => i = s) w w') (hne : s ≠ g) : Row w' g N d := by
  obtain ⟨c, hc, r⟩ := hr
  exact ⟨c, (ht.block g (lt_of_block hc) (fun e => hne e.symm)).trans hc, r⟩
theorem Cnt.set {w : World} {s : Nat} (h : Cnt w s) (x : Int) : Cnt (w.setCell ⟨s, 0, none⟩ (.int .i64 x)) s := by
  obtain ⟨c, hc⟩ := h
  exact ⟨x, one_setCell hc⟩

end Go.Proofs.YtopmmlcjlopmaaaGreatDoor
/- slices.Sort at uint64, at fewer than fifty: partitionEqualOrdered. -/
namespace Go.Proofs.YtopmmlcjlopmaaaGreatDoor
set_option linter.unusedVariables false
set_option linter.unusedSimpArgs false
open Go.ChangeShapes Go.WideShapes Go.ChangeAt Go.RowKit
open Go.Sort (swp ltInt SortedIn scanUp scanDown)

end Go.Proofs.YtopmmlcjlopmaaaGreatDoor
