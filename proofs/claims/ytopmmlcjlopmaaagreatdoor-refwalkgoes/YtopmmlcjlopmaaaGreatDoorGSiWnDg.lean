/- Several texts of ours in one: Si, Wn, Dg. -/
import Derived.RangeFuncBox
import Derived.RangeFuncNested
import Derived.RangeFuncBound
import Derived.RangeFuncCalls
import Derived.RangeFuncLeaves
import Derived.RangeFuncStops
import Derived.RangeFuncOne
import Derived.Sort.MapsRangeIn
import Derived.Maps.OwnIn
import Derived.Shelf.Abstract
import Derived.Shelf.RegionOpen
import Derived.WalkKit
import Derived.OwnWalkIn
import Derived.TacticsInMore
import Derived.RegionIn
import Derived.LoopNIn
import Derived.LoopIn
import Derived.Maps.AppendAt
import Derived.Test.YtopmmlcjlopmaaaGreatDoorGMcWmMd
import Derived.Test.YtopmmlcjlopmaaaGreatDoorGSqScSd
import Derived.Test.YtopmmlcjlopmaaaGreatDoorGKpFbFh
import Derived.Test.YtopmmlcjlopmaaaGreatDoorGDpWaWr
import Derived.Deep.RegionHeld3
import Derived.ChangeKeysEq
import Derived.Laws.Rows
import Derived.Laws.StructEq
import Derived.BigQuiet
/- maps.Keys over the pages of a memory, slices.AppendSeq and slices.Collect at uint64. -/
namespace Go.Proofs.YtopmmlcjlopmaaaGreatDoor
set_option linter.unusedVariables false
set_option linter.unusedSimpArgs false
open Go.RowKit Go.Shelf Go.Maps

attribute [local go_sem] Oper.semAt_some

/-- those of D that are no longer to come are ss -/
def CollU (D : Dw) (left : Lit → Bool) (ss : List Int) : Prop := ss.Nodup ∧ ∀ x, x ∈ ss ↔ (has D (.int .u64 x) = true ∧ left (.int .u64 x) = false)

theorem CollU.start (D : Dw) : CollU D (has D) [] := ⟨List.nodup_nil, fun x => by cases has D (.int .u64 x) <;> simp⟩
theorem CollU.step {D : Dw} {left : Lit → Bool} {ss : List Int} (h : CollU D left ss) {x : Int} {y : Dw} (hlk : left (.int .u64 x) = true) (hat : ∀ zd, D.atKey (.int .u64 x) zd = y) : CollU D (fun z => left z && !z.sameKey (.int .u64 x)) (ss ++ [x]) := by
  have hhas : has D (.int .u64 x) = true := has_true_of_atKey hat
  have hnew : x ∉ ss := fun hx => by have := ((h.2 x).1 hx).2; rw [hlk] at this; cases this
  refine ⟨List.nodup_append.2 ⟨h.1, by simp, fun a ha b hb => by simp at hb; subst hb; exact fun e => hnew (e ▸ ha)⟩, fun y => ?_⟩
  by_cases hy : y = x
  · subst hy; simp [hhas, Lit.sameKey]
  · simp [h.2 y, hy, Lit.sameKey]

end Go.Proofs.YtopmmlcjlopmaaaGreatDoor
/- mem.written: the numbers of the pages of both memories, rising. -/
namespace Go.Proofs.YtopmmlcjlopmaaaGreatDoor
set_option linter.unusedVariables false
set_option linter.unusedSimpArgs false
open Go.ChangeShapes Go.WideShapes Go.ChangeAt Go.RowKit Go.Joins

section
variable {w w1 w2 w3 w4 : World} {m m' mb mb' : Nat}
end

end Go.Proofs.YtopmmlcjlopmaaaGreatDoor
/- (*Mem).page, and pages that are compared as a whole. -/
namespace Go.Proofs.YtopmmlcjlopmaaaGreatDoor
set_option linter.unusedVariables false
set_option linter.unusedSimpArgs false
open Go.ChangeShapes Go.WideShapes Go.ChangeAt Go.RowKit

section
variable {P : Program} {C : World → Prop} {o : Oper} {a : Act} {K : Act → Prop}
end

end Go.Proofs.YtopmmlcjlopmaaaGreatDoor
