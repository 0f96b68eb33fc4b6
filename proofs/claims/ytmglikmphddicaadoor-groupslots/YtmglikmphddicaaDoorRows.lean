/-
  NARROWER THAN 'FOR EVERY INPUT', by the rows' own cells (each row's printed sentence says how): GroupRuns: laid · GroupLines: laid · GroupFrames: laid · GroupMeets: laid · GroupLess: laid · GroupSlots: laid.
  DERIVED. THE GIVEN ROWS OF THIS SEAT. 6 by the template 'for every input the law returns true; each argument reads behind the call as it read before'; 0 by the template 'total and deterministic' (their statements: YtmglikmphddicaaDoorTotals.lean).
  GIVEN WITH THE SEED: the statements are not yours to turn. If you find one false, say at which input.
  Laid BY PROGRAM, IN A SANDBOX (cutbox-rows.mjs): the forced cells as the released guide's own fill.sh prints them over the translation 19aabac35c5b028f… (all of the seat's roots in one cut). By AI agents, Wed Nov 11 2026. No macro, syntax, notation, axiom, sorry.
-/
import Derived.Test.YtmglikmphddicaaDoorChecked
import GoSem.Claim
import GoSem.ClaimJoined
import GoSem.ClaimMapViews
import Derived.JoinedTies
import Derived.KernelRfl
namespace Go.Proofs.YtmglikmphddicaaDoor
/- THE CELL 'sum', in the pinned program and in every row, IS THE sha256 OF THE DUMP (.gsa) THAT YtmglikmphddicaaDoorProg.lean LOADS. Nothing in Lean hashes anything: it is a label: what it is worth is what the hold of that sum in a sandbox is worth. -/
noncomputable def Tryd.pinned : Pinned := { name := "ytmglikmphddicaadoor", sum := "19aabac35c5b028f231afc44f868f87cfb416f09aaee8e67fe1f2f553deaaee4", checked := Tryd.checked }
namespace Rows
def none {H : Type} : Left H := { results := [], args := [] }

/- WHAT THE LISTED PACKAGE-LEVEL VARIABLES READ AS WHEN THE CALL BEGINS. Each datum BY PROGRAM (the guide's laid-datum.mjs) off the statement by which the dump's own 'gosem.cut.vars' lays the variable. In a bare row this is a premise. The card (YtmglikmphddicaaDoorCards.lean) ties it to the program's text. -/
def laid_dormer_group_pages {H : Type} : DataW H := .agg [.lit (.int .u8 1), .lit (.int .u8 2), .lit (.int .u8 4), .lit (.int .u8 8), .lit (.int .u8 16), .lit (.int .u8 32), .lit (.int .u8 64), .lit (.int .u8 128)]

/-- 'dormerlaw12.GroupRuns': WHATEVER THE INPUT: true; the input reads as it did. -/
def groupRunsSpec : ChangeSpec := { name := "groupRuns", fn := fun _ => fun
  | [d] => { results := [.lit (.bool true)], args := [d] }
  | _ => none }
def groupRunsRow : OpenClaim := { program := "ytmglikmphddicaadoor", sum := "19aabac35c5b028f231afc44f868f87cfb416f09aaee8e67fe1f2f553deaaee4", func := "dormer/dormerlaw12.GroupRuns", spec := "groupRuns", named := ["dormer/group.pages"], apart := false, laid := [("dormer/group.pages", laid_dormer_group_pages)] }
def GroupRunsSaid : Prop := groupRunsRow.holds Tryd.pinned (OpenSpec.ofChange groupRunsSpec)

/-- ITS FALSE NEIGHBOUR: 'it returns false'. Refute it at one input. -/
def groupRunsWrong : ChangeSpec := { name := "groupRuns", fn := fun _ => fun
  | [d] => { results := [.lit (.bool false)], args := [d] }
  | _ => none }
def GroupRunsWrongFalsely : Prop := groupRunsRow.holds Tryd.pinned (OpenSpec.ofChange groupRunsWrong)

/-- 'dormerlaw12.GroupLines': WHATEVER THE INPUT: true; the input reads as it did. -/
def groupLinesSpec : ChangeSpec := { name := "groupLines", fn := fun _ => fun
  | [d1, d2, d3] => { results := [.lit (.bool true)], args := [d1, d2, d3] }
  | _ => none }
def groupLinesRow : OpenClaim := { program := "ytmglikmphddicaadoor", sum := "19aabac35c5b028f231afc44f868f87cfb416f09aaee8e67fe1f2f553deaaee4", func := "dormer/dormerlaw12.GroupLines", spec := "groupLines", named := ["dormer/group.pages"], apart := false, laid := [("dormer/group.pages", laid_dormer_group_pages)] }
def GroupLinesSaid : Prop := groupLinesRow.holds Tryd.pinned (OpenSpec.ofChange groupLinesSpec)

/-- ITS FALSE NEIGHBOUR: 'it returns false'. Refute it at one input. -/
def groupLinesWrong : ChangeSpec := { name := "groupLines", fn := fun _ => fun
  | [d1, d2, d3] => { results := [.lit (.bool false)], args := [d1, d2, d3] }
  | _ => none }
def GroupLinesWrongFalsely : Prop := groupLinesRow.holds Tryd.pinned (OpenSpec.ofChange groupLinesWrong)

/-- 'dormerlaw12.GroupFrames': WHATEVER THE INPUT: true; the input reads as it did. -/
def groupFramesSpec : ChangeSpec := { name := "groupFrames", fn := fun _ => fun
  | [d] => { results := [.lit (.bool true)], args := [d] }
  | _ => none }
def groupFramesRow : OpenClaim := { program := "ytmglikmphddicaadoor", sum := "19aabac35c5b028f231afc44f868f87cfb416f09aaee8e67fe1f2f553deaaee4", func := "dormer/dormerlaw12.GroupFrames", spec := "groupFrames", named := ["dormer/group.pages"], apart := false, laid := [("dormer/group.pages", laid_dormer_group_pages)] }
def GroupFramesSaid : Prop := groupFramesRow.holds Tryd.pinned (OpenSpec.ofChange groupFramesSpec)

/-- ITS FALSE NEIGHBOUR: 'it returns false'. Refute it at one input. -/
def groupFramesWrong : ChangeSpec := { name := "groupFrames", fn := fun _ => fun
  | [d] => { results := [.lit (.bool false)], args := [d] }
  | _ => none }
def GroupFramesWrongFalsely : Prop := groupFramesRow.holds Tryd.pinned (OpenSpec.ofChange groupFramesWrong)

/-- 'dormerlaw12.GroupMeets': WHATEVER THE INPUT: true; the input reads as it did. -/
def groupMeetsSpec : ChangeSpec := { name := "groupMeets", fn := fun _ => fun
  | [d1, d2] => { results := [.lit (.bool true)], args := [d1, d2] }
  | _ => none }
def groupMeetsRow : OpenClaim := { program := "ytmglikmphddicaadoor", sum := "19aabac35c5b028f231afc44f868f87cfb416f09aaee8e67fe1f2f553deaaee4", func := "dormer/dormerlaw12.GroupMeets", spec := "groupMeets", named := ["dormer/group.pages"], apart := false, laid := [("dormer/group.pages", laid_dormer_group_pages)] }
def GroupMeetsSaid : Prop := groupMeetsRow.holds Tryd.pinned (OpenSpec.ofChange groupMeetsSpec)

/-- ITS FALSE NEIGHBOUR: 'it returns false'. Refute it at one input. -/
def groupMeetsWrong : ChangeSpec := { name := "groupMeets", fn := fun _ => fun
  | [d1, d2] => { results := [.lit (.bool false)], args := [d1, d2] }
  | _ => none }
def GroupMeetsWrongFalsely : Prop := groupMeetsRow.holds Tryd.pinned (OpenSpec.ofChange groupMeetsWrong)

/-- 'dormerlaw12.GroupLess': WHATEVER THE INPUT: true; the input reads as it did. -/
def groupLessSpec : ChangeSpec := { name := "groupLess", fn := fun _ => fun
  | [d1, d2, d3] => { results := [.lit (.bool true)], args := [d1, d2, d3] }
  | _ => none }
def groupLessRow : OpenClaim := { program := "ytmglikmphddicaadoor", sum := "19aabac35c5b028f231afc44f868f87cfb416f09aaee8e67fe1f2f553deaaee4", func := "dormer/dormerlaw12.GroupLess", spec := "groupLess", named := ["dormer/group.pages"], apart := false, laid := [("dormer/group.pages", laid_dormer_group_pages)] }
def GroupLessSaid : Prop := groupLessRow.holds Tryd.pinned (OpenSpec.ofChange groupLessSpec)

/-- ITS FALSE NEIGHBOUR: 'it returns false'. Refute it at one input. -/
def groupLessWrong : ChangeSpec := { name := "groupLess", fn := fun _ => fun
  | [d1, d2, d3] => { results := [.lit (.bool false)], args := [d1, d2, d3] }
  | _ => none }
def GroupLessWrongFalsely : Prop := groupLessRow.holds Tryd.pinned (OpenSpec.ofChange groupLessWrong)

/-- 'dormerlaw12.GroupSlots': WHATEVER THE INPUT: true; the input reads as it did. -/
def groupSlotsSpec : ChangeSpec := { name := "groupSlots", fn := fun _ => fun
  | [d1, d2] => { results := [.lit (.bool true)], args := [d1, d2] }
  | _ => none }
def groupSlotsRow : OpenClaim := { program := "ytmglikmphddicaadoor", sum := "19aabac35c5b028f231afc44f868f87cfb416f09aaee8e67fe1f2f553deaaee4", func := "dormer/dormerlaw12.GroupSlots", spec := "groupSlots", named := ["dormer/group.pages"], apart := false, laid := [("dormer/group.pages", laid_dormer_group_pages)] }
def GroupSlotsSaid : Prop := groupSlotsRow.holds Tryd.pinned (OpenSpec.ofChange groupSlotsSpec)

/-- ITS FALSE NEIGHBOUR: 'it returns false'. Refute it at one input. -/
def groupSlotsWrong : ChangeSpec := { name := "groupSlots", fn := fun _ => fun
  | [d1, d2] => { results := [.lit (.bool false)], args := [d1, d2] }
  | _ => none }
def GroupSlotsWrongFalsely : Prop := groupSlotsRow.holds Tryd.pinned (OpenSpec.ofChange groupSlotsWrong)

/- THE SECOND FORM. 'bulk': how many values and letters a reading holds, each counted each time it is reached (what is shared counts as often as it is met; a slice's spare places count too). A statement '..UptoSaid' is the law's where the arguments, and the package variables that the reading takes, are together of bulk at most 1048576: NARROWER than '..Said'. Prove '..Said' where nothing that the law and all that it calls make is longer than what came in: it says more and counts as full. Else prove '..UptoSaid'. A law counts once. -/
mutual
def uptoBulk {H : Type} : DataW H → Nat
  | .lit (.string bytes) => bytes.length + 1
  | .lit _ => 1
  | .nil => 1
  | .ptr d => uptoBulk d + 1
  | .slice elems spare => uptoBulkAll elems + uptoBulkAll spare + 1
  | .agg parts => uptoBulkAll parts + 1
  | .iface _ d => uptoBulk d + 1
  | .map entries => uptoBulkEntries entries + 1
  | .held _ => 1
def uptoBulkAll {H : Type} : List (DataW H) → Nat
  | [] => 0
  | d :: r => uptoBulk d + uptoBulkAll r
def uptoBulkEntries {H : Type} : List (Lit × DataW H) → Nat
  | [] => 0
  | x :: r => uptoBulkEntry x + uptoBulkEntries r
def uptoBulkEntry {H : Type} : Lit × DataW H → Nat
  | (.string bytes, d) => bytes.length + uptoBulk d + 1
  | (_, d) => uptoBulk d + 1
 end
def uptoSmall : (H : Type) → List (DataW H) → Bool := fun _ ds => decide (uptoBulkAll ds ≤ 1048576)
def OpenSpec.upto (s : _root_.Go.ChangeSpec) : _root_.Go.OpenSpec := { _root_.Go.OpenSpec.ofChange s with cond := some uptoSmall }

/-- 'dormerlaw12.GroupRuns', WHERE WHAT IT READS IS OF BULK AT MOST 1048576: true; the input reads as it did. -/
def groupRunsUptoRow : OpenClaim := { program := "ytmglikmphddicaadoor", sum := "19aabac35c5b028f231afc44f868f87cfb416f09aaee8e67fe1f2f553deaaee4", func := "dormer/dormerlaw12.GroupRuns", spec := "groupRuns", named := ["dormer/group.pages"], apart := false, laid := [("dormer/group.pages", laid_dormer_group_pages)], narrowed := true }
def GroupRunsUptoSaid : Prop := groupRunsUptoRow.holds Tryd.pinned (OpenSpec.upto groupRunsSpec)

/-- 'dormerlaw12.GroupLines', WHERE WHAT IT READS IS OF BULK AT MOST 1048576: true; the input reads as it did. -/
def groupLinesUptoRow : OpenClaim := { program := "ytmglikmphddicaadoor", sum := "19aabac35c5b028f231afc44f868f87cfb416f09aaee8e67fe1f2f553deaaee4", func := "dormer/dormerlaw12.GroupLines", spec := "groupLines", named := ["dormer/group.pages"], apart := false, laid := [("dormer/group.pages", laid_dormer_group_pages)], narrowed := true }
def GroupLinesUptoSaid : Prop := groupLinesUptoRow.holds Tryd.pinned (OpenSpec.upto groupLinesSpec)

/-- 'dormerlaw12.GroupFrames', WHERE WHAT IT READS IS OF BULK AT MOST 1048576: true; the input reads as it did. -/
def groupFramesUptoRow : OpenClaim := { program := "ytmglikmphddicaadoor", sum := "19aabac35c5b028f231afc44f868f87cfb416f09aaee8e67fe1f2f553deaaee4", func := "dormer/dormerlaw12.GroupFrames", spec := "groupFrames", named := ["dormer/group.pages"], apart := false, laid := [("dormer/group.pages", laid_dormer_group_pages)], narrowed := true }
def GroupFramesUptoSaid : Prop := groupFramesUptoRow.holds Tryd.pinned (OpenSpec.upto groupFramesSpec)

/-- 'dormerlaw12.GroupMeets', WHERE WHAT IT READS IS OF BULK AT MOST 1048576: true; the input reads as it did. -/
def groupMeetsUptoRow : OpenClaim := { program := "ytmglikmphddicaadoor", sum := "19aabac35c5b028f231afc44f868f87cfb416f09aaee8e67fe1f2f553deaaee4", func := "dormer/dormerlaw12.GroupMeets", spec := "groupMeets", named := ["dormer/group.pages"], apart := false, laid := [("dormer/group.pages", laid_dormer_group_pages)], narrowed := true }
def GroupMeetsUptoSaid : Prop := groupMeetsUptoRow.holds Tryd.pinned (OpenSpec.upto groupMeetsSpec)

/-- 'dormerlaw12.GroupLess', WHERE WHAT IT READS IS OF BULK AT MOST 1048576: true; the input reads as it did. -/
def groupLessUptoRow : OpenClaim := { program := "ytmglikmphddicaadoor", sum := "19aabac35c5b028f231afc44f868f87cfb416f09aaee8e67fe1f2f553deaaee4", func := "dormer/dormerlaw12.GroupLess", spec := "groupLess", named := ["dormer/group.pages"], apart := false, laid := [("dormer/group.pages", laid_dormer_group_pages)], narrowed := true }
def GroupLessUptoSaid : Prop := groupLessUptoRow.holds Tryd.pinned (OpenSpec.upto groupLessSpec)

/-- 'dormerlaw12.GroupSlots', WHERE WHAT IT READS IS OF BULK AT MOST 1048576: true; the input reads as it did. -/
def groupSlotsUptoRow : OpenClaim := { program := "ytmglikmphddicaadoor", sum := "19aabac35c5b028f231afc44f868f87cfb416f09aaee8e67fe1f2f553deaaee4", func := "dormer/dormerlaw12.GroupSlots", spec := "groupSlots", named := ["dormer/group.pages"], apart := false, laid := [("dormer/group.pages", laid_dormer_group_pages)], narrowed := true }
def GroupSlotsUptoSaid : Prop := groupSlotsUptoRow.holds Tryd.pinned (OpenSpec.upto groupSlotsSpec)

end Rows
end Go.Proofs.YtmglikmphddicaaDoor
