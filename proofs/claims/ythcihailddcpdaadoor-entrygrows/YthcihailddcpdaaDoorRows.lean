/-
  NARROWER THAN 'FOR EVERY INPUT', by the rows' own cells (each row's printed sentence says how): EntryTells: laid · EntryMay: laid · EntryBack: laid · EntryFrames: laid · EntrySlots: laid · EntryGrows: laid.
  DERIVED. THE GIVEN ROWS OF THIS SEAT. 6 by the template 'for every input the law returns true; each argument reads behind the call as it read before'; 0 by the template 'total and deterministic' (their statements: YthcihailddcpdaaDoorTotals.lean).
  GIVEN WITH THE SEED: the statements are not yours to turn. If you find one false, say at which input.
  Laid BY PROGRAM, IN A SANDBOX (cutbox-rows.mjs): the forced cells as the released guide's own fill.sh prints them over the translation 7f5995b01809fe28… (all of the seat's roots in one cut). By AI agents, Wed Nov 11 2026. No macro, syntax, notation, axiom, sorry.
-/
import Derived.Test.YthcihailddcpdaaDoorChecked
import GoSem.Claim
import GoSem.ClaimJoined
import GoSem.ClaimMapViews
import Derived.JoinedTies
import Derived.KernelRfl
namespace Go.Proofs.YthcihailddcpdaaDoor
/- THE CELL 'sum', in the pinned program and in every row, IS THE sha256 OF THE DUMP (.gsa) THAT YthcihailddcpdaaDoorProg.lean LOADS. Nothing in Lean hashes anything: it is a label: what it is worth is what the hold of that sum in a sandbox is worth. -/
noncomputable def Tryd.pinned : Pinned := { name := "ythcihailddcpdaadoor", sum := "7f5995b01809fe28cf58ee4de509244762a8cb7b908c2f5c225c998cac100d37", checked := Tryd.checked }
namespace Rows
def none {H : Type} : Left H := { results := [], args := [] }

/- WHAT THE LISTED PACKAGE-LEVEL VARIABLES READ AS WHEN THE CALL BEGINS. Each datum BY PROGRAM (the guide's laid-datum.mjs) off the statement by which the dump's own 'gosem.cut.vars' lays the variable. In a bare row this is a premise. The card (YthcihailddcpdaaDoorCards.lean) ties it to the program's text. -/
def laid_dormer_va_shifts {H : Type} : DataW H := .agg [.lit (.int .i64 12), .lit (.int .i64 21), .lit (.int .i64 30), .lit (.int .i64 39)]

/-- 'dormerlaw05.EntryTells': WHATEVER THE INPUT: true; the input reads as it did. -/
def entryTellsSpec : ChangeSpec := { name := "entryTells", fn := fun _ => fun
  | [d1, d2, d3] => { results := [.lit (.bool true)], args := [d1, d2, d3] }
  | _ => none }
def entryTellsRow : OpenClaim := { program := "ythcihailddcpdaadoor", sum := "7f5995b01809fe28cf58ee4de509244762a8cb7b908c2f5c225c998cac100d37", func := "dormer/dormerlaw05.EntryTells", spec := "entryTells", named := ["dormer/va.shifts"], apart := false, laid := [("dormer/va.shifts", laid_dormer_va_shifts)] }
def EntryTellsSaid : Prop := entryTellsRow.holds Tryd.pinned (OpenSpec.ofChange entryTellsSpec)

/-- ITS FALSE NEIGHBOUR: 'it returns false'. Refute it at one input. -/
def entryTellsWrong : ChangeSpec := { name := "entryTells", fn := fun _ => fun
  | [d1, d2, d3] => { results := [.lit (.bool false)], args := [d1, d2, d3] }
  | _ => none }
def EntryTellsWrongFalsely : Prop := entryTellsRow.holds Tryd.pinned (OpenSpec.ofChange entryTellsWrong)

/-- 'dormerlaw05.EntryMay': WHATEVER THE INPUT: true; the input reads as it did. -/
def entryMaySpec : ChangeSpec := { name := "entryMay", fn := fun _ => fun
  | [d1, d2, d3] => { results := [.lit (.bool true)], args := [d1, d2, d3] }
  | _ => none }
def entryMayRow : OpenClaim := { program := "ythcihailddcpdaadoor", sum := "7f5995b01809fe28cf58ee4de509244762a8cb7b908c2f5c225c998cac100d37", func := "dormer/dormerlaw05.EntryMay", spec := "entryMay", named := ["dormer/va.shifts"], apart := false, laid := [("dormer/va.shifts", laid_dormer_va_shifts)] }
def EntryMaySaid : Prop := entryMayRow.holds Tryd.pinned (OpenSpec.ofChange entryMaySpec)

/-- ITS FALSE NEIGHBOUR: 'it returns false'. Refute it at one input. -/
def entryMayWrong : ChangeSpec := { name := "entryMay", fn := fun _ => fun
  | [d1, d2, d3] => { results := [.lit (.bool false)], args := [d1, d2, d3] }
  | _ => none }
def EntryMayWrongFalsely : Prop := entryMayRow.holds Tryd.pinned (OpenSpec.ofChange entryMayWrong)

/-- 'dormerlaw05.EntryBack': WHATEVER THE INPUT: true; the input reads as it did. -/
def entryBackSpec : ChangeSpec := { name := "entryBack", fn := fun _ => fun
  | [d1, d2] => { results := [.lit (.bool true)], args := [d1, d2] }
  | _ => none }
def entryBackRow : OpenClaim := { program := "ythcihailddcpdaadoor", sum := "7f5995b01809fe28cf58ee4de509244762a8cb7b908c2f5c225c998cac100d37", func := "dormer/dormerlaw05.EntryBack", spec := "entryBack", named := ["dormer/va.shifts"], apart := false, laid := [("dormer/va.shifts", laid_dormer_va_shifts)] }
def EntryBackSaid : Prop := entryBackRow.holds Tryd.pinned (OpenSpec.ofChange entryBackSpec)

/-- ITS FALSE NEIGHBOUR: 'it returns false'. Refute it at one input. -/
def entryBackWrong : ChangeSpec := { name := "entryBack", fn := fun _ => fun
  | [d1, d2] => { results := [.lit (.bool false)], args := [d1, d2] }
  | _ => none }
def EntryBackWrongFalsely : Prop := entryBackRow.holds Tryd.pinned (OpenSpec.ofChange entryBackWrong)

/-- 'dormerlaw05.EntryFrames': WHATEVER THE INPUT: true; the input reads as it did. -/
def entryFramesSpec : ChangeSpec := { name := "entryFrames", fn := fun _ => fun
  | [d1, d2] => { results := [.lit (.bool true)], args := [d1, d2] }
  | _ => none }
def entryFramesRow : OpenClaim := { program := "ythcihailddcpdaadoor", sum := "7f5995b01809fe28cf58ee4de509244762a8cb7b908c2f5c225c998cac100d37", func := "dormer/dormerlaw05.EntryFrames", spec := "entryFrames", named := ["dormer/va.shifts"], apart := false, laid := [("dormer/va.shifts", laid_dormer_va_shifts)] }
def EntryFramesSaid : Prop := entryFramesRow.holds Tryd.pinned (OpenSpec.ofChange entryFramesSpec)

/-- ITS FALSE NEIGHBOUR: 'it returns false'. Refute it at one input. -/
def entryFramesWrong : ChangeSpec := { name := "entryFrames", fn := fun _ => fun
  | [d1, d2] => { results := [.lit (.bool false)], args := [d1, d2] }
  | _ => none }
def EntryFramesWrongFalsely : Prop := entryFramesRow.holds Tryd.pinned (OpenSpec.ofChange entryFramesWrong)

/-- 'dormerlaw05.EntrySlots': WHATEVER THE INPUT: true; the input reads as it did. -/
def entrySlotsSpec : ChangeSpec := { name := "entrySlots", fn := fun _ => fun
  | [d1, d2, d3] => { results := [.lit (.bool true)], args := [d1, d2, d3] }
  | _ => none }
def entrySlotsRow : OpenClaim := { program := "ythcihailddcpdaadoor", sum := "7f5995b01809fe28cf58ee4de509244762a8cb7b908c2f5c225c998cac100d37", func := "dormer/dormerlaw05.EntrySlots", spec := "entrySlots", named := ["dormer/va.shifts"], apart := false, laid := [("dormer/va.shifts", laid_dormer_va_shifts)] }
def EntrySlotsSaid : Prop := entrySlotsRow.holds Tryd.pinned (OpenSpec.ofChange entrySlotsSpec)

/-- ITS FALSE NEIGHBOUR: 'it returns false'. Refute it at one input. -/
def entrySlotsWrong : ChangeSpec := { name := "entrySlots", fn := fun _ => fun
  | [d1, d2, d3] => { results := [.lit (.bool false)], args := [d1, d2, d3] }
  | _ => none }
def EntrySlotsWrongFalsely : Prop := entrySlotsRow.holds Tryd.pinned (OpenSpec.ofChange entrySlotsWrong)

/-- 'dormerlaw05.EntryGrows': WHATEVER THE INPUT: true; the input reads as it did. -/
def entryGrowsSpec : ChangeSpec := { name := "entryGrows", fn := fun _ => fun
  | [d1, d2, d3] => { results := [.lit (.bool true)], args := [d1, d2, d3] }
  | _ => none }
def entryGrowsRow : OpenClaim := { program := "ythcihailddcpdaadoor", sum := "7f5995b01809fe28cf58ee4de509244762a8cb7b908c2f5c225c998cac100d37", func := "dormer/dormerlaw05.EntryGrows", spec := "entryGrows", named := ["dormer/va.shifts"], apart := false, laid := [("dormer/va.shifts", laid_dormer_va_shifts)] }
def EntryGrowsSaid : Prop := entryGrowsRow.holds Tryd.pinned (OpenSpec.ofChange entryGrowsSpec)

/-- ITS FALSE NEIGHBOUR: 'it returns false'. Refute it at one input. -/
def entryGrowsWrong : ChangeSpec := { name := "entryGrows", fn := fun _ => fun
  | [d1, d2, d3] => { results := [.lit (.bool false)], args := [d1, d2, d3] }
  | _ => none }
def EntryGrowsWrongFalsely : Prop := entryGrowsRow.holds Tryd.pinned (OpenSpec.ofChange entryGrowsWrong)

/- THE SECOND FORM. 'bulk': how many values and letters a reading holds, each counted each time it is reached (what is shared counts as often as it is met; a slice's spare places count too). A statement '..UptoSaid' is the law's where the arguments, and the package variables that the reading takes, are together of bulk at most 1048576: NARROWER than '..Said'. Prove '..Said' where nothing that the law and all that it calls make is longer than what came in: it says more and counts as full. Else prove '..UptoSaid'. A law counts once. -/
mutual
def uptoBulk {H : Type} : DataW H → Nat
  | .lit (.string bytes) => bytes.length + 1
  | .lit _ => 1
  | .nil => 1
  | .ptr d => uptoBulk d + 1
  | .slice elems spare => uptoBulkAll elems + uptoBulkAll spare + 1
  | .agg parts => uptoBulkAll parts + 1
  | .iface _ d => uptoBulk d + 1
  | .map entries => uptoBulkEntries entries + 1
  | .held _ => 1
def uptoBulkAll {H : Type} : List (DataW H) → Nat
  | [] => 0
  | d :: r => uptoBulk d + uptoBulkAll r
def uptoBulkEntries {H : Type} : List (Lit × DataW H) → Nat
  | [] => 0
  | x :: r => uptoBulkEntry x + uptoBulkEntries r
def uptoBulkEntry {H : Type} : Lit × DataW H → Nat
  | (.string bytes, d) => bytes.length + uptoBulk d + 1
  | (_, d) => uptoBulk d + 1
 end
def uptoSmall : (H : Type) → List (DataW H) → Bool := fun _ ds => decide (uptoBulkAll ds ≤ 1048576)
def OpenSpec.upto (s : _root_.Go.ChangeSpec) : _root_.Go.OpenSpec := { _root_.Go.OpenSpec.ofChange s with cond := some uptoSmall }

/-- 'dormerlaw05.EntryTells', WHERE WHAT IT READS IS OF BULK AT MOST 1048576: true; the input reads as it did. -/
def entryTellsUptoRow : OpenClaim := { program := "ythcihailddcpdaadoor", sum := "7f5995b01809fe28cf58ee4de509244762a8cb7b908c2f5c225c998cac100d37", func := "dormer/dormerlaw05.EntryTells", spec := "entryTells", named := ["dormer/va.shifts"], apart := false, laid := [("dormer/va.shifts", laid_dormer_va_shifts)], narrowed := true }
def EntryTellsUptoSaid : Prop := entryTellsUptoRow.holds Tryd.pinned (OpenSpec.upto entryTellsSpec)

/-- 'dormerlaw05.EntryMay', WHERE WHAT IT READS IS OF BULK AT MOST 1048576: true; the input reads as it did. -/
def entryMayUptoRow : OpenClaim := { program := "ythcihailddcpdaadoor", sum := "7f5995b01809fe28cf58ee4de509244762a8cb7b908c2f5c225c998cac100d37", func := "dormer/dormerlaw05.EntryMay", spec := "entryMay", named := ["dormer/va.shifts"], apart := false, laid := [("dormer/va.shifts", laid_dormer_va_shifts)], narrowed := true }
def EntryMayUptoSaid : Prop := entryMayUptoRow.holds Tryd.pinned (OpenSpec.upto entryMaySpec)

/-- 'dormerlaw05.EntryBack', WHERE WHAT IT READS IS OF BULK AT MOST 1048576: true; the input reads as it did. -/
def entryBackUptoRow : OpenClaim := { program := "ythcihailddcpdaadoor", sum := "7f5995b01809fe28cf58ee4de509244762a8cb7b908c2f5c225c998cac100d37", func := "dormer/dormerlaw05.EntryBack", spec := "entryBack", named := ["dormer/va.shifts"], apart := false, laid := [("dormer/va.shifts", laid_dormer_va_shifts)], narrowed := true }
def EntryBackUptoSaid : Prop := entryBackUptoRow.holds Tryd.pinned (OpenSpec.upto entryBackSpec)

/-- 'dormerlaw05.EntryFrames', WHERE WHAT IT READS IS OF BULK AT MOST 1048576: true; the input reads as it did. -/
def entryFramesUptoRow : OpenClaim := { program := "ythcihailddcpdaadoor", sum := "7f5995b01809fe28cf58ee4de509244762a8cb7b908c2f5c225c998cac100d37", func := "dormer/dormerlaw05.EntryFrames", spec := "entryFrames", named := ["dormer/va.shifts"], apart := false, laid := [("dormer/va.shifts", laid_dormer_va_shifts)], narrowed := true }
def EntryFramesUptoSaid : Prop := entryFramesUptoRow.holds Tryd.pinned (OpenSpec.upto entryFramesSpec)

/-- 'dormerlaw05.EntrySlots', WHERE WHAT IT READS IS OF BULK AT MOST 1048576: true; the input reads as it did. -/
def entrySlotsUptoRow : OpenClaim := { program := "ythcihailddcpdaadoor", sum := "7f5995b01809fe28cf58ee4de509244762a8cb7b908c2f5c225c998cac100d37", func := "dormer/dormerlaw05.EntrySlots", spec := "entrySlots", named := ["dormer/va.shifts"], apart := false, laid := [("dormer/va.shifts", laid_dormer_va_shifts)], narrowed := true }
def EntrySlotsUptoSaid : Prop := entrySlotsUptoRow.holds Tryd.pinned (OpenSpec.upto entrySlotsSpec)

/-- 'dormerlaw05.EntryGrows', WHERE WHAT IT READS IS OF BULK AT MOST 1048576: true; the input reads as it did. -/
def entryGrowsUptoRow : OpenClaim := { program := "ythcihailddcpdaadoor", sum := "7f5995b01809fe28cf58ee4de509244762a8cb7b908c2f5c225c998cac100d37", func := "dormer/dormerlaw05.EntryGrows", spec := "entryGrows", named := ["dormer/va.shifts"], apart := false, laid := [("dormer/va.shifts", laid_dormer_va_shifts)], narrowed := true }
def EntryGrowsUptoSaid : Prop := entryGrowsUptoRow.holds Tryd.pinned (OpenSpec.upto entryGrowsSpec)

end Rows
end Go.Proofs.YthcihailddcpdaaDoor
