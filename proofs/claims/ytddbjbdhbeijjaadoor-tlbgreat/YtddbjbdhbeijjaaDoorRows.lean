/-
  NARROWER THAN 'FOR EVERY INPUT', by the rows' own cells (each row's printed sentence says how): TlbPlays: laid · TlbSmall: laid · TlbGreat: laid · TlbDrops: laid · TlbOf: laid · TlbRoom: laid.
  DERIVED. THE GIVEN ROWS OF THIS SEAT. 6 by the template 'for every input the law returns true; each argument reads behind the call as it read before'; 0 by the template 'total and deterministic' (their statements: YtddbjbdhbeijjaaDoorTotals.lean).
  GIVEN WITH THE SEED: the statements are not yours to turn. If you find one false, say at which input.
  Laid BY PROGRAM, IN A SANDBOX (cutbox-rows.mjs): the forced cells as the released guide's own fill.sh prints them over the translation 92405e6b8b3bd00b… (all of the seat's roots in one cut). By AI agents, Wed Nov 11 2026. No macro, syntax, notation, axiom, sorry.
-/
import Derived.Test.YtddbjbdhbeijjaaDoorChecked
import GoSem.Claim
import GoSem.ClaimJoined
import GoSem.ClaimMapViews
import Derived.JoinedTies
import Derived.KernelRfl
namespace Go.Proofs.YtddbjbdhbeijjaaDoor
/- THE CELL 'sum', in the pinned program and in every row, IS THE sha256 OF THE DUMP (.gsa) THAT YtddbjbdhbeijjaaDoorProg.lean LOADS. Nothing in Lean hashes anything: it is a label: what it is worth is what the hold of that sum in a sandbox is worth. -/
noncomputable def Tryd.pinned : Pinned := { name := "ytddbjbdhbeijjaadoor", sum := "92405e6b8b3bd00bd5985611f9073b6bda55b124596869e52712d1b10ba36568", checked := Tryd.checked }
namespace Rows
def none {H : Type} : Left H := { results := [], args := [] }

/- WHAT THE LISTED PACKAGE-LEVEL VARIABLES READ AS WHEN THE CALL BEGINS. Each datum BY PROGRAM (the guide's laid-datum.mjs) off the statement by which the dump's own 'gosem.cut.vars' lays the variable. In a bare row this is a premise. The card (YtddbjbdhbeijjaaDoorCards.lean) ties it to the program's text. -/
def laid_dormer_va_shifts {H : Type} : DataW H := .agg [.lit (.int .i64 12), .lit (.int .i64 21), .lit (.int .i64 30), .lit (.int .i64 39)]
def laid_dormer_group_pages {H : Type} : DataW H := .agg [.lit (.int .u8 1), .lit (.int .u8 2), .lit (.int .u8 4), .lit (.int .u8 8), .lit (.int .u8 16), .lit (.int .u8 32), .lit (.int .u8 64), .lit (.int .u8 128)]

/-- 'dormerlaw13.TlbPlays': WHATEVER THE INPUT: true; the input reads as it did. -/
def tlbPlaysSpec : ChangeSpec := { name := "tlbPlays", fn := fun _ => fun
  | [d1, d2] => { results := [.lit (.bool true)], args := [d1, d2] }
  | _ => none }
def tlbPlaysRow : OpenClaim := { program := "ytddbjbdhbeijjaadoor", sum := "92405e6b8b3bd00bd5985611f9073b6bda55b124596869e52712d1b10ba36568", func := "dormer/dormerlaw13.TlbPlays", spec := "tlbPlays", named := ["dormer/va.shifts", "dormer/group.pages"], plainKeys := false, apart := false, laid := [("dormer/va.shifts", laid_dormer_va_shifts), ("dormer/group.pages", laid_dormer_group_pages)] }
def TlbPlaysSaid : Prop := tlbPlaysRow.holds Tryd.pinned (OpenSpec.ofChange tlbPlaysSpec)

/-- ITS FALSE NEIGHBOUR: 'it returns false'. Refute it at one input. -/
def tlbPlaysWrong : ChangeSpec := { name := "tlbPlays", fn := fun _ => fun
  | [d1, d2] => { results := [.lit (.bool false)], args := [d1, d2] }
  | _ => none }
def TlbPlaysWrongFalsely : Prop := tlbPlaysRow.holds Tryd.pinned (OpenSpec.ofChange tlbPlaysWrong)

/-- 'dormerlaw13.TlbSmall': WHATEVER THE INPUT: true; the input reads as it did. -/
def tlbSmallSpec : ChangeSpec := { name := "tlbSmall", fn := fun _ => fun
  | [d1, d2] => { results := [.lit (.bool true)], args := [d1, d2] }
  | _ => none }
def tlbSmallRow : OpenClaim := { program := "ytddbjbdhbeijjaadoor", sum := "92405e6b8b3bd00bd5985611f9073b6bda55b124596869e52712d1b10ba36568", func := "dormer/dormerlaw13.TlbSmall", spec := "tlbSmall", named := ["dormer/va.shifts", "dormer/group.pages"], plainKeys := false, apart := false, laid := [("dormer/va.shifts", laid_dormer_va_shifts), ("dormer/group.pages", laid_dormer_group_pages)] }
def TlbSmallSaid : Prop := tlbSmallRow.holds Tryd.pinned (OpenSpec.ofChange tlbSmallSpec)

/-- ITS FALSE NEIGHBOUR: 'it returns false'. Refute it at one input. -/
def tlbSmallWrong : ChangeSpec := { name := "tlbSmall", fn := fun _ => fun
  | [d1, d2] => { results := [.lit (.bool false)], args := [d1, d2] }
  | _ => none }
def TlbSmallWrongFalsely : Prop := tlbSmallRow.holds Tryd.pinned (OpenSpec.ofChange tlbSmallWrong)

/-- 'dormerlaw13.TlbGreat': WHATEVER THE INPUT: true; the input reads as it did. -/
def tlbGreatSpec : ChangeSpec := { name := "tlbGreat", fn := fun _ => fun
  | [d1, d2, d3] => { results := [.lit (.bool true)], args := [d1, d2, d3] }
  | _ => none }
def tlbGreatRow : OpenClaim := { program := "ytddbjbdhbeijjaadoor", sum := "92405e6b8b3bd00bd5985611f9073b6bda55b124596869e52712d1b10ba36568", func := "dormer/dormerlaw13.TlbGreat", spec := "tlbGreat", named := ["dormer/va.shifts", "dormer/group.pages"], plainKeys := false, apart := false, laid := [("dormer/va.shifts", laid_dormer_va_shifts), ("dormer/group.pages", laid_dormer_group_pages)] }
def TlbGreatSaid : Prop := tlbGreatRow.holds Tryd.pinned (OpenSpec.ofChange tlbGreatSpec)

/-- ITS FALSE NEIGHBOUR: 'it returns false'. Refute it at one input. -/
def tlbGreatWrong : ChangeSpec := { name := "tlbGreat", fn := fun _ => fun
  | [d1, d2, d3] => { results := [.lit (.bool false)], args := [d1, d2, d3] }
  | _ => none }
def TlbGreatWrongFalsely : Prop := tlbGreatRow.holds Tryd.pinned (OpenSpec.ofChange tlbGreatWrong)

/-- 'dormerlaw13.TlbDrops': WHATEVER THE INPUT: true; the input reads as it did. -/
def tlbDropsSpec : ChangeSpec := { name := "tlbDrops", fn := fun _ => fun
  | [d1, d2, d3] => { results := [.lit (.bool true)], args := [d1, d2, d3] }
  | _ => none }
def tlbDropsRow : OpenClaim := { program := "ytddbjbdhbeijjaadoor", sum := "92405e6b8b3bd00bd5985611f9073b6bda55b124596869e52712d1b10ba36568", func := "dormer/dormerlaw13.TlbDrops", spec := "tlbDrops", named := ["dormer/va.shifts", "dormer/group.pages"], plainKeys := false, apart := false, laid := [("dormer/va.shifts", laid_dormer_va_shifts), ("dormer/group.pages", laid_dormer_group_pages)] }
def TlbDropsSaid : Prop := tlbDropsRow.holds Tryd.pinned (OpenSpec.ofChange tlbDropsSpec)

/-- ITS FALSE NEIGHBOUR: 'it returns false'. Refute it at one input. -/
def tlbDropsWrong : ChangeSpec := { name := "tlbDrops", fn := fun _ => fun
  | [d1, d2, d3] => { results := [.lit (.bool false)], args := [d1, d2, d3] }
  | _ => none }
def TlbDropsWrongFalsely : Prop := tlbDropsRow.holds Tryd.pinned (OpenSpec.ofChange tlbDropsWrong)

/-- 'dormerlaw13.TlbOf': WHATEVER THE INPUT: true; the input reads as it did. -/
def tlbOfSpec : ChangeSpec := { name := "tlbOf", fn := fun _ => fun
  | [d1, d2, d3] => { results := [.lit (.bool true)], args := [d1, d2, d3] }
  | _ => none }
def tlbOfRow : OpenClaim := { program := "ytddbjbdhbeijjaadoor", sum := "92405e6b8b3bd00bd5985611f9073b6bda55b124596869e52712d1b10ba36568", func := "dormer/dormerlaw13.TlbOf", spec := "tlbOf", named := ["dormer/va.shifts", "dormer/group.pages"], plainKeys := false, apart := false, laid := [("dormer/va.shifts", laid_dormer_va_shifts), ("dormer/group.pages", laid_dormer_group_pages)] }
def TlbOfSaid : Prop := tlbOfRow.holds Tryd.pinned (OpenSpec.ofChange tlbOfSpec)

/-- ITS FALSE NEIGHBOUR: 'it returns false'. Refute it at one input. -/
def tlbOfWrong : ChangeSpec := { name := "tlbOf", fn := fun _ => fun
  | [d1, d2, d3] => { results := [.lit (.bool false)], args := [d1, d2, d3] }
  | _ => none }
def TlbOfWrongFalsely : Prop := tlbOfRow.holds Tryd.pinned (OpenSpec.ofChange tlbOfWrong)

/-- 'dormerlaw13.TlbRoom': WHATEVER THE INPUT: true; the input reads as it did. -/
def tlbRoomSpec : ChangeSpec := { name := "tlbRoom", fn := fun _ => fun
  | [d1, d2, d3] => { results := [.lit (.bool true)], args := [d1, d2, d3] }
  | _ => none }
def tlbRoomRow : OpenClaim := { program := "ytddbjbdhbeijjaadoor", sum := "92405e6b8b3bd00bd5985611f9073b6bda55b124596869e52712d1b10ba36568", func := "dormer/dormerlaw13.TlbRoom", spec := "tlbRoom", named := ["dormer/va.shifts", "dormer/group.pages"], plainKeys := false, apart := false, laid := [("dormer/va.shifts", laid_dormer_va_shifts), ("dormer/group.pages", laid_dormer_group_pages)] }
def TlbRoomSaid : Prop := tlbRoomRow.holds Tryd.pinned (OpenSpec.ofChange tlbRoomSpec)

/-- ITS FALSE NEIGHBOUR: 'it returns false'. Refute it at one input. -/
def tlbRoomWrong : ChangeSpec := { name := "tlbRoom", fn := fun _ => fun
  | [d1, d2, d3] => { results := [.lit (.bool false)], args := [d1, d2, d3] }
  | _ => none }
def TlbRoomWrongFalsely : Prop := tlbRoomRow.holds Tryd.pinned (OpenSpec.ofChange tlbRoomWrong)

/- THE SECOND FORM. 'bulk': how many values and letters a reading holds, each counted each time it is reached (what is shared counts as often as it is met; a slice's spare places count too). A statement '..UptoSaid' is the law's where the arguments, and the package variables that the reading takes, are together of bulk at most 1048576: NARROWER than '..Said'. Prove '..Said' where nothing that the law and all that it calls make is longer than what came in: it says more and counts as full. Else prove '..UptoSaid'. A law counts once. -/
mutual
def uptoBulk {H : Type} : DataW H → Nat
  | .lit (.string bytes) => bytes.length + 1
  | .lit _ => 1
  | .nil => 1
  | .ptr d => uptoBulk d + 1
  | .slice elems spare => uptoBulkAll elems + uptoBulkAll spare + 1
  | .agg parts => uptoBulkAll parts + 1
  | .iface _ d => uptoBulk d + 1
  | .map entries => uptoBulkEntries entries + 1
  | .held _ => 1
def uptoBulkAll {H : Type} : List (DataW H) → Nat
  | [] => 0
  | d :: r => uptoBulk d + uptoBulkAll r
def uptoBulkEntries {H : Type} : List (Lit × DataW H) → Nat
  | [] => 0
  | x :: r => uptoBulkEntry x + uptoBulkEntries r
def uptoBulkEntry {H : Type} : Lit × DataW H → Nat
  | (.string bytes, d) => bytes.length + uptoBulk d + 1
  | (_, d) => uptoBulk d + 1
 end
def uptoSmall : (H : Type) → List (DataW H) → Bool := fun _ ds => decide (uptoBulkAll ds ≤ 1048576)
def OpenSpec.upto (s : _root_.Go.ChangeSpec) : _root_.Go.OpenSpec := { _root_.Go.OpenSpec.ofChange s with cond := some uptoSmall }

/-- 'dormerlaw13.TlbPlays', WHERE WHAT IT READS IS OF BULK AT MOST 1048576: true; the input reads as it did. -/
def tlbPlaysUptoRow : OpenClaim := { program := "ytddbjbdhbeijjaadoor", sum := "92405e6b8b3bd00bd5985611f9073b6bda55b124596869e52712d1b10ba36568", func := "dormer/dormerlaw13.TlbPlays", spec := "tlbPlays", named := ["dormer/va.shifts", "dormer/group.pages"], plainKeys := false, apart := false, laid := [("dormer/va.shifts", laid_dormer_va_shifts), ("dormer/group.pages", laid_dormer_group_pages)], narrowed := true }
def TlbPlaysUptoSaid : Prop := tlbPlaysUptoRow.holds Tryd.pinned (OpenSpec.upto tlbPlaysSpec)

/-- 'dormerlaw13.TlbSmall', WHERE WHAT IT READS IS OF BULK AT MOST 1048576: true; the input reads as it did. -/
def tlbSmallUptoRow : OpenClaim := { program := "ytddbjbdhbeijjaadoor", sum := "92405e6b8b3bd00bd5985611f9073b6bda55b124596869e52712d1b10ba36568", func := "dormer/dormerlaw13.TlbSmall", spec := "tlbSmall", named := ["dormer/va.shifts", "dormer/group.pages"], plainKeys := false, apart := false, laid := [("dormer/va.shifts", laid_dormer_va_shifts), ("dormer/group.pages", laid_dormer_group_pages)], narrowed := true }
def TlbSmallUptoSaid : Prop := tlbSmallUptoRow.holds Tryd.pinned (OpenSpec.upto tlbSmallSpec)

/-- 'dormerlaw13.TlbGreat', WHERE WHAT IT READS IS OF BULK AT MOST 1048576: true; the input reads as it did. -/
def tlbGreatUptoRow : OpenClaim := { program := "ytddbjbdhbeijjaadoor", sum := "92405e6b8b3bd00bd5985611f9073b6bda55b124596869e52712d1b10ba36568", func := "dormer/dormerlaw13.TlbGreat", spec := "tlbGreat", named := ["dormer/va.shifts", "dormer/group.pages"], plainKeys := false, apart := false, laid := [("dormer/va.shifts", laid_dormer_va_shifts), ("dormer/group.pages", laid_dormer_group_pages)], narrowed := true }
def TlbGreatUptoSaid : Prop := tlbGreatUptoRow.holds Tryd.pinned (OpenSpec.upto tlbGreatSpec)

/-- 'dormerlaw13.TlbDrops', WHERE WHAT IT READS IS OF BULK AT MOST 1048576: true; the input reads as it did. -/
def tlbDropsUptoRow : OpenClaim := { program := "ytddbjbdhbeijjaadoor", sum := "92405e6b8b3bd00bd5985611f9073b6bda55b124596869e52712d1b10ba36568", func := "dormer/dormerlaw13.TlbDrops", spec := "tlbDrops", named := ["dormer/va.shifts", "dormer/group.pages"], plainKeys := false, apart := false, laid := [("dormer/va.shifts", laid_dormer_va_shifts), ("dormer/group.pages", laid_dormer_group_pages)], narrowed := true }
def TlbDropsUptoSaid : Prop := tlbDropsUptoRow.holds Tryd.pinned (OpenSpec.upto tlbDropsSpec)

/-- 'dormerlaw13.TlbOf', WHERE WHAT IT READS IS OF BULK AT MOST 1048576: true; the input reads as it did. -/
def tlbOfUptoRow : OpenClaim := { program := "ytddbjbdhbeijjaadoor", sum := "92405e6b8b3bd00bd5985611f9073b6bda55b124596869e52712d1b10ba36568", func := "dormer/dormerlaw13.TlbOf", spec := "tlbOf", named := ["dormer/va.shifts", "dormer/group.pages"], plainKeys := false, apart := false, laid := [("dormer/va.shifts", laid_dormer_va_shifts), ("dormer/group.pages", laid_dormer_group_pages)], narrowed := true }
def TlbOfUptoSaid : Prop := tlbOfUptoRow.holds Tryd.pinned (OpenSpec.upto tlbOfSpec)

/-- 'dormerlaw13.TlbRoom', WHERE WHAT IT READS IS OF BULK AT MOST 1048576: true; the input reads as it did. -/
def tlbRoomUptoRow : OpenClaim := { program := "ytddbjbdhbeijjaadoor", sum := "92405e6b8b3bd00bd5985611f9073b6bda55b124596869e52712d1b10ba36568", func := "dormer/dormerlaw13.TlbRoom", spec := "tlbRoom", named := ["dormer/va.shifts", "dormer/group.pages"], plainKeys := false, apart := false, laid := [("dormer/va.shifts", laid_dormer_va_shifts), ("dormer/group.pages", laid_dormer_group_pages)], narrowed := true }
def TlbRoomUptoSaid : Prop := tlbRoomUptoRow.holds Tryd.pinned (OpenSpec.upto tlbRoomSpec)

end Rows
end Go.Proofs.YtddbjbdhbeijjaaDoor
