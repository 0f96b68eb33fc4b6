/-
  NARROWER THAN 'FOR EVERY INPUT', by the rows' own cells (each row's printed sentence says how): PscPlays: laid · PscGoes: laid · PscFills: laid · PscDrops: laid · PscRoom: laid · PscApart: laid.
  DERIVED. THE GIVEN ROWS OF THIS SEAT. 6 by the template 'for every input the law returns true; each argument reads behind the call as it read before'; 0 by the template 'total and deterministic' (their statements: YtiihhlmddmicjaaDoorTotals.lean).
  GIVEN WITH THE SEED: the statements are not yours to turn. If you find one false, say at which input.
  Laid BY PROGRAM, IN A SANDBOX (cutbox-rows.mjs): the forced cells as the released guide's own fill.sh prints them over the translation d394978f749ae1a3… (all of the seat's roots in one cut). By AI agents, Wed Nov 11 2026. No macro, syntax, notation, axiom, sorry.
-/
import Derived.Test.YtiihhlmddmicjaaDoorChecked
import GoSem.Claim
import GoSem.ClaimJoined
import GoSem.ClaimMapViews
import Derived.JoinedTies
import Derived.KernelRfl
namespace Go.Proofs.YtiihhlmddmicjaaDoor
/- THE CELL 'sum', in the pinned program and in every row, IS THE sha256 OF THE DUMP (.gsa) THAT YtiihhlmddmicjaaDoorProg.lean LOADS. Nothing in Lean hashes anything: it is a label: what it is worth is what the hold of that sum in a sandbox is worth. -/
noncomputable def Tryd.pinned : Pinned := { name := "ytiihhlmddmicjaadoor", sum := "d394978f749ae1a3c4afa8112ef380be3345b297877dd664f35790381f57d9f5", checked := Tryd.checked }
namespace Rows
def none {H : Type} : Left H := { results := [], args := [] }

/- WHAT THE LISTED PACKAGE-LEVEL VARIABLES READ AS WHEN THE CALL BEGINS. Each datum BY PROGRAM (the guide's laid-datum.mjs) off the statement by which the dump's own 'gosem.cut.vars' lays the variable. In a bare row this is a premise. The card (YtiihhlmddmicjaaDoorCards.lean) ties it to the program's text. -/
def laid_dormer_va_shifts {H : Type} : DataW H := .agg [.lit (.int .i64 12), .lit (.int .i64 21), .lit (.int .i64 30), .lit (.int .i64 39)]

/-- 'dormerlaw11.PscPlays': WHATEVER THE INPUT: true; the input reads as it did. -/
def pscPlaysSpec : ChangeSpec := { name := "pscPlays", fn := fun _ => fun
  | [d1, d2] => { results := [.lit (.bool true)], args := [d1, d2] }
  | _ => none }
def pscPlaysRow : OpenClaim := { program := "ytiihhlmddmicjaadoor", sum := "d394978f749ae1a3c4afa8112ef380be3345b297877dd664f35790381f57d9f5", func := "dormer/dormerlaw11.PscPlays", spec := "pscPlays", named := ["dormer/va.shifts"], plainKeys := false, apart := false, laid := [("dormer/va.shifts", laid_dormer_va_shifts)] }
def PscPlaysSaid : Prop := pscPlaysRow.holds Tryd.pinned (OpenSpec.ofChange pscPlaysSpec)

/-- ITS FALSE NEIGHBOUR: 'it returns false'. Refute it at one input. -/
def pscPlaysWrong : ChangeSpec := { name := "pscPlays", fn := fun _ => fun
  | [d1, d2] => { results := [.lit (.bool false)], args := [d1, d2] }
  | _ => none }
def PscPlaysWrongFalsely : Prop := pscPlaysRow.holds Tryd.pinned (OpenSpec.ofChange pscPlaysWrong)

/-- 'dormerlaw11.PscGoes': WHATEVER THE INPUT: true; the input reads as it did. -/
def pscGoesSpec : ChangeSpec := { name := "pscGoes", fn := fun _ => fun
  | [d1, d2, d3] => { results := [.lit (.bool true)], args := [d1, d2, d3] }
  | _ => none }
def pscGoesRow : OpenClaim := { program := "ytiihhlmddmicjaadoor", sum := "d394978f749ae1a3c4afa8112ef380be3345b297877dd664f35790381f57d9f5", func := "dormer/dormerlaw11.PscGoes", spec := "pscGoes", named := ["dormer/va.shifts"], plainKeys := false, apart := false, laid := [("dormer/va.shifts", laid_dormer_va_shifts)] }
def PscGoesSaid : Prop := pscGoesRow.holds Tryd.pinned (OpenSpec.ofChange pscGoesSpec)

/-- ITS FALSE NEIGHBOUR: 'it returns false'. Refute it at one input. -/
def pscGoesWrong : ChangeSpec := { name := "pscGoes", fn := fun _ => fun
  | [d1, d2, d3] => { results := [.lit (.bool false)], args := [d1, d2, d3] }
  | _ => none }
def PscGoesWrongFalsely : Prop := pscGoesRow.holds Tryd.pinned (OpenSpec.ofChange pscGoesWrong)

/-- 'dormerlaw11.PscFills': WHATEVER THE INPUT: true; the input reads as it did. -/
def pscFillsSpec : ChangeSpec := { name := "pscFills", fn := fun _ => fun
  | [d1, d2, d3] => { results := [.lit (.bool true)], args := [d1, d2, d3] }
  | _ => none }
def pscFillsRow : OpenClaim := { program := "ytiihhlmddmicjaadoor", sum := "d394978f749ae1a3c4afa8112ef380be3345b297877dd664f35790381f57d9f5", func := "dormer/dormerlaw11.PscFills", spec := "pscFills", named := ["dormer/va.shifts"], plainKeys := false, apart := false, laid := [("dormer/va.shifts", laid_dormer_va_shifts)] }
def PscFillsSaid : Prop := pscFillsRow.holds Tryd.pinned (OpenSpec.ofChange pscFillsSpec)

/-- ITS FALSE NEIGHBOUR: 'it returns false'. Refute it at one input. -/
def pscFillsWrong : ChangeSpec := { name := "pscFills", fn := fun _ => fun
  | [d1, d2, d3] => { results := [.lit (.bool false)], args := [d1, d2, d3] }
  | _ => none }
def PscFillsWrongFalsely : Prop := pscFillsRow.holds Tryd.pinned (OpenSpec.ofChange pscFillsWrong)

/-- 'dormerlaw11.PscDrops': WHATEVER THE INPUT: true; the input reads as it did. -/
def pscDropsSpec : ChangeSpec := { name := "pscDrops", fn := fun _ => fun
  | [d1, d2, d3] => { results := [.lit (.bool true)], args := [d1, d2, d3] }
  | _ => none }
def pscDropsRow : OpenClaim := { program := "ytiihhlmddmicjaadoor", sum := "d394978f749ae1a3c4afa8112ef380be3345b297877dd664f35790381f57d9f5", func := "dormer/dormerlaw11.PscDrops", spec := "pscDrops", named := ["dormer/va.shifts"], plainKeys := false, apart := false, laid := [("dormer/va.shifts", laid_dormer_va_shifts)] }
def PscDropsSaid : Prop := pscDropsRow.holds Tryd.pinned (OpenSpec.ofChange pscDropsSpec)

/-- ITS FALSE NEIGHBOUR: 'it returns false'. Refute it at one input. -/
def pscDropsWrong : ChangeSpec := { name := "pscDrops", fn := fun _ => fun
  | [d1, d2, d3] => { results := [.lit (.bool false)], args := [d1, d2, d3] }
  | _ => none }
def PscDropsWrongFalsely : Prop := pscDropsRow.holds Tryd.pinned (OpenSpec.ofChange pscDropsWrong)

/-- 'dormerlaw11.PscRoom': WHATEVER THE INPUT: true; the input reads as it did. -/
def pscRoomSpec : ChangeSpec := { name := "pscRoom", fn := fun _ => fun
  | [d1, d2, d3] => { results := [.lit (.bool true)], args := [d1, d2, d3] }
  | _ => none }
def pscRoomRow : OpenClaim := { program := "ytiihhlmddmicjaadoor", sum := "d394978f749ae1a3c4afa8112ef380be3345b297877dd664f35790381f57d9f5", func := "dormer/dormerlaw11.PscRoom", spec := "pscRoom", named := ["dormer/va.shifts"], plainKeys := false, apart := false, laid := [("dormer/va.shifts", laid_dormer_va_shifts)] }
def PscRoomSaid : Prop := pscRoomRow.holds Tryd.pinned (OpenSpec.ofChange pscRoomSpec)

/-- ITS FALSE NEIGHBOUR: 'it returns false'. Refute it at one input. -/
def pscRoomWrong : ChangeSpec := { name := "pscRoom", fn := fun _ => fun
  | [d1, d2, d3] => { results := [.lit (.bool false)], args := [d1, d2, d3] }
  | _ => none }
def PscRoomWrongFalsely : Prop := pscRoomRow.holds Tryd.pinned (OpenSpec.ofChange pscRoomWrong)

/-- 'dormerlaw11.PscApart': WHATEVER THE INPUT: true; the input reads as it did. -/
def pscApartSpec : ChangeSpec := { name := "pscApart", fn := fun _ => fun
  | [d1, d2, d3] => { results := [.lit (.bool true)], args := [d1, d2, d3] }
  | _ => none }
def pscApartRow : OpenClaim := { program := "ytiihhlmddmicjaadoor", sum := "d394978f749ae1a3c4afa8112ef380be3345b297877dd664f35790381f57d9f5", func := "dormer/dormerlaw11.PscApart", spec := "pscApart", named := ["dormer/va.shifts"], plainKeys := false, apart := false, laid := [("dormer/va.shifts", laid_dormer_va_shifts)] }
def PscApartSaid : Prop := pscApartRow.holds Tryd.pinned (OpenSpec.ofChange pscApartSpec)

/-- ITS FALSE NEIGHBOUR: 'it returns false'. Refute it at one input. -/
def pscApartWrong : ChangeSpec := { name := "pscApart", fn := fun _ => fun
  | [d1, d2, d3] => { results := [.lit (.bool false)], args := [d1, d2, d3] }
  | _ => none }
def PscApartWrongFalsely : Prop := pscApartRow.holds Tryd.pinned (OpenSpec.ofChange pscApartWrong)

/- THE SECOND FORM. 'bulk': how many values and letters a reading holds, each counted each time it is reached (what is shared counts as often as it is met; a slice's spare places count too). A statement '..UptoSaid' is the law's where the arguments, and the package variables that the reading takes, are together of bulk at most 1048576: NARROWER than '..Said'. Prove '..Said' where nothing that the law and all that it calls make is longer than what came in: it says more and counts as full. Else prove '..UptoSaid'. A law counts once. -/
mutual
def uptoBulk {H : Type} : DataW H → Nat
  | .lit (.string bytes) => bytes.length + 1
  | .lit _ => 1
  | .nil => 1
  | .ptr d => uptoBulk d + 1
  | .slice elems spare => uptoBulkAll elems + uptoBulkAll spare + 1
  | .agg parts => uptoBulkAll parts + 1
  | .iface _ d => uptoBulk d + 1
  | .map entries => uptoBulkEntries entries + 1
  | .held _ => 1
def uptoBulkAll {H : Type} : List (DataW H) → Nat
  | [] => 0
  | d :: r => uptoBulk d + uptoBulkAll r
def uptoBulkEntries {H : Type} : List (Lit × DataW H) → Nat
  | [] => 0
  | x :: r => uptoBulkEntry x + uptoBulkEntries r
def uptoBulkEntry {H : Type} : Lit × DataW H → Nat
  | (.string bytes, d) => bytes.length + uptoBulk d + 1
  | (_, d) => uptoBulk d + 1
 end
def uptoSmall : (H : Type) → List (DataW H) → Bool := fun _ ds => decide (uptoBulkAll ds ≤ 1048576)
def OpenSpec.upto (s : _root_.Go.ChangeSpec) : _root_.Go.OpenSpec := { _root_.Go.OpenSpec.ofChange s with cond := some uptoSmall }

/-- 'dormerlaw11.PscPlays', WHERE WHAT IT READS IS OF BULK AT MOST 1048576: true; the input reads as it did. -/
def pscPlaysUptoRow : OpenClaim := { program := "ytiihhlmddmicjaadoor", sum := "d394978f749ae1a3c4afa8112ef380be3345b297877dd664f35790381f57d9f5", func := "dormer/dormerlaw11.PscPlays", spec := "pscPlays", named := ["dormer/va.shifts"], plainKeys := false, apart := false, laid := [("dormer/va.shifts", laid_dormer_va_shifts)], narrowed := true }
def PscPlaysUptoSaid : Prop := pscPlaysUptoRow.holds Tryd.pinned (OpenSpec.upto pscPlaysSpec)

/-- 'dormerlaw11.PscGoes', WHERE WHAT IT READS IS OF BULK AT MOST 1048576: true; the input reads as it did. -/
def pscGoesUptoRow : OpenClaim := { program := "ytiihhlmddmicjaadoor", sum := "d394978f749ae1a3c4afa8112ef380be3345b297877dd664f35790381f57d9f5", func := "dormer/dormerlaw11.PscGoes", spec := "pscGoes", named := ["dormer/va.shifts"], plainKeys := false, apart := false, laid := [("dormer/va.shifts", laid_dormer_va_shifts)], narrowed := true }
def PscGoesUptoSaid : Prop := pscGoesUptoRow.holds Tryd.pinned (OpenSpec.upto pscGoesSpec)

/-- 'dormerlaw11.PscFills', WHERE WHAT IT READS IS OF BULK AT MOST 1048576: true; the input reads as it did. -/
def pscFillsUptoRow : OpenClaim := { program := "ytiihhlmddmicjaadoor", sum := "d394978f749ae1a3c4afa8112ef380be3345b297877dd664f35790381f57d9f5", func := "dormer/dormerlaw11.PscFills", spec := "pscFills", named := ["dormer/va.shifts"], plainKeys := false, apart := false, laid := [("dormer/va.shifts", laid_dormer_va_shifts)], narrowed := true }
def PscFillsUptoSaid : Prop := pscFillsUptoRow.holds Tryd.pinned (OpenSpec.upto pscFillsSpec)

/-- 'dormerlaw11.PscDrops', WHERE WHAT IT READS IS OF BULK AT MOST 1048576: true; the input reads as it did. -/
def pscDropsUptoRow : OpenClaim := { program := "ytiihhlmddmicjaadoor", sum := "d394978f749ae1a3c4afa8112ef380be3345b297877dd664f35790381f57d9f5", func := "dormer/dormerlaw11.PscDrops", spec := "pscDrops", named := ["dormer/va.shifts"], plainKeys := false, apart := false, laid := [("dormer/va.shifts", laid_dormer_va_shifts)], narrowed := true }
def PscDropsUptoSaid : Prop := pscDropsUptoRow.holds Tryd.pinned (OpenSpec.upto pscDropsSpec)

/-- 'dormerlaw11.PscRoom', WHERE WHAT IT READS IS OF BULK AT MOST 1048576: true; the input reads as it did. -/
def pscRoomUptoRow : OpenClaim := { program := "ytiihhlmddmicjaadoor", sum := "d394978f749ae1a3c4afa8112ef380be3345b297877dd664f35790381f57d9f5", func := "dormer/dormerlaw11.PscRoom", spec := "pscRoom", named := ["dormer/va.shifts"], plainKeys := false, apart := false, laid := [("dormer/va.shifts", laid_dormer_va_shifts)], narrowed := true }
def PscRoomUptoSaid : Prop := pscRoomUptoRow.holds Tryd.pinned (OpenSpec.upto pscRoomSpec)

/-- 'dormerlaw11.PscApart', WHERE WHAT IT READS IS OF BULK AT MOST 1048576: true; the input reads as it did. -/
def pscApartUptoRow : OpenClaim := { program := "ytiihhlmddmicjaadoor", sum := "d394978f749ae1a3c4afa8112ef380be3345b297877dd664f35790381f57d9f5", func := "dormer/dormerlaw11.PscApart", spec := "pscApart", named := ["dormer/va.shifts"], plainKeys := false, apart := false, laid := [("dormer/va.shifts", laid_dormer_va_shifts)], narrowed := true }
def PscApartUptoSaid : Prop := pscApartUptoRow.holds Tryd.pinned (OpenSpec.upto pscApartSpec)

end Rows
end Go.Proofs.YtiihhlmddmicjaaDoor
