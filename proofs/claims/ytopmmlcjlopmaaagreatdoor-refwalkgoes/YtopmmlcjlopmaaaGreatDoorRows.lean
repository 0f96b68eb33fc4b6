/-
  NARROWER THAN 'FOR EVERY INPUT', by the rows' own cells (each row's printed sentence says how): RefwalkGoes: laid · RefwalkFaults: laid · RefwalkAgain: laid · RefwalkSets: laid.
  DERIVED. THE GIVEN ROWS OF THIS SEAT. 4 by the template 'for every input the law returns true; each argument reads behind the call as it read before'; 0 by the template 'total and deterministic' (their statements: YtopmmlcjlopmaaaGreatDoorTotals.lean).
  GIVEN WITH THE SEED: the statements are not yours to turn. If you find one false, say at which input.
  Laid BY PROGRAM, IN A SANDBOX (cutbox-rows.mjs): the forced cells as the released guide's own fill.sh prints them over the translation 4f3058b29de0156a… (all of the seat's roots in one cut). By AI agents, Wed Nov 11 2026. No macro, syntax, notation, axiom, sorry.
-/
import Derived.Test.YtopmmlcjlopmaaaGreatDoorChecked
import GoSem.Claim
import GoSem.ClaimJoined
import GoSem.ClaimMapViews
import Derived.JoinedTies
import Derived.KernelRfl
namespace Go.Proofs.YtopmmlcjlopmaaaGreatDoor
/- THE CELL 'sum', in the pinned program and in every row, IS THE sha256 OF THE DUMP (.gsa) THAT YtopmmlcjlopmaaaGreatDoorProg.lean LOADS. Nothing in Lean hashes anything: it is a label: what it is worth is what the hold of that sum in a sandbox is worth. -/
noncomputable def Tryz.pinned : Pinned := { name := "ytopmmlcjlopmaaagreatdoor", sum := "4f3058b29de0156a5888f1673b084a1dd9810d1da7d692997caba46232f08a60", checked := Tryz.checked }
namespace Rows
def none {H : Type} : Left H := { results := [], args := [] }

/- WHAT THE LISTED PACKAGE-LEVEL VARIABLES READ AS WHEN THE CALL BEGINS. Each datum BY PROGRAM (the guide's laid-datum.mjs) off the statement by which the dump's own 'gosem.cut.vars' lays the variable. In a bare row this is a premise. The card (YtopmmlcjlopmaaaGreatDoorCards.lean) ties it to the program's text. -/
def laid_dormer_va_shifts {H : Type} : DataW H := .agg [.lit (.int .i64 12), .lit (.int .i64 21), .lit (.int .i64 30), .lit (.int .i64 39)]
def laid_errors_errorType {H : Type} : DataW H := .iface "internal/reflectlite.rtype" (.agg [.ptr (.lit (.string [101, 114, 114, 111, 114]))])

/-- 'dormerlaw09.RefwalkGoes': WHATEVER THE INPUT: true; the input reads as it did. -/
def refwalkGoesSpec : ChangeSpec := { name := "refwalkGoes", fn := fun _ => fun
  | [d1, d2, d3] => { results := [.lit (.bool true)], args := [d1, d2, d3] }
  | _ => none }
def refwalkGoesRow : OpenClaim := { program := "ytopmmlcjlopmaaagreatdoor", sum := "4f3058b29de0156a5888f1673b084a1dd9810d1da7d692997caba46232f08a60", func := "dormer/dormerlaw09.RefwalkGoes", spec := "refwalkGoes", inPlace := ["internal/reflectlite.ValueOf", "(internal/reflectlite.Value).Type", "(internal/reflectlite.Value).IsNil", "internal/reflectlite.TypeOf", "(internal/reflectlite.Value).Elem", "(internal/reflectlite.Value).Set"], unfollowed := true, recurses := true, named := ["dormer/va.shifts", "errors.errorType"], apart := false, laid := [("dormer/va.shifts", laid_dormer_va_shifts), ("errors.errorType", laid_errors_errorType)] }
def RefwalkGoesSaid : Prop := refwalkGoesRow.holds Tryz.pinned (OpenSpec.ofChange refwalkGoesSpec)

/-- ITS FALSE NEIGHBOUR: 'it returns false'. Refute it at one input. -/
def refwalkGoesWrong : ChangeSpec := { name := "refwalkGoes", fn := fun _ => fun
  | [d1, d2, d3] => { results := [.lit (.bool false)], args := [d1, d2, d3] }
  | _ => none }
def RefwalkGoesWrongFalsely : Prop := refwalkGoesRow.holds Tryz.pinned (OpenSpec.ofChange refwalkGoesWrong)

/-- 'dormerlaw09.RefwalkFaults': WHATEVER THE INPUT: true; the input reads as it did. -/
def refwalkFaultsSpec : ChangeSpec := { name := "refwalkFaults", fn := fun _ => fun
  | [d1, d2, d3] => { results := [.lit (.bool true)], args := [d1, d2, d3] }
  | _ => none }
def refwalkFaultsRow : OpenClaim := { program := "ytopmmlcjlopmaaagreatdoor", sum := "4f3058b29de0156a5888f1673b084a1dd9810d1da7d692997caba46232f08a60", func := "dormer/dormerlaw09.RefwalkFaults", spec := "refwalkFaults", inPlace := ["internal/reflectlite.ValueOf", "(internal/reflectlite.Value).Type", "(internal/reflectlite.Value).IsNil", "internal/reflectlite.TypeOf", "(internal/reflectlite.Value).Elem", "(internal/reflectlite.Value).Set"], unfollowed := true, recurses := true, named := ["dormer/va.shifts", "errors.errorType"], apart := false, laid := [("dormer/va.shifts", laid_dormer_va_shifts), ("errors.errorType", laid_errors_errorType)] }
def RefwalkFaultsSaid : Prop := refwalkFaultsRow.holds Tryz.pinned (OpenSpec.ofChange refwalkFaultsSpec)

/-- ITS FALSE NEIGHBOUR: 'it returns false'. Refute it at one input. -/
def refwalkFaultsWrong : ChangeSpec := { name := "refwalkFaults", fn := fun _ => fun
  | [d1, d2, d3] => { results := [.lit (.bool false)], args := [d1, d2, d3] }
  | _ => none }
def RefwalkFaultsWrongFalsely : Prop := refwalkFaultsRow.holds Tryz.pinned (OpenSpec.ofChange refwalkFaultsWrong)

/-- 'dormerlaw09.RefwalkAgain': WHATEVER THE INPUT: true; the input reads as it did. -/
def refwalkAgainSpec : ChangeSpec := { name := "refwalkAgain", fn := fun _ => fun
  | [d1, d2, d3] => { results := [.lit (.bool true)], args := [d1, d2, d3] }
  | _ => none }
def refwalkAgainRow : OpenClaim := { program := "ytopmmlcjlopmaaagreatdoor", sum := "4f3058b29de0156a5888f1673b084a1dd9810d1da7d692997caba46232f08a60", func := "dormer/dormerlaw09.RefwalkAgain", spec := "refwalkAgain", inPlace := ["internal/reflectlite.ValueOf", "(internal/reflectlite.Value).Type", "(internal/reflectlite.Value).IsNil", "internal/reflectlite.TypeOf", "(internal/reflectlite.Value).Elem", "(internal/reflectlite.Value).Set"], unfollowed := true, recurses := true, named := ["dormer/va.shifts", "errors.errorType"], apart := false, laid := [("dormer/va.shifts", laid_dormer_va_shifts), ("errors.errorType", laid_errors_errorType)] }
def RefwalkAgainSaid : Prop := refwalkAgainRow.holds Tryz.pinned (OpenSpec.ofChange refwalkAgainSpec)

/-- ITS FALSE NEIGHBOUR: 'it returns false'. Refute it at one input. -/
def refwalkAgainWrong : ChangeSpec := { name := "refwalkAgain", fn := fun _ => fun
  | [d1, d2, d3] => { results := [.lit (.bool false)], args := [d1, d2, d3] }
  | _ => none }
def RefwalkAgainWrongFalsely : Prop := refwalkAgainRow.holds Tryz.pinned (OpenSpec.ofChange refwalkAgainWrong)

/-- 'dormerlaw09.RefwalkSets': WHATEVER THE INPUT: true; the input reads as it did. -/
def refwalkSetsSpec : ChangeSpec := { name := "refwalkSets", fn := fun _ => fun
  | [d1, d2, d3] => { results := [.lit (.bool true)], args := [d1, d2, d3] }
  | _ => none }
def refwalkSetsRow : OpenClaim := { program := "ytopmmlcjlopmaaagreatdoor", sum := "4f3058b29de0156a5888f1673b084a1dd9810d1da7d692997caba46232f08a60", func := "dormer/dormerlaw09.RefwalkSets", spec := "refwalkSets", inPlace := ["internal/reflectlite.ValueOf", "(internal/reflectlite.Value).Type", "(internal/reflectlite.Value).IsNil", "internal/reflectlite.TypeOf", "(internal/reflectlite.Value).Elem", "(internal/reflectlite.Value).Set"], unfollowed := true, recurses := true, named := ["dormer/va.shifts", "errors.errorType"], apart := false, laid := [("dormer/va.shifts", laid_dormer_va_shifts), ("errors.errorType", laid_errors_errorType)] }
def RefwalkSetsSaid : Prop := refwalkSetsRow.holds Tryz.pinned (OpenSpec.ofChange refwalkSetsSpec)

/-- ITS FALSE NEIGHBOUR: 'it returns false'. Refute it at one input. -/
def refwalkSetsWrong : ChangeSpec := { name := "refwalkSets", fn := fun _ => fun
  | [d1, d2, d3] => { results := [.lit (.bool false)], args := [d1, d2, d3] }
  | _ => none }
def RefwalkSetsWrongFalsely : Prop := refwalkSetsRow.holds Tryz.pinned (OpenSpec.ofChange refwalkSetsWrong)

/- THE SECOND FORM. 'bulk': how many values and letters a reading holds, each counted each time it is reached (what is shared counts as often as it is met; a slice's spare places count too). A statement '..UptoSaid' is the law's where the arguments, and the package variables that the reading takes, are together of bulk at most 1048576: NARROWER than '..Said'. Prove '..Said' where nothing that the law and all that it calls make is longer than what came in: it says more and counts as full. Else prove '..UptoSaid'. A law counts once. -/
mutual
def uptoBulk {H : Type} : DataW H → Nat
  | .lit (.string bytes) => bytes.length + 1
  | .lit _ => 1
  | .nil => 1
  | .ptr d => uptoBulk d + 1
  | .slice elems spare => uptoBulkAll elems + uptoBulkAll spare + 1
  | .agg parts => uptoBulkAll parts + 1
  | .iface _ d => uptoBulk d + 1
  | .map entries => uptoBulkEntries entries + 1
  | .held _ => 1
def uptoBulkAll {H : Type} : List (DataW H) → Nat
  | [] => 0
  | d :: r => uptoBulk d + uptoBulkAll r
def uptoBulkEntries {H : Type} : List (Lit × DataW H) → Nat
  | [] => 0
  | x :: r => uptoBulkEntry x + uptoBulkEntries r
def uptoBulkEntry {H : Type} : Lit × DataW H → Nat
  | (.string bytes, d) => bytes.length + uptoBulk d + 1
  | (_, d) => uptoBulk d + 1
 end
def uptoSmall : (H : Type) → List (DataW H) → Bool := fun _ ds => decide (uptoBulkAll ds ≤ 1048576)
def OpenSpec.upto (s : _root_.Go.ChangeSpec) : _root_.Go.OpenSpec := { _root_.Go.OpenSpec.ofChange s with cond := some uptoSmall }

/-- 'dormerlaw09.RefwalkGoes', WHERE WHAT IT READS IS OF BULK AT MOST 1048576: true; the input reads as it did. -/
def refwalkGoesUptoRow : OpenClaim := { program := "ytopmmlcjlopmaaagreatdoor", sum := "4f3058b29de0156a5888f1673b084a1dd9810d1da7d692997caba46232f08a60", func := "dormer/dormerlaw09.RefwalkGoes", spec := "refwalkGoes", inPlace := ["internal/reflectlite.ValueOf", "(internal/reflectlite.Value).Type", "(internal/reflectlite.Value).IsNil", "internal/reflectlite.TypeOf", "(internal/reflectlite.Value).Elem", "(internal/reflectlite.Value).Set"], unfollowed := true, recurses := true, named := ["dormer/va.shifts", "errors.errorType"], apart := false, laid := [("dormer/va.shifts", laid_dormer_va_shifts), ("errors.errorType", laid_errors_errorType)], narrowed := true }
def RefwalkGoesUptoSaid : Prop := refwalkGoesUptoRow.holds Tryz.pinned (OpenSpec.upto refwalkGoesSpec)

/-- 'dormerlaw09.RefwalkFaults', WHERE WHAT IT READS IS OF BULK AT MOST 1048576: true; the input reads as it did. -/
def refwalkFaultsUptoRow : OpenClaim := { program := "ytopmmlcjlopmaaagreatdoor", sum := "4f3058b29de0156a5888f1673b084a1dd9810d1da7d692997caba46232f08a60", func := "dormer/dormerlaw09.RefwalkFaults", spec := "refwalkFaults", inPlace := ["internal/reflectlite.ValueOf", "(internal/reflectlite.Value).Type", "(internal/reflectlite.Value).IsNil", "internal/reflectlite.TypeOf", "(internal/reflectlite.Value).Elem", "(internal/reflectlite.Value).Set"], unfollowed := true, recurses := true, named := ["dormer/va.shifts", "errors.errorType"], apart := false, laid := [("dormer/va.shifts", laid_dormer_va_shifts), ("errors.errorType", laid_errors_errorType)], narrowed := true }
def RefwalkFaultsUptoSaid : Prop := refwalkFaultsUptoRow.holds Tryz.pinned (OpenSpec.upto refwalkFaultsSpec)

/-- 'dormerlaw09.RefwalkAgain', WHERE WHAT IT READS IS OF BULK AT MOST 1048576: true; the input reads as it did. -/
def refwalkAgainUptoRow : OpenClaim := { program := "ytopmmlcjlopmaaagreatdoor", sum := "4f3058b29de0156a5888f1673b084a1dd9810d1da7d692997caba46232f08a60", func := "dormer/dormerlaw09.RefwalkAgain", spec := "refwalkAgain", inPlace := ["internal/reflectlite.ValueOf", "(internal/reflectlite.Value).Type", "(internal/reflectlite.Value).IsNil", "internal/reflectlite.TypeOf", "(internal/reflectlite.Value).Elem", "(internal/reflectlite.Value).Set"], unfollowed := true, recurses := true, named := ["dormer/va.shifts", "errors.errorType"], apart := false, laid := [("dormer/va.shifts", laid_dormer_va_shifts), ("errors.errorType", laid_errors_errorType)], narrowed := true }
def RefwalkAgainUptoSaid : Prop := refwalkAgainUptoRow.holds Tryz.pinned (OpenSpec.upto refwalkAgainSpec)

/-- 'dormerlaw09.RefwalkSets', WHERE WHAT IT READS IS OF BULK AT MOST 1048576: true; the input reads as it did. -/
def refwalkSetsUptoRow : OpenClaim := { program := "ytopmmlcjlopmaaagreatdoor", sum := "4f3058b29de0156a5888f1673b084a1dd9810d1da7d692997caba46232f08a60", func := "dormer/dormerlaw09.RefwalkSets", spec := "refwalkSets", inPlace := ["internal/reflectlite.ValueOf", "(internal/reflectlite.Value).Type", "(internal/reflectlite.Value).IsNil", "internal/reflectlite.TypeOf", "(internal/reflectlite.Value).Elem", "(internal/reflectlite.Value).Set"], unfollowed := true, recurses := true, named := ["dormer/va.shifts", "errors.errorType"], apart := false, laid := [("dormer/va.shifts", laid_dormer_va_shifts), ("errors.errorType", laid_errors_errorType)], narrowed := true }
def RefwalkSetsUptoSaid : Prop := refwalkSetsUptoRow.holds Tryz.pinned (OpenSpec.upto refwalkSetsSpec)

end Rows
end Go.Proofs.YtopmmlcjlopmaaaGreatDoor
