/-
  NARROWER THAN 'FOR EVERY INPUT', by the rows' own cells (each row's printed sentence says how): VaTells: laid · VaJoins: laid · VaBack: laid · VaPages: laid · VaNext: laid · VaNone: laid.
  DERIVED. THE GIVEN ROWS OF THIS SEAT. 6 by the template 'for every input the law returns true; each argument reads behind the call as it read before'; 0 by the template 'total and deterministic' (their statements: YtdmaamhjcoaigaaDoorTotals.lean).
  GIVEN WITH THE SEED: the statements are not yours to turn. If you find one false, say at which input.
  Laid BY PROGRAM, IN A SANDBOX (cutbox-rows.mjs): the forced cells as the released guide's own fill.sh prints them over the translation c66eb37119d678e4… (all of the seat's roots in one cut). By AI agents, Wed Nov 11 2026. No macro, syntax, notation, axiom, sorry.
-/
import Derived.Test.YtdmaamhjcoaigaaDoorChecked
import GoSem.Claim
import GoSem.ClaimJoined
import GoSem.ClaimMapViews
import Derived.JoinedTies
import Derived.KernelRfl
namespace Go.Proofs.YtdmaamhjcoaigaaDoor
/- THE CELL 'sum', in the pinned program and in every row, IS THE sha256 OF THE DUMP (.gsa) THAT YtdmaamhjcoaigaaDoorProg.lean LOADS. Nothing in Lean hashes anything: it is a label: what it is worth is what the hold of that sum in a sandbox is worth. -/
noncomputable def Tryd.pinned : Pinned := { name := "ytdmaamhjcoaigaadoor", sum := "c66eb37119d678e4d79cb5e49079c97e298643c551305510d528c0e84af8ca12", checked := Tryd.checked }
namespace Rows
def none {H : Type} : Left H := { results := [], args := [] }

/- WHAT THE LISTED PACKAGE-LEVEL VARIABLES READ AS WHEN THE CALL BEGINS. Each datum BY PROGRAM (the guide's laid-datum.mjs) off the statement by which the dump's own 'gosem.cut.vars' lays the variable. In a bare row this is a premise. The card (YtdmaamhjcoaigaaDoorCards.lean) ties it to the program's text. -/
def laid_dormer_va_shifts {H : Type} : DataW H := .agg [.lit (.int .i64 12), .lit (.int .i64 21), .lit (.int .i64 30), .lit (.int .i64 39)]

/-- 'dormerlaw03.VaTells': WHATEVER THE INPUT: true; the input reads as it did. -/
def vaTellsSpec : ChangeSpec := { name := "vaTells", fn := fun _ => fun
  | [d1, d2] => { results := [.lit (.bool true)], args := [d1, d2] }
  | _ => none }
def vaTellsRow : OpenClaim := { program := "ytdmaamhjcoaigaadoor", sum := "c66eb37119d678e4d79cb5e49079c97e298643c551305510d528c0e84af8ca12", func := "dormer/dormerlaw03.VaTells", spec := "vaTells", named := ["dormer/va.shifts"], apart := false, laid := [("dormer/va.shifts", laid_dormer_va_shifts)] }
def VaTellsSaid : Prop := vaTellsRow.holds Tryd.pinned (OpenSpec.ofChange vaTellsSpec)

/-- ITS FALSE NEIGHBOUR: 'it returns false'. Refute it at one input. -/
def vaTellsWrong : ChangeSpec := { name := "vaTells", fn := fun _ => fun
  | [d1, d2] => { results := [.lit (.bool false)], args := [d1, d2] }
  | _ => none }
def VaTellsWrongFalsely : Prop := vaTellsRow.holds Tryd.pinned (OpenSpec.ofChange vaTellsWrong)

/-- 'dormerlaw03.VaJoins': WHATEVER THE INPUT: true; the input reads as it did. -/
def vaJoinsSpec : ChangeSpec := { name := "vaJoins", fn := fun _ => fun
  | [d1, d2] => { results := [.lit (.bool true)], args := [d1, d2] }
  | _ => none }
def vaJoinsRow : OpenClaim := { program := "ytdmaamhjcoaigaadoor", sum := "c66eb37119d678e4d79cb5e49079c97e298643c551305510d528c0e84af8ca12", func := "dormer/dormerlaw03.VaJoins", spec := "vaJoins", named := ["dormer/va.shifts"], apart := false, laid := [("dormer/va.shifts", laid_dormer_va_shifts)] }
def VaJoinsSaid : Prop := vaJoinsRow.holds Tryd.pinned (OpenSpec.ofChange vaJoinsSpec)

/-- ITS FALSE NEIGHBOUR: 'it returns false'. Refute it at one input. -/
def vaJoinsWrong : ChangeSpec := { name := "vaJoins", fn := fun _ => fun
  | [d1, d2] => { results := [.lit (.bool false)], args := [d1, d2] }
  | _ => none }
def VaJoinsWrongFalsely : Prop := vaJoinsRow.holds Tryd.pinned (OpenSpec.ofChange vaJoinsWrong)

/-- 'dormerlaw03.VaBack': WHATEVER THE INPUT: true; the input reads as it did. -/
def vaBackSpec : ChangeSpec := { name := "vaBack", fn := fun _ => fun
  | [d1, d2] => { results := [.lit (.bool true)], args := [d1, d2] }
  | _ => none }
def vaBackRow : OpenClaim := { program := "ytdmaamhjcoaigaadoor", sum := "c66eb37119d678e4d79cb5e49079c97e298643c551305510d528c0e84af8ca12", func := "dormer/dormerlaw03.VaBack", spec := "vaBack", named := ["dormer/va.shifts"], apart := false, laid := [("dormer/va.shifts", laid_dormer_va_shifts)] }
def VaBackSaid : Prop := vaBackRow.holds Tryd.pinned (OpenSpec.ofChange vaBackSpec)

/-- ITS FALSE NEIGHBOUR: 'it returns false'. Refute it at one input. -/
def vaBackWrong : ChangeSpec := { name := "vaBack", fn := fun _ => fun
  | [d1, d2] => { results := [.lit (.bool false)], args := [d1, d2] }
  | _ => none }
def VaBackWrongFalsely : Prop := vaBackRow.holds Tryd.pinned (OpenSpec.ofChange vaBackWrong)

/-- 'dormerlaw03.VaPages': WHATEVER THE INPUT: true; the input reads as it did. -/
def vaPagesSpec : ChangeSpec := { name := "vaPages", fn := fun _ => fun
  | [d1, d2, d3] => { results := [.lit (.bool true)], args := [d1, d2, d3] }
  | _ => none }
def vaPagesRow : OpenClaim := { program := "ytdmaamhjcoaigaadoor", sum := "c66eb37119d678e4d79cb5e49079c97e298643c551305510d528c0e84af8ca12", func := "dormer/dormerlaw03.VaPages", spec := "vaPages", named := ["dormer/va.shifts"], apart := false, laid := [("dormer/va.shifts", laid_dormer_va_shifts)] }
def VaPagesSaid : Prop := vaPagesRow.holds Tryd.pinned (OpenSpec.ofChange vaPagesSpec)

/-- ITS FALSE NEIGHBOUR: 'it returns false'. Refute it at one input. -/
def vaPagesWrong : ChangeSpec := { name := "vaPages", fn := fun _ => fun
  | [d1, d2, d3] => { results := [.lit (.bool false)], args := [d1, d2, d3] }
  | _ => none }
def VaPagesWrongFalsely : Prop := vaPagesRow.holds Tryd.pinned (OpenSpec.ofChange vaPagesWrong)

/-- 'dormerlaw03.VaNext': WHATEVER THE INPUT: true; the input reads as it did. -/
def vaNextSpec : ChangeSpec := { name := "vaNext", fn := fun _ => fun
  | [d] => { results := [.lit (.bool true)], args := [d] }
  | _ => none }
def vaNextRow : OpenClaim := { program := "ytdmaamhjcoaigaadoor", sum := "c66eb37119d678e4d79cb5e49079c97e298643c551305510d528c0e84af8ca12", func := "dormer/dormerlaw03.VaNext", spec := "vaNext", named := ["dormer/va.shifts"], apart := false, laid := [("dormer/va.shifts", laid_dormer_va_shifts)] }
def VaNextSaid : Prop := vaNextRow.holds Tryd.pinned (OpenSpec.ofChange vaNextSpec)

/-- ITS FALSE NEIGHBOUR: 'it returns false'. Refute it at one input. -/
def vaNextWrong : ChangeSpec := { name := "vaNext", fn := fun _ => fun
  | [d] => { results := [.lit (.bool false)], args := [d] }
  | _ => none }
def VaNextWrongFalsely : Prop := vaNextRow.holds Tryd.pinned (OpenSpec.ofChange vaNextWrong)

/-- 'dormerlaw03.VaNone': WHATEVER THE INPUT: true; the input reads as it did. -/
def vaNoneSpec : ChangeSpec := { name := "vaNone", fn := fun _ => fun
  | [d1, d2] => { results := [.lit (.bool true)], args := [d1, d2] }
  | _ => none }
def vaNoneRow : OpenClaim := { program := "ytdmaamhjcoaigaadoor", sum := "c66eb37119d678e4d79cb5e49079c97e298643c551305510d528c0e84af8ca12", func := "dormer/dormerlaw03.VaNone", spec := "vaNone", named := ["dormer/va.shifts"], apart := false, laid := [("dormer/va.shifts", laid_dormer_va_shifts)] }
def VaNoneSaid : Prop := vaNoneRow.holds Tryd.pinned (OpenSpec.ofChange vaNoneSpec)

/-- ITS FALSE NEIGHBOUR: 'it returns false'. Refute it at one input. -/
def vaNoneWrong : ChangeSpec := { name := "vaNone", fn := fun _ => fun
  | [d1, d2] => { results := [.lit (.bool false)], args := [d1, d2] }
  | _ => none }
def VaNoneWrongFalsely : Prop := vaNoneRow.holds Tryd.pinned (OpenSpec.ofChange vaNoneWrong)

/- THE SECOND FORM. 'bulk': how many values and letters a reading holds, each counted each time it is reached (what is shared counts as often as it is met; a slice's spare places count too). A statement '..UptoSaid' is the law's where the arguments, and the package variables that the reading takes, are together of bulk at most 1048576: NARROWER than '..Said'. Prove '..Said' where nothing that the law and all that it calls make is longer than what came in: it says more and counts as full. Else prove '..UptoSaid'. A law counts once. -/
mutual
def uptoBulk {H : Type} : DataW H → Nat
  | .lit (.string bytes) => bytes.length + 1
  | .lit _ => 1
  | .nil => 1
  | .ptr d => uptoBulk d + 1
  | .slice elems spare => uptoBulkAll elems + uptoBulkAll spare + 1
  | .agg parts => uptoBulkAll parts + 1
  | .iface _ d => uptoBulk d + 1
  | .map entries => uptoBulkEntries entries + 1
  | .held _ => 1
def uptoBulkAll {H : Type} : List (DataW H) → Nat
  | [] => 0
  | d :: r => uptoBulk d + uptoBulkAll r
def uptoBulkEntries {H : Type} : List (Lit × DataW H) → Nat
  | [] => 0
  | x :: r => uptoBulkEntry x + uptoBulkEntries r
def uptoBulkEntry {H : Type} : Lit × DataW H → Nat
  | (.string bytes, d) => bytes.length + uptoBulk d + 1
  | (_, d) => uptoBulk d + 1
 end
def uptoSmall : (H : Type) → List (DataW H) → Bool := fun _ ds => decide (uptoBulkAll ds ≤ 1048576)
def OpenSpec.upto (s : _root_.Go.ChangeSpec) : _root_.Go.OpenSpec := { _root_.Go.OpenSpec.ofChange s with cond := some uptoSmall }

/-- 'dormerlaw03.VaTells', WHERE WHAT IT READS IS OF BULK AT MOST 1048576: true; the input reads as it did. -/
def vaTellsUptoRow : OpenClaim := { program := "ytdmaamhjcoaigaadoor", sum := "c66eb37119d678e4d79cb5e49079c97e298643c551305510d528c0e84af8ca12", func := "dormer/dormerlaw03.VaTells", spec := "vaTells", named := ["dormer/va.shifts"], apart := false, laid := [("dormer/va.shifts", laid_dormer_va_shifts)], narrowed := true }
def VaTellsUptoSaid : Prop := vaTellsUptoRow.holds Tryd.pinned (OpenSpec.upto vaTellsSpec)

/-- 'dormerlaw03.VaJoins', WHERE WHAT IT READS IS OF BULK AT MOST 1048576: true; the input reads as it did. -/
def vaJoinsUptoRow : OpenClaim := { program := "ytdmaamhjcoaigaadoor", sum := "c66eb37119d678e4d79cb5e49079c97e298643c551305510d528c0e84af8ca12", func := "dormer/dormerlaw03.VaJoins", spec := "vaJoins", named := ["dormer/va.shifts"], apart := false, laid := [("dormer/va.shifts", laid_dormer_va_shifts)], narrowed := true }
def VaJoinsUptoSaid : Prop := vaJoinsUptoRow.holds Tryd.pinned (OpenSpec.upto vaJoinsSpec)

/-- 'dormerlaw03.VaBack', WHERE WHAT IT READS IS OF BULK AT MOST 1048576: true; the input reads as it did. -/
def vaBackUptoRow : OpenClaim := { program := "ytdmaamhjcoaigaadoor", sum := "c66eb37119d678e4d79cb5e49079c97e298643c551305510d528c0e84af8ca12", func := "dormer/dormerlaw03.VaBack", spec := "vaBack", named := ["dormer/va.shifts"], apart := false, laid := [("dormer/va.shifts", laid_dormer_va_shifts)], narrowed := true }
def VaBackUptoSaid : Prop := vaBackUptoRow.holds Tryd.pinned (OpenSpec.upto vaBackSpec)

/-- 'dormerlaw03.VaPages', WHERE WHAT IT READS IS OF BULK AT MOST 1048576: true; the input reads as it did. -/
def vaPagesUptoRow : OpenClaim := { program := "ytdmaamhjcoaigaadoor", sum := "c66eb37119d678e4d79cb5e49079c97e298643c551305510d528c0e84af8ca12", func := "dormer/dormerlaw03.VaPages", spec := "vaPages", named := ["dormer/va.shifts"], apart := false, laid := [("dormer/va.shifts", laid_dormer_va_shifts)], narrowed := true }
def VaPagesUptoSaid : Prop := vaPagesUptoRow.holds Tryd.pinned (OpenSpec.upto vaPagesSpec)

/-- 'dormerlaw03.VaNext', WHERE WHAT IT READS IS OF BULK AT MOST 1048576: true; the input reads as it did. -/
def vaNextUptoRow : OpenClaim := { program := "ytdmaamhjcoaigaadoor", sum := "c66eb37119d678e4d79cb5e49079c97e298643c551305510d528c0e84af8ca12", func := "dormer/dormerlaw03.VaNext", spec := "vaNext", named := ["dormer/va.shifts"], apart := false, laid := [("dormer/va.shifts", laid_dormer_va_shifts)], narrowed := true }
def VaNextUptoSaid : Prop := vaNextUptoRow.holds Tryd.pinned (OpenSpec.upto vaNextSpec)

/-- 'dormerlaw03.VaNone', WHERE WHAT IT READS IS OF BULK AT MOST 1048576: true; the input reads as it did. -/
def vaNoneUptoRow : OpenClaim := { program := "ytdmaamhjcoaigaadoor", sum := "c66eb37119d678e4d79cb5e49079c97e298643c551305510d528c0e84af8ca12", func := "dormer/dormerlaw03.VaNone", spec := "vaNone", named := ["dormer/va.shifts"], apart := false, laid := [("dormer/va.shifts", laid_dormer_va_shifts)], narrowed := true }
def VaNoneUptoSaid : Prop := vaNoneUptoRow.holds Tryd.pinned (OpenSpec.upto vaNoneSpec)

end Rows
end Go.Proofs.YtdmaamhjcoaigaaDoor
