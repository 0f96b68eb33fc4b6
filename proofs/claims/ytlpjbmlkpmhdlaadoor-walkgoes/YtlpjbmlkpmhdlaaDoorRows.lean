/-
  NARROWER THAN 'FOR EVERY INPUT', by the rows' own cells (each row's printed sentence says how): WalkGoes: laid · WalkTop: laid · WalkFlags: laid · WalkOn: laid · WalkSteps: laid · WalkMarks: laid.
  DERIVED. THE GIVEN ROWS OF THIS SEAT. 6 by the template 'for every input the law returns true; each argument reads behind the call as it read before'; 0 by the template 'total and deterministic' (their statements: YtlpjbmlkpmhdlaaDoorTotals.lean).
  GIVEN WITH THE SEED: the statements are not yours to turn. If you find one false, say at which input.
  Laid BY PROGRAM, IN A SANDBOX (cutbox-rows.mjs): the forced cells as the released guide's own fill.sh prints them over the translation f8186f7f0818c9c1… (all of the seat's roots in one cut). By AI agents, Wed Nov 11 2026. No macro, syntax, notation, axiom, sorry.
-/
import Derived.Test.YtlpjbmlkpmhdlaaDoorChecked
import GoSem.Claim
import GoSem.ClaimJoined
import GoSem.ClaimMapViews
import Derived.JoinedTies
import Derived.KernelRfl
namespace Go.Proofs.YtlpjbmlkpmhdlaaDoor
/- THE CELL 'sum', in the pinned program and in every row, IS THE sha256 OF THE DUMP (.gsa) THAT YtlpjbmlkpmhdlaaDoorProg.lean LOADS. Nothing in Lean hashes anything: it is a label: what it is worth is what the hold of that sum in a sandbox is worth. -/
noncomputable def Tryd.pinned : Pinned := { name := "ytlpjbmlkpmhdlaadoor", sum := "f8186f7f0818c9c1b544b79460b0f424c68567f8e49dac6d985466e40d09e429", checked := Tryd.checked }
namespace Rows
def none {H : Type} : Left H := { results := [], args := [] }

/- WHAT THE LISTED PACKAGE-LEVEL VARIABLES READ AS WHEN THE CALL BEGINS. Each datum BY PROGRAM (the guide's laid-datum.mjs) off the statement by which the dump's own 'gosem.cut.vars' lays the variable. In a bare row this is a premise. The card (YtlpjbmlkpmhdlaaDoorCards.lean) ties it to the program's text. -/
def laid_dormer_va_shifts {H : Type} : DataW H := .agg [.lit (.int .i64 12), .lit (.int .i64 21), .lit (.int .i64 30), .lit (.int .i64 39)]

/-- 'dormerlaw08.WalkGoes': WHATEVER THE INPUT: true; the input reads as it did. -/
def walkGoesSpec : ChangeSpec := { name := "walkGoes", fn := fun _ => fun
  | [d1, d2, d3] => { results := [.lit (.bool true)], args := [d1, d2, d3] }
  | _ => none }
def walkGoesRow : OpenClaim := { program := "ytlpjbmlkpmhdlaadoor", sum := "f8186f7f0818c9c1b544b79460b0f424c68567f8e49dac6d985466e40d09e429", func := "dormer/dormerlaw08.WalkGoes", spec := "walkGoes", named := ["dormer/va.shifts"], apart := false, laid := [("dormer/va.shifts", laid_dormer_va_shifts)] }
def WalkGoesSaid : Prop := walkGoesRow.holds Tryd.pinned (OpenSpec.ofChange walkGoesSpec)

/-- ITS FALSE NEIGHBOUR: 'it returns false'. Refute it at one input. -/
def walkGoesWrong : ChangeSpec := { name := "walkGoes", fn := fun _ => fun
  | [d1, d2, d3] => { results := [.lit (.bool false)], args := [d1, d2, d3] }
  | _ => none }
def WalkGoesWrongFalsely : Prop := walkGoesRow.holds Tryd.pinned (OpenSpec.ofChange walkGoesWrong)

/-- 'dormerlaw08.WalkTop': WHATEVER THE INPUT: true; the input reads as it did. -/
def walkTopSpec : ChangeSpec := { name := "walkTop", fn := fun _ => fun
  | [d1, d2, d3] => { results := [.lit (.bool true)], args := [d1, d2, d3] }
  | _ => none }
def walkTopRow : OpenClaim := { program := "ytlpjbmlkpmhdlaadoor", sum := "f8186f7f0818c9c1b544b79460b0f424c68567f8e49dac6d985466e40d09e429", func := "dormer/dormerlaw08.WalkTop", spec := "walkTop", named := ["dormer/va.shifts"], apart := false, laid := [("dormer/va.shifts", laid_dormer_va_shifts)] }
def WalkTopSaid : Prop := walkTopRow.holds Tryd.pinned (OpenSpec.ofChange walkTopSpec)

/-- ITS FALSE NEIGHBOUR: 'it returns false'. Refute it at one input. -/
def walkTopWrong : ChangeSpec := { name := "walkTop", fn := fun _ => fun
  | [d1, d2, d3] => { results := [.lit (.bool false)], args := [d1, d2, d3] }
  | _ => none }
def WalkTopWrongFalsely : Prop := walkTopRow.holds Tryd.pinned (OpenSpec.ofChange walkTopWrong)

/-- 'dormerlaw08.WalkFlags': WHATEVER THE INPUT: true; the input reads as it did. -/
def walkFlagsSpec : ChangeSpec := { name := "walkFlags", fn := fun _ => fun
  | [d1, d2, d3] => { results := [.lit (.bool true)], args := [d1, d2, d3] }
  | _ => none }
def walkFlagsRow : OpenClaim := { program := "ytlpjbmlkpmhdlaadoor", sum := "f8186f7f0818c9c1b544b79460b0f424c68567f8e49dac6d985466e40d09e429", func := "dormer/dormerlaw08.WalkFlags", spec := "walkFlags", named := ["dormer/va.shifts"], apart := false, laid := [("dormer/va.shifts", laid_dormer_va_shifts)] }
def WalkFlagsSaid : Prop := walkFlagsRow.holds Tryd.pinned (OpenSpec.ofChange walkFlagsSpec)

/-- ITS FALSE NEIGHBOUR: 'it returns false'. Refute it at one input. -/
def walkFlagsWrong : ChangeSpec := { name := "walkFlags", fn := fun _ => fun
  | [d1, d2, d3] => { results := [.lit (.bool false)], args := [d1, d2, d3] }
  | _ => none }
def WalkFlagsWrongFalsely : Prop := walkFlagsRow.holds Tryd.pinned (OpenSpec.ofChange walkFlagsWrong)

/-- 'dormerlaw08.WalkOn': WHATEVER THE INPUT: true; the input reads as it did. -/
def walkOnSpec : ChangeSpec := { name := "walkOn", fn := fun _ => fun
  | [d1, d2, d3] => { results := [.lit (.bool true)], args := [d1, d2, d3] }
  | _ => none }
def walkOnRow : OpenClaim := { program := "ytlpjbmlkpmhdlaadoor", sum := "f8186f7f0818c9c1b544b79460b0f424c68567f8e49dac6d985466e40d09e429", func := "dormer/dormerlaw08.WalkOn", spec := "walkOn", named := ["dormer/va.shifts"], apart := false, laid := [("dormer/va.shifts", laid_dormer_va_shifts)] }
def WalkOnSaid : Prop := walkOnRow.holds Tryd.pinned (OpenSpec.ofChange walkOnSpec)

/-- ITS FALSE NEIGHBOUR: 'it returns false'. Refute it at one input. -/
def walkOnWrong : ChangeSpec := { name := "walkOn", fn := fun _ => fun
  | [d1, d2, d3] => { results := [.lit (.bool false)], args := [d1, d2, d3] }
  | _ => none }
def WalkOnWrongFalsely : Prop := walkOnRow.holds Tryd.pinned (OpenSpec.ofChange walkOnWrong)

/-- 'dormerlaw08.WalkSteps': WHATEVER THE INPUT: true; the input reads as it did. -/
def walkStepsSpec : ChangeSpec := { name := "walkSteps", fn := fun _ => fun
  | [d1, d2, d3] => { results := [.lit (.bool true)], args := [d1, d2, d3] }
  | _ => none }
def walkStepsRow : OpenClaim := { program := "ytlpjbmlkpmhdlaadoor", sum := "f8186f7f0818c9c1b544b79460b0f424c68567f8e49dac6d985466e40d09e429", func := "dormer/dormerlaw08.WalkSteps", spec := "walkSteps", named := ["dormer/va.shifts"], apart := false, laid := [("dormer/va.shifts", laid_dormer_va_shifts)] }
def WalkStepsSaid : Prop := walkStepsRow.holds Tryd.pinned (OpenSpec.ofChange walkStepsSpec)

/-- ITS FALSE NEIGHBOUR: 'it returns false'. Refute it at one input. -/
def walkStepsWrong : ChangeSpec := { name := "walkSteps", fn := fun _ => fun
  | [d1, d2, d3] => { results := [.lit (.bool false)], args := [d1, d2, d3] }
  | _ => none }
def WalkStepsWrongFalsely : Prop := walkStepsRow.holds Tryd.pinned (OpenSpec.ofChange walkStepsWrong)

/-- 'dormerlaw08.WalkMarks': WHATEVER THE INPUT: true; the input reads as it did. -/
def walkMarksSpec : ChangeSpec := { name := "walkMarks", fn := fun _ => fun
  | [d1, d2, d3] => { results := [.lit (.bool true)], args := [d1, d2, d3] }
  | _ => none }
def walkMarksRow : OpenClaim := { program := "ytlpjbmlkpmhdlaadoor", sum := "f8186f7f0818c9c1b544b79460b0f424c68567f8e49dac6d985466e40d09e429", func := "dormer/dormerlaw08.WalkMarks", spec := "walkMarks", unfollowed := true, recurses := true, named := ["dormer/va.shifts"], apart := false, laid := [("dormer/va.shifts", laid_dormer_va_shifts)] }
def WalkMarksSaid : Prop := walkMarksRow.holds Tryd.pinned (OpenSpec.ofChange walkMarksSpec)

/-- ITS FALSE NEIGHBOUR: 'it returns false'. Refute it at one input. -/
def walkMarksWrong : ChangeSpec := { name := "walkMarks", fn := fun _ => fun
  | [d1, d2, d3] => { results := [.lit (.bool false)], args := [d1, d2, d3] }
  | _ => none }
def WalkMarksWrongFalsely : Prop := walkMarksRow.holds Tryd.pinned (OpenSpec.ofChange walkMarksWrong)

/- THE SECOND FORM. 'bulk': how many values and letters a reading holds, each counted each time it is reached (what is shared counts as often as it is met; a slice's spare places count too). A statement '..UptoSaid' is the law's where the arguments, and the package variables that the reading takes, are together of bulk at most 1048576: NARROWER than '..Said'. Prove '..Said' where nothing that the law and all that it calls make is longer than what came in: it says more and counts as full. Else prove '..UptoSaid'. A law counts once. -/
mutual
def uptoBulk {H : Type} : DataW H → Nat
  | .lit (.string bytes) => bytes.length + 1
  | .lit _ => 1
  | .nil => 1
  | .ptr d => uptoBulk d + 1
  | .slice elems spare => uptoBulkAll elems + uptoBulkAll spare + 1
  | .agg parts => uptoBulkAll parts + 1
  | .iface _ d => uptoBulk d + 1
  | .map entries => uptoBulkEntries entries + 1
  | .held _ => 1
def uptoBulkAll {H : Type} : List (DataW H) → Nat
  | [] => 0
  | d :: r => uptoBulk d + uptoBulkAll r
def uptoBulkEntries {H : Type} : List (Lit × DataW H) → Nat
  | [] => 0
  | x :: r => uptoBulkEntry x + uptoBulkEntries r
def uptoBulkEntry {H : Type} : Lit × DataW H → Nat
  | (.string bytes, d) => bytes.length + uptoBulk d + 1
  | (_, d) => uptoBulk d + 1
 end
def uptoSmall : (H : Type) → List (DataW H) → Bool := fun _ ds => decide (uptoBulkAll ds ≤ 1048576)
def OpenSpec.upto (s : _root_.Go.ChangeSpec) : _root_.Go.OpenSpec := { _root_.Go.OpenSpec.ofChange s with cond := some uptoSmall }

/-- 'dormerlaw08.WalkGoes', WHERE WHAT IT READS IS OF BULK AT MOST 1048576: true; the input reads as it did. -/
def walkGoesUptoRow : OpenClaim := { program := "ytlpjbmlkpmhdlaadoor", sum := "f8186f7f0818c9c1b544b79460b0f424c68567f8e49dac6d985466e40d09e429", func := "dormer/dormerlaw08.WalkGoes", spec := "walkGoes", named := ["dormer/va.shifts"], apart := false, laid := [("dormer/va.shifts", laid_dormer_va_shifts)], narrowed := true }
def WalkGoesUptoSaid : Prop := walkGoesUptoRow.holds Tryd.pinned (OpenSpec.upto walkGoesSpec)

/-- 'dormerlaw08.WalkTop', WHERE WHAT IT READS IS OF BULK AT MOST 1048576: true; the input reads as it did. -/
def walkTopUptoRow : OpenClaim := { program := "ytlpjbmlkpmhdlaadoor", sum := "f8186f7f0818c9c1b544b79460b0f424c68567f8e49dac6d985466e40d09e429", func := "dormer/dormerlaw08.WalkTop", spec := "walkTop", named := ["dormer/va.shifts"], apart := false, laid := [("dormer/va.shifts", laid_dormer_va_shifts)], narrowed := true }
def WalkTopUptoSaid : Prop := walkTopUptoRow.holds Tryd.pinned (OpenSpec.upto walkTopSpec)

/-- 'dormerlaw08.WalkFlags', WHERE WHAT IT READS IS OF BULK AT MOST 1048576: true; the input reads as it did. -/
def walkFlagsUptoRow : OpenClaim := { program := "ytlpjbmlkpmhdlaadoor", sum := "f8186f7f0818c9c1b544b79460b0f424c68567f8e49dac6d985466e40d09e429", func := "dormer/dormerlaw08.WalkFlags", spec := "walkFlags", named := ["dormer/va.shifts"], apart := false, laid := [("dormer/va.shifts", laid_dormer_va_shifts)], narrowed := true }
def WalkFlagsUptoSaid : Prop := walkFlagsUptoRow.holds Tryd.pinned (OpenSpec.upto walkFlagsSpec)

/-- 'dormerlaw08.WalkOn', WHERE WHAT IT READS IS OF BULK AT MOST 1048576: true; the input reads as it did. -/
def walkOnUptoRow : OpenClaim := { program := "ytlpjbmlkpmhdlaadoor", sum := "f8186f7f0818c9c1b544b79460b0f424c68567f8e49dac6d985466e40d09e429", func := "dormer/dormerlaw08.WalkOn", spec := "walkOn", named := ["dormer/va.shifts"], apart := false, laid := [("dormer/va.shifts", laid_dormer_va_shifts)], narrowed := true }
def WalkOnUptoSaid : Prop := walkOnUptoRow.holds Tryd.pinned (OpenSpec.upto walkOnSpec)

/-- 'dormerlaw08.WalkSteps', WHERE WHAT IT READS IS OF BULK AT MOST 1048576: true; the input reads as it did. -/
def walkStepsUptoRow : OpenClaim := { program := "ytlpjbmlkpmhdlaadoor", sum := "f8186f7f0818c9c1b544b79460b0f424c68567f8e49dac6d985466e40d09e429", func := "dormer/dormerlaw08.WalkSteps", spec := "walkSteps", named := ["dormer/va.shifts"], apart := false, laid := [("dormer/va.shifts", laid_dormer_va_shifts)], narrowed := true }
def WalkStepsUptoSaid : Prop := walkStepsUptoRow.holds Tryd.pinned (OpenSpec.upto walkStepsSpec)

/-- 'dormerlaw08.WalkMarks', WHERE WHAT IT READS IS OF BULK AT MOST 1048576: true; the input reads as it did. -/
def walkMarksUptoRow : OpenClaim := { program := "ytlpjbmlkpmhdlaadoor", sum := "f8186f7f0818c9c1b544b79460b0f424c68567f8e49dac6d985466e40d09e429", func := "dormer/dormerlaw08.WalkMarks", spec := "walkMarks", unfollowed := true, recurses := true, named := ["dormer/va.shifts"], apart := false, laid := [("dormer/va.shifts", laid_dormer_va_shifts)], narrowed := true }
def WalkMarksUptoSaid : Prop := walkMarksUptoRow.holds Tryd.pinned (OpenSpec.upto walkMarksSpec)

end Rows
end Go.Proofs.YtlpjbmlkpmhdlaaDoor
