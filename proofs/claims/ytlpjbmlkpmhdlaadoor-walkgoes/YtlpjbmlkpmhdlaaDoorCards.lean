/-
  DERIVED. GIVEN WITH THE SEED: THE CARDS: each row of YtlpjbmlkpmhdlaaDoorRows.lean that lists a variable, with what it lists TIED to the program's text (the seventh form; the later family's looks); each row that meets fmt, with fmt's text TOLD by the authors' own Lean function (tested against real Go, not proved from fmt's source: count such statements apart). THE CARD IS WHAT COUNTS. Prove the row's statement (the work); the ties are given (YtlpjbmlkpmhdlaaDoorTie.lean); close each card by the builder's one call (the guide's Derived/Test/ToyasCard.lean, 'card_holds'). Laid BY PROGRAM, IN A SANDBOX (cutbox-door.mjs). By AI agents, Wed Nov 11 2026. No macro, syntax, notation, axiom, sorry.
-/
import Derived.Test.YtlpjbmlkpmhdlaaDoorRows
import GoSem.ClaimSeven
namespace Go.Proofs.YtlpjbmlkpmhdlaaDoor
namespace Rows

/-- THE TIED CARD OF 'dormerlaw08.WalkGoes'. -/
def walkGoesCard : Claim7 := { stood := { row := walkGoesRow, standIns := [], harness := (true, "14c0d3f94159e94379ad21263e78dd85d3ca41911254effd88ad4665640f6167"), looks := false }, kinds := [], alts := [], laidByText := true, laidKinds := [.data], laidTests := true, laidLooks := .later }
def WalkGoesCardSaid : Prop := Claim7.holds Tryd.pinned (.plain (OpenSpec.ofChange walkGoesSpec)) walkGoesCard

/-- THE TIED CARD OF 'dormerlaw08.WalkTop'. -/
def walkTopCard : Claim7 := { stood := { row := walkTopRow, standIns := [], harness := (true, "14c0d3f94159e94379ad21263e78dd85d3ca41911254effd88ad4665640f6167"), looks := false }, kinds := [], alts := [], laidByText := true, laidKinds := [.data], laidTests := true, laidLooks := .later }
def WalkTopCardSaid : Prop := Claim7.holds Tryd.pinned (.plain (OpenSpec.ofChange walkTopSpec)) walkTopCard

/-- THE TIED CARD OF 'dormerlaw08.WalkFlags'. -/
def walkFlagsCard : Claim7 := { stood := { row := walkFlagsRow, standIns := [], harness := (true, "14c0d3f94159e94379ad21263e78dd85d3ca41911254effd88ad4665640f6167"), looks := false }, kinds := [], alts := [], laidByText := true, laidKinds := [.data], laidTests := true, laidLooks := .later }
def WalkFlagsCardSaid : Prop := Claim7.holds Tryd.pinned (.plain (OpenSpec.ofChange walkFlagsSpec)) walkFlagsCard

/-- THE TIED CARD OF 'dormerlaw08.WalkOn'. -/
def walkOnCard : Claim7 := { stood := { row := walkOnRow, standIns := [], harness := (true, "14c0d3f94159e94379ad21263e78dd85d3ca41911254effd88ad4665640f6167"), looks := false }, kinds := [], alts := [], laidByText := true, laidKinds := [.data], laidTests := true, laidLooks := .later }
def WalkOnCardSaid : Prop := Claim7.holds Tryd.pinned (.plain (OpenSpec.ofChange walkOnSpec)) walkOnCard

/-- THE TIED CARD OF 'dormerlaw08.WalkSteps'. -/
def walkStepsCard : Claim7 := { stood := { row := walkStepsRow, standIns := [], harness := (true, "14c0d3f94159e94379ad21263e78dd85d3ca41911254effd88ad4665640f6167"), looks := false }, kinds := [], alts := [], laidByText := true, laidKinds := [.data], laidTests := true, laidLooks := .later }
def WalkStepsCardSaid : Prop := Claim7.holds Tryd.pinned (.plain (OpenSpec.ofChange walkStepsSpec)) walkStepsCard

/-- THE TIED CARD OF 'dormerlaw08.WalkMarks'. -/
def walkMarksCard : Claim7 := { stood := { row := walkMarksRow, standIns := [], harness := (true, "14c0d3f94159e94379ad21263e78dd85d3ca41911254effd88ad4665640f6167"), looks := false }, kinds := [], alts := [], laidByText := true, laidKinds := [.data], laidTests := true, laidLooks := .later }
def WalkMarksCardSaid : Prop := Claim7.holds Tryd.pinned (.plain (OpenSpec.ofChange walkMarksSpec)) walkMarksCard

/-- THE SECOND FORM's CARD OF 'dormerlaw08.WalkGoes'. -/
def walkGoesUptoCard : Claim7 := { stood := { row := walkGoesUptoRow, standIns := [], harness := (true, "14c0d3f94159e94379ad21263e78dd85d3ca41911254effd88ad4665640f6167"), looks := false }, kinds := [], alts := [], laidByText := true, laidKinds := [.data], laidTests := true, laidLooks := .later }
def WalkGoesUptoCardSaid : Prop := Claim7.holds Tryd.pinned (.plain (OpenSpec.upto walkGoesSpec)) walkGoesUptoCard

/-- THE SECOND FORM's CARD OF 'dormerlaw08.WalkTop'. -/
def walkTopUptoCard : Claim7 := { stood := { row := walkTopUptoRow, standIns := [], harness := (true, "14c0d3f94159e94379ad21263e78dd85d3ca41911254effd88ad4665640f6167"), looks := false }, kinds := [], alts := [], laidByText := true, laidKinds := [.data], laidTests := true, laidLooks := .later }
def WalkTopUptoCardSaid : Prop := Claim7.holds Tryd.pinned (.plain (OpenSpec.upto walkTopSpec)) walkTopUptoCard

/-- THE SECOND FORM's CARD OF 'dormerlaw08.WalkFlags'. -/
def walkFlagsUptoCard : Claim7 := { stood := { row := walkFlagsUptoRow, standIns := [], harness := (true, "14c0d3f94159e94379ad21263e78dd85d3ca41911254effd88ad4665640f6167"), looks := false }, kinds := [], alts := [], laidByText := true, laidKinds := [.data], laidTests := true, laidLooks := .later }
def WalkFlagsUptoCardSaid : Prop := Claim7.holds Tryd.pinned (.plain (OpenSpec.upto walkFlagsSpec)) walkFlagsUptoCard

/-- THE SECOND FORM's CARD OF 'dormerlaw08.WalkOn'. -/
def walkOnUptoCard : Claim7 := { stood := { row := walkOnUptoRow, standIns := [], harness := (true, "14c0d3f94159e94379ad21263e78dd85d3ca41911254effd88ad4665640f6167"), looks := false }, kinds := [], alts := [], laidByText := true, laidKinds := [.data], laidTests := true, laidLooks := .later }
def WalkOnUptoCardSaid : Prop := Claim7.holds Tryd.pinned (.plain (OpenSpec.upto walkOnSpec)) walkOnUptoCard

/-- THE SECOND FORM's CARD OF 'dormerlaw08.WalkSteps'. -/
def walkStepsUptoCard : Claim7 := { stood := { row := walkStepsUptoRow, standIns := [], harness := (true, "14c0d3f94159e94379ad21263e78dd85d3ca41911254effd88ad4665640f6167"), looks := false }, kinds := [], alts := [], laidByText := true, laidKinds := [.data], laidTests := true, laidLooks := .later }
def WalkStepsUptoCardSaid : Prop := Claim7.holds Tryd.pinned (.plain (OpenSpec.upto walkStepsSpec)) walkStepsUptoCard

/-- THE SECOND FORM's CARD OF 'dormerlaw08.WalkMarks'. -/
def walkMarksUptoCard : Claim7 := { stood := { row := walkMarksUptoRow, standIns := [], harness := (true, "14c0d3f94159e94379ad21263e78dd85d3ca41911254effd88ad4665640f6167"), looks := false }, kinds := [], alts := [], laidByText := true, laidKinds := [.data], laidTests := true, laidLooks := .later }
def WalkMarksUptoCardSaid : Prop := Claim7.holds Tryd.pinned (.plain (OpenSpec.upto walkMarksSpec)) walkMarksUptoCard
end Rows
end Go.Proofs.YtlpjbmlkpmhdlaaDoor
