/-
  DERIVED. GIVEN WITH THE SEED: THE CARDS: each row of YtmglikmphddicaaDoorRows.lean that lists a variable, with what it lists TIED to the program's text (the seventh form; the later family's looks); each row that meets fmt, with fmt's text TOLD by the authors' own Lean function (tested against real Go, not proved from fmt's source: count such statements apart). THE CARD IS WHAT COUNTS. Prove the row's statement (the work); the ties are given (YtmglikmphddicaaDoorTie.lean); close each card by the builder's one call (the guide's Derived/Test/ToyasCard.lean, 'card_holds'). Laid BY PROGRAM, IN A SANDBOX (cutbox-door.mjs). By AI agents, Wed Nov 11 2026. No macro, syntax, notation, axiom, sorry.
-/
import Derived.Test.YtmglikmphddicaaDoorRows
import GoSem.ClaimSeven
namespace Go.Proofs.YtmglikmphddicaaDoor
namespace Rows

/-- THE TIED CARD OF 'dormerlaw12.GroupRuns'. -/
def groupRunsCard : Claim7 := { stood := { row := groupRunsRow, standIns := [], harness := (true, "b373125d0050200a3daec361f48b00f6931d06ad3c7e3e89725229c98a9cdfff"), looks := false }, kinds := [], alts := [], laidByText := true, laidKinds := [.data], laidTests := true, laidLooks := .later }
def GroupRunsCardSaid : Prop := Claim7.holds Tryd.pinned (.plain (OpenSpec.ofChange groupRunsSpec)) groupRunsCard

/-- THE TIED CARD OF 'dormerlaw12.GroupLines'. -/
def groupLinesCard : Claim7 := { stood := { row := groupLinesRow, standIns := [], harness := (true, "b373125d0050200a3daec361f48b00f6931d06ad3c7e3e89725229c98a9cdfff"), looks := false }, kinds := [], alts := [], laidByText := true, laidKinds := [.data], laidTests := true, laidLooks := .later }
def GroupLinesCardSaid : Prop := Claim7.holds Tryd.pinned (.plain (OpenSpec.ofChange groupLinesSpec)) groupLinesCard

/-- THE TIED CARD OF 'dormerlaw12.GroupFrames'. -/
def groupFramesCard : Claim7 := { stood := { row := groupFramesRow, standIns := [], harness := (true, "b373125d0050200a3daec361f48b00f6931d06ad3c7e3e89725229c98a9cdfff"), looks := false }, kinds := [], alts := [], laidByText := true, laidKinds := [.data], laidTests := true, laidLooks := .later }
def GroupFramesCardSaid : Prop := Claim7.holds Tryd.pinned (.plain (OpenSpec.ofChange groupFramesSpec)) groupFramesCard

/-- THE TIED CARD OF 'dormerlaw12.GroupMeets'. -/
def groupMeetsCard : Claim7 := { stood := { row := groupMeetsRow, standIns := [], harness := (true, "b373125d0050200a3daec361f48b00f6931d06ad3c7e3e89725229c98a9cdfff"), looks := false }, kinds := [], alts := [], laidByText := true, laidKinds := [.data], laidTests := true, laidLooks := .later }
def GroupMeetsCardSaid : Prop := Claim7.holds Tryd.pinned (.plain (OpenSpec.ofChange groupMeetsSpec)) groupMeetsCard

/-- THE TIED CARD OF 'dormerlaw12.GroupLess'. -/
def groupLessCard : Claim7 := { stood := { row := groupLessRow, standIns := [], harness := (true, "b373125d0050200a3daec361f48b00f6931d06ad3c7e3e89725229c98a9cdfff"), looks := false }, kinds := [], alts := [], laidByText := true, laidKinds := [.data], laidTests := true, laidLooks := .later }
def GroupLessCardSaid : Prop := Claim7.holds Tryd.pinned (.plain (OpenSpec.ofChange groupLessSpec)) groupLessCard

/-- THE TIED CARD OF 'dormerlaw12.GroupSlots'. -/
def groupSlotsCard : Claim7 := { stood := { row := groupSlotsRow, standIns := [], harness := (true, "b373125d0050200a3daec361f48b00f6931d06ad3c7e3e89725229c98a9cdfff"), looks := false }, kinds := [], alts := [], laidByText := true, laidKinds := [.data], laidTests := true, laidLooks := .later }
def GroupSlotsCardSaid : Prop := Claim7.holds Tryd.pinned (.plain (OpenSpec.ofChange groupSlotsSpec)) groupSlotsCard

/-- THE SECOND FORM's CARD OF 'dormerlaw12.GroupRuns'. -/
def groupRunsUptoCard : Claim7 := { stood := { row := groupRunsUptoRow, standIns := [], harness := (true, "b373125d0050200a3daec361f48b00f6931d06ad3c7e3e89725229c98a9cdfff"), looks := false }, kinds := [], alts := [], laidByText := true, laidKinds := [.data], laidTests := true, laidLooks := .later }
def GroupRunsUptoCardSaid : Prop := Claim7.holds Tryd.pinned (.plain (OpenSpec.upto groupRunsSpec)) groupRunsUptoCard

/-- THE SECOND FORM's CARD OF 'dormerlaw12.GroupLines'. -/
def groupLinesUptoCard : Claim7 := { stood := { row := groupLinesUptoRow, standIns := [], harness := (true, "b373125d0050200a3daec361f48b00f6931d06ad3c7e3e89725229c98a9cdfff"), looks := false }, kinds := [], alts := [], laidByText := true, laidKinds := [.data], laidTests := true, laidLooks := .later }
def GroupLinesUptoCardSaid : Prop := Claim7.holds Tryd.pinned (.plain (OpenSpec.upto groupLinesSpec)) groupLinesUptoCard

/-- THE SECOND FORM's CARD OF 'dormerlaw12.GroupFrames'. -/
def groupFramesUptoCard : Claim7 := { stood := { row := groupFramesUptoRow, standIns := [], harness := (true, "b373125d0050200a3daec361f48b00f6931d06ad3c7e3e89725229c98a9cdfff"), looks := false }, kinds := [], alts := [], laidByText := true, laidKinds := [.data], laidTests := true, laidLooks := .later }
def GroupFramesUptoCardSaid : Prop := Claim7.holds Tryd.pinned (.plain (OpenSpec.upto groupFramesSpec)) groupFramesUptoCard

/-- THE SECOND FORM's CARD OF 'dormerlaw12.GroupMeets'. -/
def groupMeetsUptoCard : Claim7 := { stood := { row := groupMeetsUptoRow, standIns := [], harness := (true, "b373125d0050200a3daec361f48b00f6931d06ad3c7e3e89725229c98a9cdfff"), looks := false }, kinds := [], alts := [], laidByText := true, laidKinds := [.data], laidTests := true, laidLooks := .later }
def GroupMeetsUptoCardSaid : Prop := Claim7.holds Tryd.pinned (.plain (OpenSpec.upto groupMeetsSpec)) groupMeetsUptoCard

/-- THE SECOND FORM's CARD OF 'dormerlaw12.GroupLess'. -/
def groupLessUptoCard : Claim7 := { stood := { row := groupLessUptoRow, standIns := [], harness := (true, "b373125d0050200a3daec361f48b00f6931d06ad3c7e3e89725229c98a9cdfff"), looks := false }, kinds := [], alts := [], laidByText := true, laidKinds := [.data], laidTests := true, laidLooks := .later }
def GroupLessUptoCardSaid : Prop := Claim7.holds Tryd.pinned (.plain (OpenSpec.upto groupLessSpec)) groupLessUptoCard

/-- THE SECOND FORM's CARD OF 'dormerlaw12.GroupSlots'. -/
def groupSlotsUptoCard : Claim7 := { stood := { row := groupSlotsUptoRow, standIns := [], harness := (true, "b373125d0050200a3daec361f48b00f6931d06ad3c7e3e89725229c98a9cdfff"), looks := false }, kinds := [], alts := [], laidByText := true, laidKinds := [.data], laidTests := true, laidLooks := .later }
def GroupSlotsUptoCardSaid : Prop := Claim7.holds Tryd.pinned (.plain (OpenSpec.upto groupSlotsSpec)) groupSlotsUptoCard
end Rows
end Go.Proofs.YtmglikmphddicaaDoor
