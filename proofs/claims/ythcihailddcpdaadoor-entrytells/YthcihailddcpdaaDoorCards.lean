/-
  DERIVED. GIVEN WITH THE SEED: THE CARDS: each row of YthcihailddcpdaaDoorRows.lean that lists a variable, with what it lists TIED to the program's text (the seventh form; the later family's looks); each row that meets fmt, with fmt's text TOLD by the authors' own Lean function (tested against real Go, not proved from fmt's source: count such statements apart). THE CARD IS WHAT COUNTS. Prove the row's statement (the work); the ties are given (YthcihailddcpdaaDoorTie.lean); close each card by the builder's one call (the guide's Derived/Test/ToyasCard.lean, 'card_holds'). Laid BY PROGRAM, IN A SANDBOX (cutbox-door.mjs). By AI agents, Wed Nov 11 2026. No macro, syntax, notation, axiom, sorry.
-/
import Derived.Test.YthcihailddcpdaaDoorRows
import GoSem.ClaimSeven
namespace Go.Proofs.YthcihailddcpdaaDoor
namespace Rows

/-- THE TIED CARD OF 'dormerlaw05.EntryTells'. -/
def entryTellsCard : Claim7 := { stood := { row := entryTellsRow, standIns := [], harness := (true, "a15c3bb88392e81ef3c6ffa156ba6d40ea1667e840f36aa6612d2b94ddb438d7"), looks := false }, kinds := [], alts := [], laidByText := true, laidKinds := [.data], laidTests := true, laidLooks := .later }
def EntryTellsCardSaid : Prop := Claim7.holds Tryd.pinned (.plain (OpenSpec.ofChange entryTellsSpec)) entryTellsCard

/-- THE TIED CARD OF 'dormerlaw05.EntryMay'. -/
def entryMayCard : Claim7 := { stood := { row := entryMayRow, standIns := [], harness := (true, "a15c3bb88392e81ef3c6ffa156ba6d40ea1667e840f36aa6612d2b94ddb438d7"), looks := false }, kinds := [], alts := [], laidByText := true, laidKinds := [.data], laidTests := true, laidLooks := .later }
def EntryMayCardSaid : Prop := Claim7.holds Tryd.pinned (.plain (OpenSpec.ofChange entryMaySpec)) entryMayCard

/-- THE TIED CARD OF 'dormerlaw05.EntryBack'. -/
def entryBackCard : Claim7 := { stood := { row := entryBackRow, standIns := [], harness := (true, "a15c3bb88392e81ef3c6ffa156ba6d40ea1667e840f36aa6612d2b94ddb438d7"), looks := false }, kinds := [], alts := [], laidByText := true, laidKinds := [.data], laidTests := true, laidLooks := .later }
def EntryBackCardSaid : Prop := Claim7.holds Tryd.pinned (.plain (OpenSpec.ofChange entryBackSpec)) entryBackCard

/-- THE TIED CARD OF 'dormerlaw05.EntryFrames'. -/
def entryFramesCard : Claim7 := { stood := { row := entryFramesRow, standIns := [], harness := (true, "a15c3bb88392e81ef3c6ffa156ba6d40ea1667e840f36aa6612d2b94ddb438d7"), looks := false }, kinds := [], alts := [], laidByText := true, laidKinds := [.data], laidTests := true, laidLooks := .later }
def EntryFramesCardSaid : Prop := Claim7.holds Tryd.pinned (.plain (OpenSpec.ofChange entryFramesSpec)) entryFramesCard

/-- THE TIED CARD OF 'dormerlaw05.EntrySlots'. -/
def entrySlotsCard : Claim7 := { stood := { row := entrySlotsRow, standIns := [], harness := (true, "a15c3bb88392e81ef3c6ffa156ba6d40ea1667e840f36aa6612d2b94ddb438d7"), looks := false }, kinds := [], alts := [], laidByText := true, laidKinds := [.data], laidTests := true, laidLooks := .later }
def EntrySlotsCardSaid : Prop := Claim7.holds Tryd.pinned (.plain (OpenSpec.ofChange entrySlotsSpec)) entrySlotsCard

/-- THE TIED CARD OF 'dormerlaw05.EntryGrows'. -/
def entryGrowsCard : Claim7 := { stood := { row := entryGrowsRow, standIns := [], harness := (true, "a15c3bb88392e81ef3c6ffa156ba6d40ea1667e840f36aa6612d2b94ddb438d7"), looks := false }, kinds := [], alts := [], laidByText := true, laidKinds := [.data], laidTests := true, laidLooks := .later }
def EntryGrowsCardSaid : Prop := Claim7.holds Tryd.pinned (.plain (OpenSpec.ofChange entryGrowsSpec)) entryGrowsCard

/-- THE SECOND FORM's CARD OF 'dormerlaw05.EntryTells'. -/
def entryTellsUptoCard : Claim7 := { stood := { row := entryTellsUptoRow, standIns := [], harness := (true, "a15c3bb88392e81ef3c6ffa156ba6d40ea1667e840f36aa6612d2b94ddb438d7"), looks := false }, kinds := [], alts := [], laidByText := true, laidKinds := [.data], laidTests := true, laidLooks := .later }
def EntryTellsUptoCardSaid : Prop := Claim7.holds Tryd.pinned (.plain (OpenSpec.upto entryTellsSpec)) entryTellsUptoCard

/-- THE SECOND FORM's CARD OF 'dormerlaw05.EntryMay'. -/
def entryMayUptoCard : Claim7 := { stood := { row := entryMayUptoRow, standIns := [], harness := (true, "a15c3bb88392e81ef3c6ffa156ba6d40ea1667e840f36aa6612d2b94ddb438d7"), looks := false }, kinds := [], alts := [], laidByText := true, laidKinds := [.data], laidTests := true, laidLooks := .later }
def EntryMayUptoCardSaid : Prop := Claim7.holds Tryd.pinned (.plain (OpenSpec.upto entryMaySpec)) entryMayUptoCard

/-- THE SECOND FORM's CARD OF 'dormerlaw05.EntryBack'. -/
def entryBackUptoCard : Claim7 := { stood := { row := entryBackUptoRow, standIns := [], harness := (true, "a15c3bb88392e81ef3c6ffa156ba6d40ea1667e840f36aa6612d2b94ddb438d7"), looks := false }, kinds := [], alts := [], laidByText := true, laidKinds := [.data], laidTests := true, laidLooks := .later }
def EntryBackUptoCardSaid : Prop := Claim7.holds Tryd.pinned (.plain (OpenSpec.upto entryBackSpec)) entryBackUptoCard

/-- THE SECOND FORM's CARD OF 'dormerlaw05.EntryFrames'. -/
def entryFramesUptoCard : Claim7 := { stood := { row := entryFramesUptoRow, standIns := [], harness := (true, "a15c3bb88392e81ef3c6ffa156ba6d40ea1667e840f36aa6612d2b94ddb438d7"), looks := false }, kinds := [], alts := [], laidByText := true, laidKinds := [.data], laidTests := true, laidLooks := .later }
def EntryFramesUptoCardSaid : Prop := Claim7.holds Tryd.pinned (.plain (OpenSpec.upto entryFramesSpec)) entryFramesUptoCard

/-- THE SECOND FORM's CARD OF 'dormerlaw05.EntrySlots'. -/
def entrySlotsUptoCard : Claim7 := { stood := { row := entrySlotsUptoRow, standIns := [], harness := (true, "a15c3bb88392e81ef3c6ffa156ba6d40ea1667e840f36aa6612d2b94ddb438d7"), looks := false }, kinds := [], alts := [], laidByText := true, laidKinds := [.data], laidTests := true, laidLooks := .later }
def EntrySlotsUptoCardSaid : Prop := Claim7.holds Tryd.pinned (.plain (OpenSpec.upto entrySlotsSpec)) entrySlotsUptoCard

/-- THE SECOND FORM's CARD OF 'dormerlaw05.EntryGrows'. -/
def entryGrowsUptoCard : Claim7 := { stood := { row := entryGrowsUptoRow, standIns := [], harness := (true, "a15c3bb88392e81ef3c6ffa156ba6d40ea1667e840f36aa6612d2b94ddb438d7"), looks := false }, kinds := [], alts := [], laidByText := true, laidKinds := [.data], laidTests := true, laidLooks := .later }
def EntryGrowsUptoCardSaid : Prop := Claim7.holds Tryd.pinned (.plain (OpenSpec.upto entryGrowsSpec)) entryGrowsUptoCard
end Rows
end Go.Proofs.YthcihailddcpdaaDoor
