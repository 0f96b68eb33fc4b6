/-
  DERIVED. GIVEN WITH THE SEED: THE CARDS: each row of YtopmmlcjlopmaaaGreatDoorRows.lean that lists a variable, with what it lists TIED to the program's text (the seventh form; the later family's looks); each row that meets fmt, with fmt's text TOLD by the authors' own Lean function (tested against real Go, not proved from fmt's source: count such statements apart). THE CARD IS WHAT COUNTS. Prove the row's statement (the work); the ties are given (YtopmmlcjlopmaaaGreatDoorTie.lean); close each card by the builder's one call (the guide's Derived/Test/ToyasCard.lean, 'card_holds'). Laid BY PROGRAM, IN A SANDBOX (cutbox-door.mjs). By AI agents, Wed Nov 11 2026. No macro, syntax, notation, axiom, sorry.
-/
import Derived.Test.YtopmmlcjlopmaaaGreatDoorRows
import GoSem.ClaimSeven
namespace Go.Proofs.YtopmmlcjlopmaaaGreatDoor
namespace Rows

/-- THE TIED CARD OF 'dormerlaw09.RefwalkGoes'. -/
def refwalkGoesCard : Claim7 := { stood := { row := refwalkGoesRow, standIns := [], harness := (true, "3946437570e1fed25ed2a62bf12473f5a213a4ea02261441800d6899d52f026b"), looks := true }, kinds := [], alts := [], laidByText := true, laidKinds := [.data, .handle], laidTests := true, laidLooks := .later }
def RefwalkGoesCardSaid : Prop := Claim7.holds Tryz.pinned (.plain (OpenSpec.ofChange refwalkGoesSpec)) refwalkGoesCard

/-- THE TIED CARD OF 'dormerlaw09.RefwalkFaults'. -/
def refwalkFaultsCard : Claim7 := { stood := { row := refwalkFaultsRow, standIns := [], harness := (true, "3946437570e1fed25ed2a62bf12473f5a213a4ea02261441800d6899d52f026b"), looks := true }, kinds := [], alts := [], laidByText := true, laidKinds := [.data, .handle], laidTests := true, laidLooks := .later }
def RefwalkFaultsCardSaid : Prop := Claim7.holds Tryz.pinned (.plain (OpenSpec.ofChange refwalkFaultsSpec)) refwalkFaultsCard

/-- THE TIED CARD OF 'dormerlaw09.RefwalkAgain'. -/
def refwalkAgainCard : Claim7 := { stood := { row := refwalkAgainRow, standIns := [], harness := (true, "3946437570e1fed25ed2a62bf12473f5a213a4ea02261441800d6899d52f026b"), looks := true }, kinds := [], alts := [], laidByText := true, laidKinds := [.data, .handle], laidTests := true, laidLooks := .later }
def RefwalkAgainCardSaid : Prop := Claim7.holds Tryz.pinned (.plain (OpenSpec.ofChange refwalkAgainSpec)) refwalkAgainCard

/-- THE TIED CARD OF 'dormerlaw09.RefwalkSets'. -/
def refwalkSetsCard : Claim7 := { stood := { row := refwalkSetsRow, standIns := [], harness := (true, "3946437570e1fed25ed2a62bf12473f5a213a4ea02261441800d6899d52f026b"), looks := true }, kinds := [], alts := [], laidByText := true, laidKinds := [.data, .handle], laidTests := true, laidLooks := .later }
def RefwalkSetsCardSaid : Prop := Claim7.holds Tryz.pinned (.plain (OpenSpec.ofChange refwalkSetsSpec)) refwalkSetsCard

/-- THE SECOND FORM's CARD OF 'dormerlaw09.RefwalkGoes'. -/
def refwalkGoesUptoCard : Claim7 := { stood := { row := refwalkGoesUptoRow, standIns := [], harness := (true, "3946437570e1fed25ed2a62bf12473f5a213a4ea02261441800d6899d52f026b"), looks := true }, kinds := [], alts := [], laidByText := true, laidKinds := [.data, .handle], laidTests := true, laidLooks := .later }
def RefwalkGoesUptoCardSaid : Prop := Claim7.holds Tryz.pinned (.plain (OpenSpec.upto refwalkGoesSpec)) refwalkGoesUptoCard

/-- THE SECOND FORM's CARD OF 'dormerlaw09.RefwalkFaults'. -/
def refwalkFaultsUptoCard : Claim7 := { stood := { row := refwalkFaultsUptoRow, standIns := [], harness := (true, "3946437570e1fed25ed2a62bf12473f5a213a4ea02261441800d6899d52f026b"), looks := true }, kinds := [], alts := [], laidByText := true, laidKinds := [.data, .handle], laidTests := true, laidLooks := .later }
def RefwalkFaultsUptoCardSaid : Prop := Claim7.holds Tryz.pinned (.plain (OpenSpec.upto refwalkFaultsSpec)) refwalkFaultsUptoCard

/-- THE SECOND FORM's CARD OF 'dormerlaw09.RefwalkAgain'. -/
def refwalkAgainUptoCard : Claim7 := { stood := { row := refwalkAgainUptoRow, standIns := [], harness := (true, "3946437570e1fed25ed2a62bf12473f5a213a4ea02261441800d6899d52f026b"), looks := true }, kinds := [], alts := [], laidByText := true, laidKinds := [.data, .handle], laidTests := true, laidLooks := .later }
def RefwalkAgainUptoCardSaid : Prop := Claim7.holds Tryz.pinned (.plain (OpenSpec.upto refwalkAgainSpec)) refwalkAgainUptoCard

/-- THE SECOND FORM's CARD OF 'dormerlaw09.RefwalkSets'. -/
def refwalkSetsUptoCard : Claim7 := { stood := { row := refwalkSetsUptoRow, standIns := [], harness := (true, "3946437570e1fed25ed2a62bf12473f5a213a4ea02261441800d6899d52f026b"), looks := true }, kinds := [], alts := [], laidByText := true, laidKinds := [.data, .handle], laidTests := true, laidLooks := .later }
def RefwalkSetsUptoCardSaid : Prop := Claim7.holds Tryz.pinned (.plain (OpenSpec.upto refwalkSetsSpec)) refwalkSetsUptoCard
end Rows
end Go.Proofs.YtopmmlcjlopmaaaGreatDoor
