/-
  DERIVED. GIVEN WITH THE SEED: THE CARDS: each row of YtiihhlmddmicjaaDoorRows.lean that lists a variable, with what it lists TIED to the program's text (the seventh form; the later family's looks); each row that meets fmt, with fmt's text TOLD by the authors' own Lean function (tested against real Go, not proved from fmt's source: count such statements apart). THE CARD IS WHAT COUNTS. Prove the row's statement (the work); the ties are given (YtiihhlmddmicjaaDoorTie.lean); close each card by the builder's one call (the guide's Derived/Test/ToyasCard.lean, 'card_holds'). Laid BY PROGRAM, IN A SANDBOX (cutbox-door.mjs). By AI agents, Wed Nov 11 2026. No macro, syntax, notation, axiom, sorry.
-/
import Derived.Test.YtiihhlmddmicjaaDoorRows
import GoSem.ClaimSeven
namespace Go.Proofs.YtiihhlmddmicjaaDoor
namespace Rows

/-- THE TIED CARD OF 'dormerlaw11.PscPlays'. -/
def pscPlaysCard : Claim7 := { stood := { row := pscPlaysRow, standIns := [], harness := (true, "7ed930652082787ff01c27ef9c60b8d73d6451a9c91545c6c70959c864e47135"), looks := false }, kinds := [], alts := [], laidByText := true, laidKinds := [.data], laidTests := true, laidLooks := .later }
def PscPlaysCardSaid : Prop := Claim7.holds Tryd.pinned (.plain (OpenSpec.ofChange pscPlaysSpec)) pscPlaysCard

/-- THE TIED CARD OF 'dormerlaw11.PscGoes'. -/
def pscGoesCard : Claim7 := { stood := { row := pscGoesRow, standIns := [], harness := (true, "7ed930652082787ff01c27ef9c60b8d73d6451a9c91545c6c70959c864e47135"), looks := false }, kinds := [], alts := [], laidByText := true, laidKinds := [.data], laidTests := true, laidLooks := .later }
def PscGoesCardSaid : Prop := Claim7.holds Tryd.pinned (.plain (OpenSpec.ofChange pscGoesSpec)) pscGoesCard

/-- THE TIED CARD OF 'dormerlaw11.PscFills'. -/
def pscFillsCard : Claim7 := { stood := { row := pscFillsRow, standIns := [], harness := (true, "7ed930652082787ff01c27ef9c60b8d73d6451a9c91545c6c70959c864e47135"), looks := false }, kinds := [], alts := [], laidByText := true, laidKinds := [.data], laidTests := true, laidLooks := .later }
def PscFillsCardSaid : Prop := Claim7.holds Tryd.pinned (.plain (OpenSpec.ofChange pscFillsSpec)) pscFillsCard

/-- THE TIED CARD OF 'dormerlaw11.PscDrops'. -/
def pscDropsCard : Claim7 := { stood := { row := pscDropsRow, standIns := [], harness := (true, "7ed930652082787ff01c27ef9c60b8d73d6451a9c91545c6c70959c864e47135"), looks := false }, kinds := [], alts := [], laidByText := true, laidKinds := [.data], laidTests := true, laidLooks := .later }
def PscDropsCardSaid : Prop := Claim7.holds Tryd.pinned (.plain (OpenSpec.ofChange pscDropsSpec)) pscDropsCard

/-- THE TIED CARD OF 'dormerlaw11.PscRoom'. -/
def pscRoomCard : Claim7 := { stood := { row := pscRoomRow, standIns := [], harness := (true, "7ed930652082787ff01c27ef9c60b8d73d6451a9c91545c6c70959c864e47135"), looks := false }, kinds := [], alts := [], laidByText := true, laidKinds := [.data], laidTests := true, laidLooks := .later }
def PscRoomCardSaid : Prop := Claim7.holds Tryd.pinned (.plain (OpenSpec.ofChange pscRoomSpec)) pscRoomCard

/-- THE TIED CARD OF 'dormerlaw11.PscApart'. -/
def pscApartCard : Claim7 := { stood := { row := pscApartRow, standIns := [], harness := (true, "7ed930652082787ff01c27ef9c60b8d73d6451a9c91545c6c70959c864e47135"), looks := false }, kinds := [], alts := [], laidByText := true, laidKinds := [.data], laidTests := true, laidLooks := .later }
def PscApartCardSaid : Prop := Claim7.holds Tryd.pinned (.plain (OpenSpec.ofChange pscApartSpec)) pscApartCard

/-- THE SECOND FORM's CARD OF 'dormerlaw11.PscPlays'. -/
def pscPlaysUptoCard : Claim7 := { stood := { row := pscPlaysUptoRow, standIns := [], harness := (true, "7ed930652082787ff01c27ef9c60b8d73d6451a9c91545c6c70959c864e47135"), looks := false }, kinds := [], alts := [], laidByText := true, laidKinds := [.data], laidTests := true, laidLooks := .later }
def PscPlaysUptoCardSaid : Prop := Claim7.holds Tryd.pinned (.plain (OpenSpec.upto pscPlaysSpec)) pscPlaysUptoCard

/-- THE SECOND FORM's CARD OF 'dormerlaw11.PscGoes'. -/
def pscGoesUptoCard : Claim7 := { stood := { row := pscGoesUptoRow, standIns := [], harness := (true, "7ed930652082787ff01c27ef9c60b8d73d6451a9c91545c6c70959c864e47135"), looks := false }, kinds := [], alts := [], laidByText := true, laidKinds := [.data], laidTests := true, laidLooks := .later }
def PscGoesUptoCardSaid : Prop := Claim7.holds Tryd.pinned (.plain (OpenSpec.upto pscGoesSpec)) pscGoesUptoCard

/-- THE SECOND FORM's CARD OF 'dormerlaw11.PscFills'. -/
def pscFillsUptoCard : Claim7 := { stood := { row := pscFillsUptoRow, standIns := [], harness := (true, "7ed930652082787ff01c27ef9c60b8d73d6451a9c91545c6c70959c864e47135"), looks := false }, kinds := [], alts := [], laidByText := true, laidKinds := [.data], laidTests := true, laidLooks := .later }
def PscFillsUptoCardSaid : Prop := Claim7.holds Tryd.pinned (.plain (OpenSpec.upto pscFillsSpec)) pscFillsUptoCard

/-- THE SECOND FORM's CARD OF 'dormerlaw11.PscDrops'. -/
def pscDropsUptoCard : Claim7 := { stood := { row := pscDropsUptoRow, standIns := [], harness := (true, "7ed930652082787ff01c27ef9c60b8d73d6451a9c91545c6c70959c864e47135"), looks := false }, kinds := [], alts := [], laidByText := true, laidKinds := [.data], laidTests := true, laidLooks := .later }
def PscDropsUptoCardSaid : Prop := Claim7.holds Tryd.pinned (.plain (OpenSpec.upto pscDropsSpec)) pscDropsUptoCard

/-- THE SECOND FORM's CARD OF 'dormerlaw11.PscRoom'. -/
def pscRoomUptoCard : Claim7 := { stood := { row := pscRoomUptoRow, standIns := [], harness := (true, "7ed930652082787ff01c27ef9c60b8d73d6451a9c91545c6c70959c864e47135"), looks := false }, kinds := [], alts := [], laidByText := true, laidKinds := [.data], laidTests := true, laidLooks := .later }
def PscRoomUptoCardSaid : Prop := Claim7.holds Tryd.pinned (.plain (OpenSpec.upto pscRoomSpec)) pscRoomUptoCard

/-- THE SECOND FORM's CARD OF 'dormerlaw11.PscApart'. -/
def pscApartUptoCard : Claim7 := { stood := { row := pscApartUptoRow, standIns := [], harness := (true, "7ed930652082787ff01c27ef9c60b8d73d6451a9c91545c6c70959c864e47135"), looks := false }, kinds := [], alts := [], laidByText := true, laidKinds := [.data], laidTests := true, laidLooks := .later }
def PscApartUptoCardSaid : Prop := Claim7.holds Tryd.pinned (.plain (OpenSpec.upto pscApartSpec)) pscApartUptoCard
end Rows
end Go.Proofs.YtiihhlmddmicjaaDoor
