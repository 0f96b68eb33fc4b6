/-
  DERIVED. GIVEN WITH THE SEED: THE CARDS: each row of YtddbjbdhbeijjaaDoorRows.lean that lists a variable, with what it lists TIED to the program's text (the seventh form; the later family's looks); each row that meets fmt, with fmt's text TOLD by the authors' own Lean function (tested against real Go, not proved from fmt's source: count such statements apart). THE CARD IS WHAT COUNTS. Prove the row's statement (the work); the ties are given (YtddbjbdhbeijjaaDoorTie.lean); close each card by the builder's one call (the guide's Derived/Test/ToyasCard.lean, 'card_holds'). Laid BY PROGRAM, IN A SANDBOX (cutbox-door.mjs). By AI agents, Wed Nov 11 2026. No macro, syntax, notation, axiom, sorry.
-/
import Derived.Test.YtddbjbdhbeijjaaDoorRows
import GoSem.ClaimSeven
namespace Go.Proofs.YtddbjbdhbeijjaaDoor
namespace Rows

/-- THE TIED CARD OF 'dormerlaw13.TlbPlays'. -/
def tlbPlaysCard : Claim7 := { stood := { row := tlbPlaysRow, standIns := [], harness := (true, "0007dc1f4904ec6090d13a45fea0e40f12552a3fc1085b6cf636c78052abfd77"), looks := false }, kinds := [], alts := [], laidByText := true, laidKinds := [.data, .data], laidTests := true, laidLooks := .later }
def TlbPlaysCardSaid : Prop := Claim7.holds Tryd.pinned (.plain (OpenSpec.ofChange tlbPlaysSpec)) tlbPlaysCard

/-- THE TIED CARD OF 'dormerlaw13.TlbSmall'. -/
def tlbSmallCard : Claim7 := { stood := { row := tlbSmallRow, standIns := [], harness := (true, "0007dc1f4904ec6090d13a45fea0e40f12552a3fc1085b6cf636c78052abfd77"), looks := false }, kinds := [], alts := [], laidByText := true, laidKinds := [.data, .data], laidTests := true, laidLooks := .later }
def TlbSmallCardSaid : Prop := Claim7.holds Tryd.pinned (.plain (OpenSpec.ofChange tlbSmallSpec)) tlbSmallCard

/-- THE TIED CARD OF 'dormerlaw13.TlbGreat'. -/
def tlbGreatCard : Claim7 := { stood := { row := tlbGreatRow, standIns := [], harness := (true, "0007dc1f4904ec6090d13a45fea0e40f12552a3fc1085b6cf636c78052abfd77"), looks := false }, kinds := [], alts := [], laidByText := true, laidKinds := [.data, .data], laidTests := true, laidLooks := .later }
def TlbGreatCardSaid : Prop := Claim7.holds Tryd.pinned (.plain (OpenSpec.ofChange tlbGreatSpec)) tlbGreatCard

/-- THE TIED CARD OF 'dormerlaw13.TlbDrops'. -/
def tlbDropsCard : Claim7 := { stood := { row := tlbDropsRow, standIns := [], harness := (true, "0007dc1f4904ec6090d13a45fea0e40f12552a3fc1085b6cf636c78052abfd77"), looks := false }, kinds := [], alts := [], laidByText := true, laidKinds := [.data, .data], laidTests := true, laidLooks := .later }
def TlbDropsCardSaid : Prop := Claim7.holds Tryd.pinned (.plain (OpenSpec.ofChange tlbDropsSpec)) tlbDropsCard

/-- THE TIED CARD OF 'dormerlaw13.TlbOf'. -/
def tlbOfCard : Claim7 := { stood := { row := tlbOfRow, standIns := [], harness := (true, "0007dc1f4904ec6090d13a45fea0e40f12552a3fc1085b6cf636c78052abfd77"), looks := false }, kinds := [], alts := [], laidByText := true, laidKinds := [.data, .data], laidTests := true, laidLooks := .later }
def TlbOfCardSaid : Prop := Claim7.holds Tryd.pinned (.plain (OpenSpec.ofChange tlbOfSpec)) tlbOfCard

/-- THE TIED CARD OF 'dormerlaw13.TlbRoom'. -/
def tlbRoomCard : Claim7 := { stood := { row := tlbRoomRow, standIns := [], harness := (true, "0007dc1f4904ec6090d13a45fea0e40f12552a3fc1085b6cf636c78052abfd77"), looks := false }, kinds := [], alts := [], laidByText := true, laidKinds := [.data, .data], laidTests := true, laidLooks := .later }
def TlbRoomCardSaid : Prop := Claim7.holds Tryd.pinned (.plain (OpenSpec.ofChange tlbRoomSpec)) tlbRoomCard

/-- THE SECOND FORM's CARD OF 'dormerlaw13.TlbPlays'. -/
def tlbPlaysUptoCard : Claim7 := { stood := { row := tlbPlaysUptoRow, standIns := [], harness := (true, "0007dc1f4904ec6090d13a45fea0e40f12552a3fc1085b6cf636c78052abfd77"), looks := false }, kinds := [], alts := [], laidByText := true, laidKinds := [.data, .data], laidTests := true, laidLooks := .later }
def TlbPlaysUptoCardSaid : Prop := Claim7.holds Tryd.pinned (.plain (OpenSpec.upto tlbPlaysSpec)) tlbPlaysUptoCard

/-- THE SECOND FORM's CARD OF 'dormerlaw13.TlbSmall'. -/
def tlbSmallUptoCard : Claim7 := { stood := { row := tlbSmallUptoRow, standIns := [], harness := (true, "0007dc1f4904ec6090d13a45fea0e40f12552a3fc1085b6cf636c78052abfd77"), looks := false }, kinds := [], alts := [], laidByText := true, laidKinds := [.data, .data], laidTests := true, laidLooks := .later }
def TlbSmallUptoCardSaid : Prop := Claim7.holds Tryd.pinned (.plain (OpenSpec.upto tlbSmallSpec)) tlbSmallUptoCard

/-- THE SECOND FORM's CARD OF 'dormerlaw13.TlbGreat'. -/
def tlbGreatUptoCard : Claim7 := { stood := { row := tlbGreatUptoRow, standIns := [], harness := (true, "0007dc1f4904ec6090d13a45fea0e40f12552a3fc1085b6cf636c78052abfd77"), looks := false }, kinds := [], alts := [], laidByText := true, laidKinds := [.data, .data], laidTests := true, laidLooks := .later }
def TlbGreatUptoCardSaid : Prop := Claim7.holds Tryd.pinned (.plain (OpenSpec.upto tlbGreatSpec)) tlbGreatUptoCard

/-- THE SECOND FORM's CARD OF 'dormerlaw13.TlbDrops'. -/
def tlbDropsUptoCard : Claim7 := { stood := { row := tlbDropsUptoRow, standIns := [], harness := (true, "0007dc1f4904ec6090d13a45fea0e40f12552a3fc1085b6cf636c78052abfd77"), looks := false }, kinds := [], alts := [], laidByText := true, laidKinds := [.data, .data], laidTests := true, laidLooks := .later }
def TlbDropsUptoCardSaid : Prop := Claim7.holds Tryd.pinned (.plain (OpenSpec.upto tlbDropsSpec)) tlbDropsUptoCard

/-- THE SECOND FORM's CARD OF 'dormerlaw13.TlbOf'. -/
def tlbOfUptoCard : Claim7 := { stood := { row := tlbOfUptoRow, standIns := [], harness := (true, "0007dc1f4904ec6090d13a45fea0e40f12552a3fc1085b6cf636c78052abfd77"), looks := false }, kinds := [], alts := [], laidByText := true, laidKinds := [.data, .data], laidTests := true, laidLooks := .later }
def TlbOfUptoCardSaid : Prop := Claim7.holds Tryd.pinned (.plain (OpenSpec.upto tlbOfSpec)) tlbOfUptoCard

/-- THE SECOND FORM's CARD OF 'dormerlaw13.TlbRoom'. -/
def tlbRoomUptoCard : Claim7 := { stood := { row := tlbRoomUptoRow, standIns := [], harness := (true, "0007dc1f4904ec6090d13a45fea0e40f12552a3fc1085b6cf636c78052abfd77"), looks := false }, kinds := [], alts := [], laidByText := true, laidKinds := [.data, .data], laidTests := true, laidLooks := .later }
def TlbRoomUptoCardSaid : Prop := Claim7.holds Tryd.pinned (.plain (OpenSpec.upto tlbRoomSpec)) tlbRoomUptoCard
end Rows
end Go.Proofs.YtddbjbdhbeijjaaDoor
