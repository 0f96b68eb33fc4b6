/-
  DERIVED. GIVEN WITH THE SEED: THE CARDS: each row of YtdmaamhjcoaigaaDoorRows.lean that lists a variable, with what it lists TIED to the program's text (the seventh form; the later family's looks); each row that meets fmt, with fmt's text TOLD by the authors' own Lean function (tested against real Go, not proved from fmt's source: count such statements apart). THE CARD IS WHAT COUNTS. Prove the row's statement (the work); the ties are given (YtdmaamhjcoaigaaDoorTie.lean); close each card by the builder's one call (the guide's Derived/Test/ToyasCard.lean, 'card_holds'). Laid BY PROGRAM, IN A SANDBOX (cutbox-door.mjs). By AI agents, Wed Nov 11 2026. No macro, syntax, notation, axiom, sorry.
-/
import Derived.Test.YtdmaamhjcoaigaaDoorRows
import GoSem.ClaimSeven
namespace Go.Proofs.YtdmaamhjcoaigaaDoor
namespace Rows

/-- THE TIED CARD OF 'dormerlaw03.VaTells'. -/
def vaTellsCard : Claim7 := { stood := { row := vaTellsRow, standIns := [], harness := (true, "261c901ef28bcce9448a19102139cef9d1c3042c16b753df25b83868a3af1201"), looks := false }, kinds := [], alts := [], laidByText := true, laidKinds := [.data], laidTests := true, laidLooks := .later }
def VaTellsCardSaid : Prop := Claim7.holds Tryd.pinned (.plain (OpenSpec.ofChange vaTellsSpec)) vaTellsCard

/-- THE TIED CARD OF 'dormerlaw03.VaJoins'. -/
def vaJoinsCard : Claim7 := { stood := { row := vaJoinsRow, standIns := [], harness := (true, "261c901ef28bcce9448a19102139cef9d1c3042c16b753df25b83868a3af1201"), looks := false }, kinds := [], alts := [], laidByText := true, laidKinds := [.data], laidTests := true, laidLooks := .later }
def VaJoinsCardSaid : Prop := Claim7.holds Tryd.pinned (.plain (OpenSpec.ofChange vaJoinsSpec)) vaJoinsCard

/-- THE TIED CARD OF 'dormerlaw03.VaBack'. -/
def vaBackCard : Claim7 := { stood := { row := vaBackRow, standIns := [], harness := (true, "261c901ef28bcce9448a19102139cef9d1c3042c16b753df25b83868a3af1201"), looks := false }, kinds := [], alts := [], laidByText := true, laidKinds := [.data], laidTests := true, laidLooks := .later }
def VaBackCardSaid : Prop := Claim7.holds Tryd.pinned (.plain (OpenSpec.ofChange vaBackSpec)) vaBackCard

/-- THE TIED CARD OF 'dormerlaw03.VaPages'. -/
def vaPagesCard : Claim7 := { stood := { row := vaPagesRow, standIns := [], harness := (true, "261c901ef28bcce9448a19102139cef9d1c3042c16b753df25b83868a3af1201"), looks := false }, kinds := [], alts := [], laidByText := true, laidKinds := [.data], laidTests := true, laidLooks := .later }
def VaPagesCardSaid : Prop := Claim7.holds Tryd.pinned (.plain (OpenSpec.ofChange vaPagesSpec)) vaPagesCard

/-- THE TIED CARD OF 'dormerlaw03.VaNext'. -/
def vaNextCard : Claim7 := { stood := { row := vaNextRow, standIns := [], harness := (true, "261c901ef28bcce9448a19102139cef9d1c3042c16b753df25b83868a3af1201"), looks := false }, kinds := [], alts := [], laidByText := true, laidKinds := [.data], laidTests := true, laidLooks := .later }
def VaNextCardSaid : Prop := Claim7.holds Tryd.pinned (.plain (OpenSpec.ofChange vaNextSpec)) vaNextCard

/-- THE TIED CARD OF 'dormerlaw03.VaNone'. -/
def vaNoneCard : Claim7 := { stood := { row := vaNoneRow, standIns := [], harness := (true, "261c901ef28bcce9448a19102139cef9d1c3042c16b753df25b83868a3af1201"), looks := false }, kinds := [], alts := [], laidByText := true, laidKinds := [.data], laidTests := true, laidLooks := .later }
def VaNoneCardSaid : Prop := Claim7.holds Tryd.pinned (.plain (OpenSpec.ofChange vaNoneSpec)) vaNoneCard

/-- THE SECOND FORM's CARD OF 'dormerlaw03.VaTells'. -/
def vaTellsUptoCard : Claim7 := { stood := { row := vaTellsUptoRow, standIns := [], harness := (true, "261c901ef28bcce9448a19102139cef9d1c3042c16b753df25b83868a3af1201"), looks := false }, kinds := [], alts := [], laidByText := true, laidKinds := [.data], laidTests := true, laidLooks := .later }
def VaTellsUptoCardSaid : Prop := Claim7.holds Tryd.pinned (.plain (OpenSpec.upto vaTellsSpec)) vaTellsUptoCard

/-- THE SECOND FORM's CARD OF 'dormerlaw03.VaJoins'. -/
def vaJoinsUptoCard : Claim7 := { stood := { row := vaJoinsUptoRow, standIns := [], harness := (true, "261c901ef28bcce9448a19102139cef9d1c3042c16b753df25b83868a3af1201"), looks := false }, kinds := [], alts := [], laidByText := true, laidKinds := [.data], laidTests := true, laidLooks := .later }
def VaJoinsUptoCardSaid : Prop := Claim7.holds Tryd.pinned (.plain (OpenSpec.upto vaJoinsSpec)) vaJoinsUptoCard

/-- THE SECOND FORM's CARD OF 'dormerlaw03.VaBack'. -/
def vaBackUptoCard : Claim7 := { stood := { row := vaBackUptoRow, standIns := [], harness := (true, "261c901ef28bcce9448a19102139cef9d1c3042c16b753df25b83868a3af1201"), looks := false }, kinds := [], alts := [], laidByText := true, laidKinds := [.data], laidTests := true, laidLooks := .later }
def VaBackUptoCardSaid : Prop := Claim7.holds Tryd.pinned (.plain (OpenSpec.upto vaBackSpec)) vaBackUptoCard

/-- THE SECOND FORM's CARD OF 'dormerlaw03.VaPages'. -/
def vaPagesUptoCard : Claim7 := { stood := { row := vaPagesUptoRow, standIns := [], harness := (true, "261c901ef28bcce9448a19102139cef9d1c3042c16b753df25b83868a3af1201"), looks := false }, kinds := [], alts := [], laidByText := true, laidKinds := [.data], laidTests := true, laidLooks := .later }
def VaPagesUptoCardSaid : Prop := Claim7.holds Tryd.pinned (.plain (OpenSpec.upto vaPagesSpec)) vaPagesUptoCard

/-- THE SECOND FORM's CARD OF 'dormerlaw03.VaNext'. -/
def vaNextUptoCard : Claim7 := { stood := { row := vaNextUptoRow, standIns := [], harness := (true, "261c901ef28bcce9448a19102139cef9d1c3042c16b753df25b83868a3af1201"), looks := false }, kinds := [], alts := [], laidByText := true, laidKinds := [.data], laidTests := true, laidLooks := .later }
def VaNextUptoCardSaid : Prop := Claim7.holds Tryd.pinned (.plain (OpenSpec.upto vaNextSpec)) vaNextUptoCard

/-- THE SECOND FORM's CARD OF 'dormerlaw03.VaNone'. -/
def vaNoneUptoCard : Claim7 := { stood := { row := vaNoneUptoRow, standIns := [], harness := (true, "261c901ef28bcce9448a19102139cef9d1c3042c16b753df25b83868a3af1201"), looks := false }, kinds := [], alts := [], laidByText := true, laidKinds := [.data], laidTests := true, laidLooks := .later }
def VaNoneUptoCardSaid : Prop := Claim7.holds Tryd.pinned (.plain (OpenSpec.upto vaNoneSpec)) vaNoneUptoCard
end Rows
end Go.Proofs.YtdmaamhjcoaigaaDoor
