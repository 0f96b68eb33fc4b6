/-
  DERIVED. GIVEN WITH THE SEED: THE CARDS: each row of YtopmmlcjlopmaaaDoorRows.lean that lists a variable, with what it lists TIED to the program's text (the seventh form; the later family's looks); each row that meets fmt, with fmt's text TOLD by the authors' own Lean function (tested against real Go, not proved from fmt's source: count such statements apart). THE CARD IS WHAT COUNTS. Prove the row's statement (the work); the ties are given (YtopmmlcjlopmaaaDoorTie.lean); close each card by the builder's one call (the guide's Derived/Test/ToyasCard.lean, 'card_holds'). Laid BY PROGRAM, IN A SANDBOX (cutbox-door.mjs). By AI agents, Wed Nov 11 2026. No macro, syntax, notation, axiom, sorry.
-/
import Derived.Test.YtopmmlcjlopmaaaDoorRows
import GoSem.ClaimSeven
namespace Go.Proofs.YtopmmlcjlopmaaaDoor
namespace Rows

/-- THE TIED CARD OF 'dormerlaw09.RefwalkJudges'. -/
def refwalkJudgesCard : Claim7 := { stood := { row := refwalkJudgesRow, standIns := [], harness := (true, "25339d304915d8aa41ba47df432a69ecccd3f892c064f9d6de5f469a04b786a8"), looks := true }, kinds := [], alts := [], laidByText := true, laidKinds := [.data, .handle], laidTests := true, laidLooks := .later }
def RefwalkJudgesCardSaid : Prop := Claim7.holds Tryd.pinned (.plain (OpenSpec.ofChange refwalkJudgesSpec)) refwalkJudgesCard

/-- THE TIED CARD OF 'dormerlaw09.RefwalkLess'. -/
def refwalkLessCard : Claim7 := { stood := { row := refwalkLessRow, standIns := [], harness := (true, "25339d304915d8aa41ba47df432a69ecccd3f892c064f9d6de5f469a04b786a8"), looks := true }, kinds := [], alts := [], laidByText := true, laidKinds := [.data, .handle], laidTests := true, laidLooks := .later }
def RefwalkLessCardSaid : Prop := Claim7.holds Tryd.pinned (.plain (OpenSpec.ofChange refwalkLessSpec)) refwalkLessCard

/-- THE SECOND FORM's CARD OF 'dormerlaw09.RefwalkJudges'. -/
def refwalkJudgesUptoCard : Claim7 := { stood := { row := refwalkJudgesUptoRow, standIns := [], harness := (true, "25339d304915d8aa41ba47df432a69ecccd3f892c064f9d6de5f469a04b786a8"), looks := true }, kinds := [], alts := [], laidByText := true, laidKinds := [.data, .handle], laidTests := true, laidLooks := .later }
def RefwalkJudgesUptoCardSaid : Prop := Claim7.holds Tryd.pinned (.plain (OpenSpec.upto refwalkJudgesSpec)) refwalkJudgesUptoCard

/-- THE SECOND FORM's CARD OF 'dormerlaw09.RefwalkLess'. -/
def refwalkLessUptoCard : Claim7 := { stood := { row := refwalkLessUptoRow, standIns := [], harness := (true, "25339d304915d8aa41ba47df432a69ecccd3f892c064f9d6de5f469a04b786a8"), looks := true }, kinds := [], alts := [], laidByText := true, laidKinds := [.data, .handle], laidTests := true, laidLooks := .later }
def RefwalkLessUptoCardSaid : Prop := Claim7.holds Tryd.pinned (.plain (OpenSpec.upto refwalkLessSpec)) refwalkLessUptoCard
end Rows
end Go.Proofs.YtopmmlcjlopmaaaDoor
