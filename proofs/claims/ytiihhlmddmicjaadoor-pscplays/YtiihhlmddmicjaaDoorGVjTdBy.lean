/- Several texts of ours in one: Vj, Td, By. -/
import Derived.Test.YtiihhlmddmicjaaDoorGVaVrFr
import Derived.Test.YtiihhlmddmicjaaDoorRows
import Derived.ProofKit
import Derived.LaidMore
import Derived.Lib.LaidTab
import Derived.OpenShut
import Derived.Stop.Joined
import Derived.Test.YtiihhlmddmicjaaDoorGBvAM
/- Join, of package va and of the document: four places' address. -/
namespace Go.Proofs.YtiihhlmddmicjaaDoor
set_option linter.unusedVariables false
set_option linter.unusedSimpArgs false
open Go.ChangeShapes Go.WideShapes Go.ChangeAt Go.RowKit Go.Joins

end Go.Proofs.YtiihhlmddmicjaaDoor
/- Layer 3's table of shifts: from the row's condition to the four cells that the walks ask; the world that the program's own initialiser leaves meets it. -/
namespace Go.Proofs.YtiihhlmddmicjaaDoor
set_option linter.unusedVariables false
set_option linter.unusedSimpArgs false
open Go.ChangeShapes Go.WideShapes Go.ChangeAt Go.RowKit

def laidShifts : List (String × DataW Unit) := [("dormer/va.shifts", Rows.laid_dormer_va_shifts)]

theorem gShifts : Tryd.prog.globalNamed "dormer/va.shifts" = some 0 := by kernel_rfl
theorem tShifts : (Tryd.prog.globals[0]?).map (·.type) = some 161 := by kernel_rfl

theorem door_met (os : Os) (args : Array Value) : laidMetH Tryd.prog laidShifts ((World.doorLaid Tryd.prog 400 os).forCall (fun _ _ => 0) ⟨#[], args, []⟩).memory :=
  laidMetH_of_parts3 (fuel := 8) (laidMet_of_run' 8 (by kernel_rfl) (by kernel_rfl)) (by kernel_rfl) (by kernel_rfl)

theorem shifts_of_laid {W : World} (h : laidMetH Tryd.prog laidShifts W) : Shifts W := by
  rw [MakeChecks.laidMetH_plain _ _ _ (by kernel_rfl)] at h
  have hT : Lib.TabIs Tryd.prog W "dormer/va.shifts" .i64 [12, 21, 30, 39] :=
    Lib.tabIs_of_head gShifts tShifts Tryd.underlying161 Tryd.underlying3 (by kernel_rfl) (by kernel_rfl) h
  exact ⟨hT.cell gShifts 0 (by decide), hT.cell gShifts 1 (by decide), hT.cell gShifts 2 (by decide), hT.cell gShifts 3 (by decide)⟩

end Go.Proofs.YtiihhlmddmicjaaDoor
/- Plain mathematics: words of 64 bits told by their bytes. Nothing of the program. -/
namespace Go.Proofs.YtiihhlmddmicjaaDoor
set_option linter.unusedVariables false
set_option linter.unusedSimpArgs false

def hasB (f n : Int) : Bool := decide (0 ≤ f ∧ 1 ≤ n ∧ f ≤ 8 - n)
def cutF (x f n : Int) : Int := if hasB f n then getF x (8 * f) (8 * n) else 0
def byteF (x i : Int) : Int := cutF x i 1
/- ### a list of bytes as a word -/
/-- a word's bytes -/
def bytesOf (x : Int) : List Int := (List.range 8).map fun k : Nat => byteF x (k : Int)

end Go.Proofs.YtiihhlmddmicjaaDoor
