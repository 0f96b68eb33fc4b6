/- Layer 3's table of shifts: from the row's condition to the four cells that the walks ask; the world that the program's own initialiser leaves meets it. -/
import Derived.Test.YtlpjbmlkpmhdlaaDoorRows
import Derived.Test.YtlpjbmlkpmhdlaaDoorVj
import Derived.ProofKit
import Derived.LaidMore
import Derived.Lib.LaidTab
import Derived.OpenShut
import Derived.Stop.Joined
namespace Go.Proofs.YtlpjbmlkpmhdlaaDoor
set_option linter.unusedVariables false
set_option linter.unusedSimpArgs false
open Go.ChangeShapes Go.WideShapes Go.ChangeAt Go.RowKit

def laidShifts : List (String × DataW Unit) := [("dormer/va.shifts", Rows.laid_dormer_va_shifts)]

theorem gShifts : Tryd.prog.globalNamed "dormer/va.shifts" = some 0 := by kernel_rfl
theorem tShifts : (Tryd.prog.globals[0]?).map (·.type) = some 133 := by kernel_rfl

theorem door_met (os : Os) (args : Array Value) : laidMetH Tryd.prog laidShifts ((World.doorLaid Tryd.prog 400 os).forCall (fun _ _ => 0) ⟨#[], args, []⟩).memory :=
  laidMetH_of_parts3 (fuel := 8) (laidMet_of_run' 8 (by kernel_rfl) (by kernel_rfl)) (by kernel_rfl) (by kernel_rfl)

theorem shifts_of_laid {W : World} (h : laidMetH Tryd.prog laidShifts W) : Shifts W := by
  rw [MakeChecks.laidMetH_plain _ _ _ (by kernel_rfl)] at h
  have hT : Lib.TabIs Tryd.prog W "dormer/va.shifts" .i64 [12, 21, 30, 39] :=
    Lib.tabIs_of_head gShifts tShifts Tryd.underlying133 Tryd.underlying3 (by kernel_rfl) (by kernel_rfl) h
  exact ⟨hT.cell gShifts 0 (by decide), hT.cell gShifts 1 (by decide), hT.cell gShifts 2 (by decide), hT.cell gShifts 3 (by decide)⟩

theorem size_of_shifts {W : World} (h : Shifts W) : 0 < W.heap.size := by
  rcases Nat.eq_zero_or_pos W.heap.size with e | e
  · have h0 := h.1
    unfold World.cell? at h0
    rw [Array.getElem?_eq_none (by show W.heap.size ≤ 0; omega)] at h0
    cases h0
  · exact e

theorem below_of_same {P : Program} {f : FuncId} {args : Array Value} {w : World} {v : Value} (h : Calls P f args w fun e w' => e = .returned v ∧ w = w') : Calls P f args w fun e w' => e = .returned v ∧ Below w.heap.size w w' :=
  h.mono fun _ _ ⟨he, hw⟩ => ⟨he, hw ▸ Below.refl _ _⟩

theorem list4 {α : Type} {zs : List α} (h : zs.length = 4) : ∃ t u x y, zs = [t, u, x, y] := by
  match zs, h with
  | [t, u, x, y], _ => exact ⟨t, u, x, y, rfl⟩

end Go.Proofs.YtlpjbmlkpmhdlaaDoor
