/- Several texts of ours in one: L7f, Te, T9. -/
import Derived.Test.YtopmmlcjlopmaaaGreatDoorGFjFkL7
import Derived.Test.YtopmmlcjlopmaaaGreatDoorRows
import Derived.ProofKit
import Derived.LaidMore
import Derived.LaidHandle
import Derived.OpenShut
import Derived.SliceStrings
import Derived.ChangeSlices
import Derived.ChangeMaps5
import Derived.Test.YtopmmlcjlopmaaaGreatDoorGVaVrFr
import Derived.Stop.Joined
import Derived.Test.YtopmmlcjlopmaaaGreatDoorGVjTdFa
/- Layer 7: the walks of FaultFound and FaultGP. -/
namespace Go.Proofs.YtopmmlcjlopmaaaGreatDoor
set_option linter.unusedVariables false
set_option linter.unusedSimpArgs false
open Go.RowKit Go.Extern.Stop Go.Stop Go.Extern

end Go.Proofs.YtopmmlcjlopmaaaGreatDoor
/- Layer 7: from the row's condition to what the walks ask: package errors' own variable; a slice of strings that came in. -/
namespace Go.Proofs.YtopmmlcjlopmaaaGreatDoor
set_option linter.unusedVariables false
set_option linter.unusedSimpArgs false
open Go.ChangeShapes Go.WideShapes Go.ChangeAt Go.RowKit Go.Joins

theorem gErr : Tryz.prog.globalNamed "errors.errorType" = some 0 := by kernel_rfl
theorem rtErr : (Tryz.prog.cutTypes.find? (·.1 == "internal/reflectlite.rtype")).map (·.2) = some 178 := by kernel_rfl
theorem oneErr : ((List.range 244).filter fun t => Tryz.prog.rowNamed t [101, 114, 114, 111, 114]) = [39] := by kernel_rfl
theorem sizeErr : Tryz.prog.types.size = 244 := by kernel_rfl

theorem errT_of_handles {W : World} {l : List (String × DataW Unit)} (h : handlesMet Tryz.prog l W) (hm : ("errors.errorType", Rows.laid_errors_errorType) ∈ l) : ErrT W := by
  obtain ⟨name, u, ty, e1, e2, e3, e4, e5⟩ := h _ hm
  have en : name = [101, 114, 114, 111, 114] := (Option.some.inj e1).symm
  subst en
  obtain rfl := Option.some.inj (rtErr.symm.trans e2)
  have hm : ty ∈ (List.range 244).filter fun t => Tryz.prog.rowNamed t [101, 114, 114, 111, 114] := List.mem_filter.2 ⟨List.mem_range.2 (by rw [← sizeErr]; exact e3), e4⟩
  rw [oneErr] at hm
  obtain rfl := List.mem_singleton.1 hm
  have hh : typeHandle Tryz.prog 39 = .pointer (some ⟨2, 39, none⟩) := by kernel_rfl
  rw [hh] at e5
  have hc : W.cell? ⟨0, 0, none⟩ = some (.iface 178 (.agg #[.pointer (some ⟨2, 39, none⟩)])) := by simpa using World.var?_cell gErr e5 0
  exact hc

end Go.Proofs.YtopmmlcjlopmaaaGreatDoor
/- Layer 9: from the row's condition, which lists va's table of shifts and package errors' own variable, to what the walks ask. -/
namespace Go.Proofs.YtopmmlcjlopmaaaGreatDoor
set_option linter.unusedVariables false
set_option linter.unusedSimpArgs false
open Go.ChangeShapes Go.WideShapes Go.ChangeAt Go.RowKit Go.Joins

def laid9 : List (String × DataW Unit) := [("dormer/va.shifts", Rows.laid_dormer_va_shifts), ("errors.errorType", Rows.laid_errors_errorType)]

theorem met9 (os : Os) (args : Array Value) : laidMetH Tryz.prog laid9 ((World.doorLaid Tryz.prog 400 os).forCall (fun _ _ => 0) ⟨#[], args, []⟩).memory :=
  laidMetH_of_parts3 (fuel := 8) (laidMet_of_run' 8 (by kernel_rfl) (by kernel_rfl)) (by kernel_rfl) (by kernel_rfl)

theorem parts9 {W : World} (h : laidMetH Tryz.prog laid9 W) : laidMet Tryz.prog [("dormer/va.shifts", Rows.laid_dormer_va_shifts)] W ∧ handlesMet Tryz.prog [("errors.errorType", Rows.laid_errors_errorType)] W := h

theorem errT9 {W : World} (h : laidMetH Tryz.prog laid9 W) : ErrT W := errT_of_handles (parts9 h).2 (List.mem_singleton.2 rfl)

theorem shifts9 {W : World} (h : laidMetH Tryz.prog laid9 W) : Shifts W := by
  have hT : Lib.TabIs Tryz.prog W "dormer/va.shifts" .i64 [12, 21, 30, 39] :=
    Lib.tabIs_of_head gShifts tShifts Tryz.underlying197 Tryz.underlying3 (by kernel_rfl) (by kernel_rfl) (parts9 h).1
  exact ⟨hT.cell gShifts 0 (by decide), hT.cell gShifts 1 (by decide), hT.cell gShifts 2 (by decide), hT.cell gShifts 3 (by decide)⟩
end Go.Proofs.YtopmmlcjlopmaaaGreatDoor
