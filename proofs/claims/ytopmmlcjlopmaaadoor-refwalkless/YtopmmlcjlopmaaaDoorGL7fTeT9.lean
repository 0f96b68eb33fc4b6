/- Several texts of ours in one: L7f, Te, T9. -/
import Derived.Test.YtopmmlcjlopmaaaDoorGFjFkL7
import Derived.Test.YtopmmlcjlopmaaaDoorRows
import Derived.ProofKit
import Derived.LaidMore
import Derived.LaidHandle
import Derived.OpenShut
import Derived.SliceStrings
import Derived.ChangeSlices
import Derived.ChangeMaps5
import Derived.Test.YtopmmlcjlopmaaaDoorGVaVrFr
import Derived.Stop.Joined
import Derived.Test.YtopmmlcjlopmaaaDoorGVjTdFa
/- Layer 7: the walks of FaultFound and FaultGP. -/
namespace Go.Proofs.YtopmmlcjlopmaaaDoor
set_option linter.unusedVariables false
set_option linter.unusedSimpArgs false
open Go.RowKit Go.Extern.Stop Go.Stop Go.Extern

/-- n strings lie from A on -/
def StrsIn (w : World) (A : Option Addr) (n : Nat) : Prop := ∀ k, k < n → ∃ (b off : Nat) (s : ByteArray), A = some ⟨b, off, none⟩ ∧ w.cell? ⟨b, off + k, none⟩ = some (.string s)
theorem strs_keep {w w' : World} {A : Option Addr} {n : Nat} (h : StrsIn w A n) (hk : Kept w w') : StrsIn w' A n := fun k hkn => by
  obtain ⟨b, off, s, h1, h2⟩ := h k hkn
  exact ⟨b, off, s, h1, kept_cell hk h2⟩

set_option maxRecDepth 100000 in
theorem eqlPage (a b c d : Int) (w : World) : (Op.equalIn 10000 56 (.agg #[.int .u64 a, .int .i64 c]) (.agg #[.int .u64 b, .int .i64 d])).run Tryd.prog w = .ok (a == b && c == d) w := by
  have u3 := Tryd.underlying3
  have u22 := Tryd.underlying25
  have hS : Tryd.prog.underlying 56 = some (.struct (Tryd.prog.fieldsOf 56)) := by kernel_rfl
  have hp : Tryd.prog.stoodInHeld 56 = false := by kernel_rfl
  rw [show (10000 : Nat) = 9999 + 1 from rfl, run_equalIn_agg w 9999 56 _ _ hS hp]
  simp only [Program.fieldsOf, Tryd.underlying56]
  go_simp
  by_cases h1 : a = b <;> by_cases h2 : c = d <;> simp [h1, h2]

theorem eqlPage_self (a c : Int) (w : World) : (Op.equalIn 10000 56 (.agg #[.int .u64 a, .int .i64 c]) (.agg #[.int .u64 a, .int .i64 c])).run Tryd.prog w = .ok true w := by
  rw [eqlPage]; simp

theorem is_gp (n : Nat) (t : TypeId) (x : Value) (w : World) (h : NumIn w n t x 5) :
    Calls Tryd.prog 29 #[.iface t x, .iface 68 (.int .i64 5)] w fun r w' => r = .returned (.bool true) ∧ w' = w := is_numIn n t x 5 5 w h
theorem is_nogp (n : Nat) (t : TypeId) (x : Value) (w : World) (h : NumIn w n t x 5) :
    Calls Tryd.prog 29 #[.iface t x, .iface 68 (.int .i64 4)] w fun r w' => r = .returned (.bool false) ∧ w' = w := is_numIn n t x 5 4 w h

end Go.Proofs.YtopmmlcjlopmaaaDoor
/- Layer 7: from the row's condition to what the walks ask: package errors' own variable; a slice of strings that came in. -/
namespace Go.Proofs.YtopmmlcjlopmaaaDoor
set_option linter.unusedVariables false
set_option linter.unusedSimpArgs false
open Go.ChangeShapes Go.WideShapes Go.ChangeAt Go.RowKit Go.Joins

def laidErr : List (String × DataW Unit) := [("errors.errorType", Rows.laid_errors_errorType)]

theorem gErr : Tryd.prog.globalNamed "errors.errorType" = some 0 := by kernel_rfl
theorem rtErr : (Tryd.prog.cutTypes.find? (·.1 == "internal/reflectlite.rtype")).map (·.2) = some 132 := by kernel_rfl
theorem oneErr : ((List.range 181).filter fun t => Tryd.prog.rowNamed t [101, 114, 114, 111, 114]) = [36] := by kernel_rfl
theorem sizeErr : Tryd.prog.types.size = 181 := by kernel_rfl

theorem errT_of_handles {W : World} {l : List (String × DataW Unit)} (h : handlesMet Tryd.prog l W) (hm : ("errors.errorType", Rows.laid_errors_errorType) ∈ l) : ErrT W := by
  obtain ⟨name, u, ty, e1, e2, e3, e4, e5⟩ := h _ hm
  have en : name = [101, 114, 114, 111, 114] := (Option.some.inj e1).symm
  subst en
  obtain rfl := Option.some.inj (rtErr.symm.trans e2)
  have hm : ty ∈ (List.range 181).filter fun t => Tryd.prog.rowNamed t [101, 114, 114, 111, 114] := List.mem_filter.2 ⟨List.mem_range.2 (by rw [← sizeErr]; exact e3), e4⟩
  rw [oneErr] at hm
  obtain rfl := List.mem_singleton.1 hm
  have hh : typeHandle Tryd.prog 36 = .pointer (some ⟨2, 36, none⟩) := by kernel_rfl
  rw [hh] at e5
  have hc : W.cell? ⟨0, 0, none⟩ = some (.iface 132 (.agg #[.pointer (some ⟨2, 36, none⟩)])) := by simpa using World.var?_cell gErr e5 0
  exact hc

theorem errT_of_laid {W : World} (h : laidMetH Tryd.prog laidErr W) : ErrT W := by
  have h' : laidMet Tryd.prog [] W ∧ handlesMet Tryd.prog laidErr W := h
  exact errT_of_handles h'.2 (List.mem_singleton.2 rfl)

theorem err_met (os : Os) (args : Array Value) : laidMetH Tryd.prog laidErr ((World.doorLaid Tryd.prog 400 os).forCall (fun _ _ => 0) ⟨#[], args, []⟩).memory :=
  laidMetH_of_parts3 (fuel := 8) (laidMet_of_run' 8 (by kernel_rfl) (by kernel_rfl)) (by kernel_rfl) (by kernel_rfl)

end Go.Proofs.YtopmmlcjlopmaaaDoor
/- Layer 9: from the row's condition, which lists va's table of shifts and package errors' own variable, to what the walks ask. -/
namespace Go.Proofs.YtopmmlcjlopmaaaDoor
set_option linter.unusedVariables false
set_option linter.unusedSimpArgs false
open Go.ChangeShapes Go.WideShapes Go.ChangeAt Go.RowKit Go.Joins

def laid9 : List (String × DataW Unit) := [("dormer/va.shifts", Rows.laid_dormer_va_shifts), ("errors.errorType", Rows.laid_errors_errorType)]

theorem met9 (os : Os) (args : Array Value) : laidMetH Tryd.prog laid9 ((World.doorLaid Tryd.prog 400 os).forCall (fun _ _ => 0) ⟨#[], args, []⟩).memory :=
  laidMetH_of_parts3 (fuel := 8) (laidMet_of_run' 8 (by kernel_rfl) (by kernel_rfl)) (by kernel_rfl) (by kernel_rfl)

theorem parts9 {W : World} (h : laidMetH Tryd.prog laid9 W) : laidMet Tryd.prog [("dormer/va.shifts", Rows.laid_dormer_va_shifts)] W ∧ handlesMet Tryd.prog [("errors.errorType", Rows.laid_errors_errorType)] W := h

theorem errT9 {W : World} (h : laidMetH Tryd.prog laid9 W) : ErrT W := errT_of_handles (parts9 h).2 (List.mem_singleton.2 rfl)

theorem shifts9 {W : World} (h : laidMetH Tryd.prog laid9 W) : Shifts W := by
  have hT : Lib.TabIs Tryd.prog W "dormer/va.shifts" .i64 [12, 21, 30, 39] :=
    Lib.tabIs_of_head gShifts tShifts Tryd.underlying124 Tryd.underlying3 (by kernel_rfl) (by kernel_rfl) (parts9 h).1
  exact ⟨hT.cell gShifts 0 (by decide), hT.cell gShifts 1 (by decide), hT.cell gShifts 2 (by decide), hT.cell gShifts 3 (by decide)⟩
end Go.Proofs.YtopmmlcjlopmaaaDoor
