/- What the calls of package field answer where there is no field; numbers that came in. -/
import Derived.Test.YtlpjbmlkpmhdlaaDoorR
namespace Go.Proofs.YtlpjbmlkpmhdlaaDoor
set_option linter.unusedVariables false
set_option linter.unusedSimpArgs false
open Go.ChangeShapes Go.WideShapes Go.ChangeAt Go.RowKit

theorem w64_of {a : Int} (h : (Lit.int .u64 a).wf = true) : W64 a := by
  have := bounds_u64 h; unfold W64; omega
theorem i64_of {a : Int} (h : (Lit.int .i64 a).wf = true) : I64 a := bounds_i64 h

theorem mask_no {lo n : Int} (h : isF lo n = false) : maskF lo n = 0 := by unfold maskF; rw [h]; rfl
theorem get_no (a : Int) {lo n : Int} (h : isF lo n = false) : getF a lo n = 0 := by unfold getF; rw [h]; rfl
theorem set_no (a v : Int) {lo n : Int} (h : isF lo n = false) : setF a lo n v = a := by unfold setF; rw [h]; rfl
theorem bit_no {a : Int} (ha : W64 a) {i : Int} (h : i < 0 ∨ 63 < i) : bitF a i = false := by
  rw [bitF_tb ha]
  rcases h with h | h
  · simp [show ¬ 0 ≤ i by omega]
  · simp [show ¬ i ≤ 63 by omega]
theorem with_no {a : Int} (ha : W64 a) {i : Int} (h : i < 0 ∨ 63 < i) (b : Bool) : withF a i b = a := by
  apply tb_ext (w64_with _ _) ha
  intro j hj
  rw [tb_with ha, if_neg (by omega)]

theorem mask_none (lo n : Int) (w : World) (hn : I64 n) (h : isF lo n = false) :
    Calls Tryd.prog 68 #[.int .i64 lo, .int .i64 n] w fun e w' => e = .returned (.int .u64 0) ∧ w = w' := by
  have := mask_any lo n w hn; rwa [mask_no h] at this
theorem get_none (a lo n : Int) (w : World) (hn : I64 n) (h : isF lo n = false) :
    Calls Tryd.prog 84 #[.int .u64 a, .int .i64 lo, .int .i64 n] w fun e w' => e = .returned (.int .u64 0) ∧ w = w' := by
  have := get_any a lo n w hn; rwa [get_no _ h] at this
end Go.Proofs.YtlpjbmlkpmhdlaaDoor
