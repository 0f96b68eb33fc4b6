/- Contracts of package va: what each call returns, where the table of shifts holds what the program's text lays there. -/
import Derived.Test.YtdkpahlkgdkloaaA
import Derived.Test.YtdkpahlkgdkloaaVm
import Derived.Test.YtdkpahlkgdkloaaN
import Derived.Below
import Derived.OwnWalk
namespace Go.Proofs.Ytdkpahlkgdkloaa
set_option linter.unusedVariables false
set_option linter.unusedSimpArgs false
open Go.ChangeShapes Go.WideShapes Go.ChangeAt Go.RowKit

/-- the table of shifts, as it is laid -/
def Shifts (w : World) : Prop :=
  w.cell? ⟨0, 0, none⟩ = some (.int .i64 12) ∧ w.cell? ⟨0, 1, none⟩ = some (.int .i64 21) ∧ w.cell? ⟨0, 2, none⟩ = some (.int .i64 30) ∧ w.cell? ⟨0, 3, none⟩ = some (.int .i64 39)

theorem i64_16 : I64 16 := ⟨by decide, by decide⟩
theorem i64_9 : I64 9 := ⟨by decide, by decide⟩

theorem sign_or {a : Int} (ha : W64 a) (h : bitF a 47 = true) : bits .or .u64 a (maskF 48 16) = signF a := by
  have h' : tb a 47 = true := by rw [bitF_tb ha] at h; simpa using h
  apply sign_of ha (w64_bits _ _ _)
  · intro i hi
    rw [tb_or ha.1 (w64_mask _ _).1, tb_mask]
    simp [show i < 64 by omega]; omega
  · intro i h1 h2
    rw [tb_or ha.1 (w64_mask _ _).1, tb_mask, h']
    simp [h2, show isF 48 16 = true by decide]; right; omega

theorem sign_andNot {a : Int} (ha : W64 a) (h : bitF a 47 = false) : bits .andNot .u64 a (maskF 48 16) = signF a := by
  have h' : tb a 47 = false := by rw [bitF_tb ha] at h; simpa using h
  apply sign_of ha (w64_bits _ _ _)
  · intro i hi
    rw [tb_andNot ha.1 (w64_mask _ _).1, tb_mask]
    simp [show i < 64 by omega]; omega
  · intro i h1 h2
    rw [tb_andNot ha.1 (w64_mask _ _).1, tb_mask, h']
    simp [h2, show isF 48 16 = true by decide]; omega

theorem ret_two {k : IntKind} {a b : Int} {x y : Bool} (h : a = b) (g : x = y) : Ending.returned (.tuple #[.int k a, .bool x]) = .returned (.tuple #[.int k b, .bool y]) := by rw [h, g]

theorem next_no {a : Int} (h : nextB a = false) : nextF a = 0 := by unfold nextF; rw [h]; rfl
theorem next_yes {a : Int} (h : nextB a = true) : nextF a = overF a := by unfold nextF; rw [h]; rfl
theorem over_eq {a n : Int} (h : overF a = n) : IntKind.u64.wrap (pageF a 1 + sizeF 1) = n := h

end Go.Proofs.Ytdkpahlkgdkloaa
