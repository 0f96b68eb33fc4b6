/- Several texts of ours in one: Vm, R, N. -/
import Derived.Test.YtiihhlmddmicjaaDoorGBvAM
import Derived.LoopTactic
import Derived.Lib.Hide
/- Plain mathematics of addresses: sign, places, pages, the next page. Nothing of the program. -/
namespace Go.Proofs.YtiihhlmddmicjaaDoor
set_option linter.unusedVariables false
set_option linter.unusedSimpArgs false

def sizeF (l : Int) : Int := if l = 1 then 4096 else if l = 2 then 2097152 else if l = 3 then 1073741824 else 0
def lowF (a l : Int) : Int := if sizeF l = 0 then 0 else a % sizeF l
def pageF (a l : Int) : Int := a - lowF a l
def indexF (a l : Int) : Int := if l = 1 then a / 4096 % 512 else if l = 2 then a / 2097152 % 512 else if l = 3 then a / 1073741824 % 512 else if l = 4 then a / 549755813888 % 512 else 0
theorem get_index {a : Int} (ha : W64 a) : getF a 12 9 = indexF a 1 ∧ getF a 21 9 = indexF a 2 ∧ getF a 30 9 = indexF a 3 ∧ getF a 39 9 = indexF a 4 := by
  refine ⟨?_, ?_, ?_, ?_⟩ <;> (rw [get_div ha (by decide)]; rfl)

theorem index_bd (a l : Int) : 0 ≤ indexF a l ∧ indexF a l < 512 := by
  unfold indexF
  repeat' split
  all_goals omega

theorem size_bd (l : Int) : 0 ≤ sizeF l ∧ sizeF l ≤ 1073741824 := by
  unfold sizeF
  repeat' split
  all_goals omega

theorem low_bd {a : Int} (h : 0 ≤ a) (l : Int) : 0 ≤ lowF a l ∧ lowF a l ≤ a := by
  unfold lowF
  split
  · omega
  · have := size_bd l
    exact ⟨Int.emod_nonneg _ (by omega), emod_le h (by omega)⟩

theorem w64_page {a : Int} (ha : W64 a) (l : Int) : W64 (pageF a l) := by
  have := low_bd ha.1 l
  obtain ⟨h0, h1⟩ := ha
  unfold pageF W64
  omega

theorem wrap_page {a : Int} (ha : W64 a) (l : Int) : IntKind.u64.wrap (a - lowF a l) = pageF a l := by
  obtain ⟨h0, h1⟩ := w64_page ha l
  rw [IntKind.wrap_u64]
  unfold pageF at *
  omega

end Go.Proofs.YtiihhlmddmicjaaDoor
/- Contracts of package dormerref01: each answers as package field does. -/
namespace Go.Proofs.YtiihhlmddmicjaaDoor
set_option linter.unusedVariables false
set_option linter.unusedSimpArgs false
open Go.ChangeShapes Go.WideShapes Go.ChangeAt Go.RowKit


theorem bit_nat {a : Int} (ha : W64 a) {k : Nat} (hk : k < 64) : bitF a (k : Int) = tb a k := by
  rw [bitF_tb ha]; simp; omega

end Go.Proofs.YtiihhlmddmicjaaDoor
/- What the calls of package field answer where there is no field; numbers that came in. -/
namespace Go.Proofs.YtiihhlmddmicjaaDoor
set_option linter.unusedVariables false
set_option linter.unusedSimpArgs false
open Go.ChangeShapes Go.WideShapes Go.ChangeAt Go.RowKit

end Go.Proofs.YtiihhlmddmicjaaDoor
