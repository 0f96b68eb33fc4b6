/- Several texts of ours in one: Vm, R, N. -/
import Derived.Test.YtopmmlcjlopmaaaGreatDoorGBvAM
import Derived.LoopTactic
import Derived.Lib.Hide
/- Plain mathematics of addresses: sign, places, pages, the next page. Nothing of the program. -/
namespace Go.Proofs.YtopmmlcjlopmaaaGreatDoor
set_option linter.unusedVariables false
set_option linter.unusedSimpArgs false

def signF (a : Int) : Int := if a % 281474976710656 < 140737488355328 then a % 281474976710656 else a % 281474976710656 + 18446462598732840960
def canonF (a : Int) : Bool := a == signF a
def sizeF (l : Int) : Int := if l = 1 then 4096 else if l = 2 then 2097152 else if l = 3 then 1073741824 else 0
def lowF (a l : Int) : Int := if sizeF l = 0 then 0 else a % sizeF l
def pageF (a l : Int) : Int := a - lowF a l
def indexF (a l : Int) : Int := if l = 1 then a / 4096 % 512 else if l = 2 then a / 2097152 % 512 else if l = 3 then a / 1073741824 % 512 else if l = 4 then a / 549755813888 % 512 else 0
/-- the word whose bits 48 to 63 are as the bit 47 -/
theorem sign_of {a s : Int} (ha : W64 a) (hs : W64 s) (hl : ∀ i, i < 48 → tb s i = tb a i) (hh : ∀ i, 48 ≤ i → i < 64 → tb s i = tb a 47) : s = signF a := by
  have e1 : s % 2 ^ 48 = a % 2 ^ 48 := by
    have wa : W64 (a % 2 ^ 48) := by obtain ⟨h0, h1⟩ := ha; unfold W64; omega
    have ws : W64 (s % 2 ^ 48) := by obtain ⟨h0, h1⟩ := hs; unfold W64; omega
    apply tb_ext ws wa
    intro i hi
    rw [tb_mod hs.1, tb_mod ha.1]
    by_cases c : i < 48
    · rw [hl i c]
    · simp [c]
  have all : ∀ j, j < 17 → tb (s / 2 ^ 47) j = tb a 47 := by
    intro j hj
    rw [tb_shr hs.1]
    by_cases c : j = 0
    · subst c; exact hl 47 (by omega)
    · exact hh _ (by omega) (by omega)
  have over : ∀ j, 17 ≤ j → tb (s / 2 ^ 47) j = false := by
    intro j hj
    rw [tb_shr hs.1]
    exact tb_ge hs (by omega)
  have e3 : (a / 2 ^ 47 % 2 = 1) = (tb a 47 = true) := by rw [tb_div ha.1]; simp
  have wd := w64_shr hs 47
  have e2 : s / 2 ^ 47 = if tb a 47 then 131071 else 0 := by
    cases hb : tb a 47
    · rw [if_neg (by decide)]
      apply tb_ext wd w64_zero
      intro j hj
      rw [tb_zero]
      by_cases c : j < 17
      · rw [all j c, hb]
      · exact over j (by omega)
    · rw [if_pos rfl]
      apply tb_ext wd ⟨by decide, by decide⟩
      intro j hj
      rw [show (131071 : Int) = 2 ^ 17 - 1 by decide, tb_low]
      by_cases c : j < 17
      · rw [all j c, hb]; simp [c]
      · rw [over j (by omega)]; simp [c]
  obtain ⟨a0, a1⟩ := ha
  obtain ⟨s0, s1⟩ := hs
  unfold signF
  cases hb : tb a 47
  · rw [hb] at e2 e3
    simp only [Bool.false_eq_true, if_false, eq_iff_iff, iff_false] at e2 e3
    clear all over hl hh wd
    rw [if_pos (by omega)]
    omega
  · rw [hb] at e2 e3
    simp only [if_true, eq_iff_iff, iff_true] at e2 e3
    clear all over hl hh wd
    rw [if_neg (by omega)]
    omega

theorem get_index {a : Int} (ha : W64 a) : getF a 12 9 = indexF a 1 ∧ getF a 21 9 = indexF a 2 ∧ getF a 30 9 = indexF a 3 ∧ getF a 39 9 = indexF a 4 := by
  refine ⟨?_, ?_, ?_, ?_⟩ <;> (rw [get_div ha (by decide)]; rfl)

theorem index_bd (a l : Int) : 0 ≤ indexF a l ∧ indexF a l < 512 := by
  unfold indexF
  repeat' split
  all_goals omega

theorem size_bd (l : Int) : 0 ≤ sizeF l ∧ sizeF l ≤ 1073741824 := by
  unfold sizeF
  repeat' split
  all_goals omega

theorem low_bd {a : Int} (h : 0 ≤ a) (l : Int) : 0 ≤ lowF a l ∧ lowF a l ≤ a := by
  unfold lowF
  split
  · omega
  · have := size_bd l
    exact ⟨Int.emod_nonneg _ (by omega), emod_le h (by omega)⟩

theorem w64_page {a : Int} (ha : W64 a) (l : Int) : W64 (pageF a l) := by
  have := low_bd ha.1 l
  obtain ⟨h0, h1⟩ := ha
  unfold pageF W64
  omega

theorem wrap_page {a : Int} (ha : W64 a) (l : Int) : IntKind.u64.wrap (a - lowF a l) = pageF a l := by
  obtain ⟨h0, h1⟩ := w64_page ha l
  rw [IntKind.wrap_u64]
  unfold pageF at *
  omega

end Go.Proofs.YtopmmlcjlopmaaaGreatDoor
/- Contracts of package dormerref01: each answers as package field does. -/
namespace Go.Proofs.YtopmmlcjlopmaaaGreatDoor
set_option linter.unusedVariables false
set_option linter.unusedSimpArgs false
open Go.ChangeShapes Go.WideShapes Go.ChangeAt Go.RowKit


theorem bit_nat {a : Int} (ha : W64 a) {k : Nat} (hk : k < 64) : bitF a (k : Int) = tb a k := by
  rw [bitF_tb ha]; simp; omega

end Go.Proofs.YtopmmlcjlopmaaaGreatDoor
/- What the calls of package field answer where there is no field; numbers that came in. -/
namespace Go.Proofs.YtopmmlcjlopmaaaGreatDoor
set_option linter.unusedVariables false
set_option linter.unusedSimpArgs false
open Go.ChangeShapes Go.WideShapes Go.ChangeAt Go.RowKit

theorem w64_of {a : Int} (h : (Lit.int .u64 a).wf = true) : W64 a := by
  have := bounds_u64 h; unfold W64; omega
end Go.Proofs.YtopmmlcjlopmaaaGreatDoor
