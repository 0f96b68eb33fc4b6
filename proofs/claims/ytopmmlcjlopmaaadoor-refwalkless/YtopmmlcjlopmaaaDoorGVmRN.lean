/- Several texts of ours in one: Vm, R, N. -/
import Derived.Test.YtopmmlcjlopmaaaDoorGBvAM
import Derived.LoopTactic
import Derived.Lib.Hide
/- Plain mathematics of addresses: sign, places, pages, the next page. Nothing of the program. -/
namespace Go.Proofs.YtopmmlcjlopmaaaDoor
set_option linter.unusedVariables false
set_option linter.unusedSimpArgs false

def signF (a : Int) : Int := if a % 281474976710656 < 140737488355328 then a % 281474976710656 else a % 281474976710656 + 18446462598732840960
def canonF (a : Int) : Bool := a == signF a
def sizeF (l : Int) : Int := if l = 1 then 4096 else if l = 2 then 2097152 else if l = 3 then 1073741824 else 0
def lowF (a l : Int) : Int := if sizeF l = 0 then 0 else a % sizeF l
def pageF (a l : Int) : Int := a - lowF a l
def indexF (a l : Int) : Int := if l = 1 then a / 4096 % 512 else if l = 2 then a / 2097152 % 512 else if l = 3 then a / 1073741824 % 512 else if l = 4 then a / 549755813888 % 512 else 0
def placesF (p q r s low : Int) : Int := (((p % 512 * 512 + q % 512) * 512 + r % 512) * 512 + s % 512) * 4096 + low % 4096
def joinF (p q r s low : Int) : Int := signF (placesF p q r s low)
def overF (a : Int) : Int := IntKind.u64.wrap (pageF a 1 + 4096)
def nextB (a : Int) : Bool := canonF a && (canonF (overF a) && !decide (overF a < a))
def nextF (a : Int) : Int := if nextB a then overF a else 0

theorem w64_sign (a : Int) : W64 (signF a) := by unfold W64 signF; split <;> omega

theorem sign_mod (a : Int) : signF a % 281474976710656 = a % 281474976710656 := by unfold signF; split <;> omega

theorem sign_eq {a b : Int} (h : a % 281474976710656 = b % 281474976710656) : signF a = signF b := by unfold signF; rw [h]

theorem sign_sign (a : Int) : signF (signF a) = signF a := sign_eq (sign_mod a)

theorem canon_sign (a : Int) : canonF (signF a) = true := by unfold canonF; rw [sign_sign]; simp

theorem canon_iff (a : Int) : canonF a = true ↔ a = signF a := by unfold canonF; simp

/-- the word whose bits 48 to 63 are as the bit 47 -/
theorem sign_of {a s : Int} (ha : W64 a) (hs : W64 s) (hl : ∀ i, i < 48 → tb s i = tb a i) (hh : ∀ i, 48 ≤ i → i < 64 → tb s i = tb a 47) : s = signF a := by
  have e1 : s % 2 ^ 48 = a % 2 ^ 48 := by
    have wa : W64 (a % 2 ^ 48) := by obtain ⟨h0, h1⟩ := ha; unfold W64; omega
    have ws : W64 (s % 2 ^ 48) := by obtain ⟨h0, h1⟩ := hs; unfold W64; omega
    apply tb_ext ws wa
    intro i hi
    rw [tb_mod hs.1, tb_mod ha.1]
    by_cases c : i < 48
    · rw [hl i c]
    · simp [c]
  have all : ∀ j, j < 17 → tb (s / 2 ^ 47) j = tb a 47 := by
    intro j hj
    rw [tb_shr hs.1]
    by_cases c : j = 0
    · subst c; exact hl 47 (by omega)
    · exact hh _ (by omega) (by omega)
  have over : ∀ j, 17 ≤ j → tb (s / 2 ^ 47) j = false := by
    intro j hj
    rw [tb_shr hs.1]
    exact tb_ge hs (by omega)
  have e3 : (a / 2 ^ 47 % 2 = 1) = (tb a 47 = true) := by rw [tb_div ha.1]; simp
  have wd := w64_shr hs 47
  have e2 : s / 2 ^ 47 = if tb a 47 then 131071 else 0 := by
    cases hb : tb a 47
    · rw [if_neg (by decide)]
      apply tb_ext wd w64_zero
      intro j hj
      rw [tb_zero]
      by_cases c : j < 17
      · rw [all j c, hb]
      · exact over j (by omega)
    · rw [if_pos rfl]
      apply tb_ext wd ⟨by decide, by decide⟩
      intro j hj
      rw [show (131071 : Int) = 2 ^ 17 - 1 by decide, tb_low]
      by_cases c : j < 17
      · rw [all j c, hb]; simp [c]
      · rw [over j (by omega)]; simp [c]
  obtain ⟨a0, a1⟩ := ha
  obtain ⟨s0, s1⟩ := hs
  unfold signF
  cases hb : tb a 47
  · rw [hb] at e2 e3
    simp only [Bool.false_eq_true, if_false, eq_iff_iff, iff_false] at e2 e3
    clear all over hl hh wd
    rw [if_pos (by omega)]
    omega
  · rw [hb] at e2 e3
    simp only [if_true, eq_iff_iff, iff_true] at e2 e3
    clear all over hl hh wd
    rw [if_neg (by omega)]
    omega

/-- with its field set, in numbers -/
theorem set_parts {a v : Int} (ha : W64 a) (hv : W64 v) {lo n : Nat} (h1 : 1 ≤ n) (h2 : lo + n ≤ 64) :
    setF a lo n v % 2 ^ lo = a % 2 ^ lo ∧ setF a lo n v / 2 ^ lo % 2 ^ n = v % 2 ^ n ∧ setF a lo n v / 2 ^ (lo + n) = a / 2 ^ (lo + n) := by
  have hF : isF lo n = true := isF_mk (by omega) (by omega) (by omega)
  have hs := w64_set ha lo n v
  have hd := w64_shr hs lo
  have wm : ∀ {x : Int} (m : Nat), W64 x → W64 (x % 2 ^ m) := by
    intro x m hx
    have hp : (0 : Int) < 2 ^ m := Int.pow_pos (by decide)
    exact ⟨Int.emod_nonneg _ (by omega), Int.lt_of_le_of_lt (emod_le hx.1 hp) hx.2⟩
  refine ⟨?_, ?_, ?_⟩
  · apply tb_ext (wm _ hs) (wm _ ha)
    intro i hi
    rw [tb_mod hs.1, tb_mod ha.1, tb_set ha hv]
    by_cases c : i < lo
    · rw [if_neg (by simp; omega)]
    · simp [c]
  · apply tb_ext (wm _ hd) (wm _ hv)
    intro i hi
    rw [tb_mod hd.1, tb_mod hv.1, tb_shr hs.1, tb_set ha hv]
    by_cases c : i < n
    · rw [if_pos (by simp [hF]; omega)]
      congr 2
      simp
    · simp [c]
  · apply tb_ext (w64_shr hs _) (w64_shr ha _)
    intro i hi
    rw [tb_shr hs.1, tb_shr ha.1, tb_set ha hv, if_neg (by simp; omega)]

theorem set39 {r v : Int} (hv : W64 v) (r0 : 0 ≤ r) (r1 : r < 4096) : setF r 39 9 v = v % 512 * 549755813888 + r := by
  obtain ⟨e1, e2, e3⟩ := set_parts (a := r) (lo := 39) (n := 9) ⟨r0, by omega⟩ hv (by decide) (by decide)
  obtain ⟨s0, s1⟩ := w64_set (a := r) ⟨r0, by omega⟩ 39 9 v
  simp only [show ((39 : Nat) : Int) = 39 from rfl, show ((9 : Nat) : Int) = 9 from rfl] at e1 e2 e3
  generalize setF r 39 9 v = s at *
  omega
theorem set30 {q r v : Int} (hv : W64 v) (q0 : 0 ≤ q) (q1 : q < 512) (r0 : 0 ≤ r) (r1 : r < 4096) : setF (q * 549755813888 + r) 30 9 v = (q * 512 + v % 512) * 1073741824 + r := by
  have hw : W64 (q * 549755813888 + r) := ⟨by omega, by omega⟩
  obtain ⟨e1, e2, e3⟩ := set_parts (a := q * 549755813888 + r) (lo := 30) (n := 9) hw hv (by decide) (by decide)
  obtain ⟨s0, s1⟩ := w64_set hw 30 9 v
  simp only [show ((30 : Nat) : Int) = 30 from rfl, show ((9 : Nat) : Int) = 9 from rfl] at e1 e2 e3
  generalize setF (q * 549755813888 + r) 30 9 v = s at *
  omega
theorem set21 {q r v : Int} (hv : W64 v) (q0 : 0 ≤ q) (q1 : q < 262144) (r0 : 0 ≤ r) (r1 : r < 4096) : setF (q * 1073741824 + r) 21 9 v = (q * 512 + v % 512) * 2097152 + r := by
  have hw : W64 (q * 1073741824 + r) := ⟨by omega, by omega⟩
  obtain ⟨e1, e2, e3⟩ := set_parts (a := q * 1073741824 + r) (lo := 21) (n := 9) hw hv (by decide) (by decide)
  obtain ⟨s0, s1⟩ := w64_set hw 21 9 v
  simp only [show ((21 : Nat) : Int) = 21 from rfl, show ((9 : Nat) : Int) = 9 from rfl] at e1 e2 e3
  generalize setF (q * 1073741824 + r) 21 9 v = s at *
  omega
theorem set12 {q r v : Int} (hv : W64 v) (q0 : 0 ≤ q) (q1 : q < 134217728) (r0 : 0 ≤ r) (r1 : r < 4096) : setF (q * 2097152 + r) 12 9 v = (q * 512 + v % 512) * 4096 + r := by
  have hw : W64 (q * 2097152 + r) := ⟨by omega, by omega⟩
  obtain ⟨e1, e2, e3⟩ := set_parts (a := q * 2097152 + r) (lo := 12) (n := 9) hw hv (by decide) (by decide)
  obtain ⟨s0, s1⟩ := w64_set hw 12 9 v
  simp only [show ((12 : Nat) : Int) = 12 from rfl, show ((9 : Nat) : Int) = 9 from rfl] at e1 e2 e3
  generalize setF (q * 2097152 + r) 12 9 v = s at *
  omega

/-- four places set, one behind the other -/
def setsF (low p q r s : Int) : Int :=
  setF (setF (setF (setF (low % 4096) 39 9 (IntKind.u64.wrap p)) 30 9 (IntKind.u64.wrap q)) 21 9 (IntKind.u64.wrap r)) 12 9 (IntKind.u64.wrap s)

theorem wrap_mod (p : Int) : IntKind.u64.wrap p % 512 = p % 512 := by rw [IntKind.wrap_u64]; omega

theorem sets_places (low p q r s : Int) : setsF low p q r s = placesF p q r s low := by
  unfold setsF placesF
  rw [set39 (w64_wrap _) (by omega) (by omega), set30 (w64_wrap _) (by omega) (by omega) (by omega) (by omega),
    set21 (w64_wrap _) (by omega) (by omega) (by omega) (by omega), set12 (w64_wrap _) (by omega) (by omega) (by omega) (by omega)]
  simp only [wrap_mod]

theorem get_index {a : Int} (ha : W64 a) : getF a 12 9 = indexF a 1 ∧ getF a 21 9 = indexF a 2 ∧ getF a 30 9 = indexF a 3 ∧ getF a 39 9 = indexF a 4 := by
  refine ⟨?_, ?_, ?_, ?_⟩ <;> (rw [get_div ha (by decide)]; rfl)

theorem index_bd (a l : Int) : 0 ≤ indexF a l ∧ indexF a l < 512 := by
  unfold indexF
  repeat' split
  all_goals omega

theorem size_bd (l : Int) : 0 ≤ sizeF l ∧ sizeF l ≤ 1073741824 := by
  unfold sizeF
  repeat' split
  all_goals omega

theorem low_bd {a : Int} (h : 0 ≤ a) (l : Int) : 0 ≤ lowF a l ∧ lowF a l ≤ a := by
  unfold lowF
  split
  · omega
  · have := size_bd l
    exact ⟨Int.emod_nonneg _ (by omega), emod_le h (by omega)⟩

theorem w64_page {a : Int} (ha : W64 a) (l : Int) : W64 (pageF a l) := by
  have := low_bd ha.1 l
  obtain ⟨h0, h1⟩ := ha
  unfold pageF W64
  omega

theorem wrap_page {a : Int} (ha : W64 a) (l : Int) : IntKind.u64.wrap (a - lowF a l) = pageF a l := by
  obtain ⟨h0, h1⟩ := w64_page ha l
  rw [IntKind.wrap_u64]
  unfold pageF at *
  omega

theorem low1 (a : Int) : lowF a 1 = a % 4096 := rfl
theorem low2 (a : Int) : lowF a 2 = a % 2097152 := rfl
theorem low3 (a : Int) : lowF a 3 = a % 1073741824 := rfl
theorem low4 (a : Int) : lowF a 4 = 0 := rfl

theorem w64_over (a : Int) : W64 (overF a) := w64_wrap _

/-- the page behind a canonical address's: it ran over just where it is 0 -/
theorem over_zero {a : Int} (ha : W64 a) : decide (overF a < a) = (overF a == 0) := by
  obtain ⟨h0, h1⟩ := ha
  unfold overF pageF
  rw [low1, IntKind.wrap_u64, Bool.eq_iff_iff]
  simp
  omega

end Go.Proofs.YtopmmlcjlopmaaaDoor
/- Contracts of package dormerref01: each answers as package field does. -/
namespace Go.Proofs.YtopmmlcjlopmaaaDoor
set_option linter.unusedVariables false
set_option linter.unusedSimpArgs false
open Go.ChangeShapes Go.WideShapes Go.ChangeAt Go.RowKit


theorem pow_step {k : Nat} (h : k < 63) : IntKind.u64.wrap (2 * 2 ^ k) = 2 ^ (k + 1) := by
  have h1 := (w64_pow (s := k + 1) (by omega))
  obtain ⟨h0, h2⟩ := h1
  rw [IntKind.wrap_u64, Int.mul_comm, ← Int.pow_succ]
  exact Int.emod_eq_of_lt h0 h2

/-- the places of a field -/
def inF (lo n : Int) (j : Nat) : Bool := isF lo n && decide (lo ≤ j) && decide ((j : Int) < lo + n)

theorem acc_mask (lo n : Int) : (acc (inF lo n) 64 : Int) = maskF lo n := by
  apply tb_ext (w64_acc _) (w64_mask _ _)
  intro i hi
  rw [tb_acc, tb_mask]; simp [hi, inF]

theorem acc_w (f : Nat → Bool) {k : Nat} (h : k ≤ 63) : 0 ≤ (acc f k : Int) ∧ (acc f k : Int) + 2 ^ k < 18446744073709551616 := by
  have h1 := acc_lt f k
  have h2 : 2 ^ k ≤ 2 ^ 63 := Nat.pow_le_pow_right (by decide) h
  rw [two_pow_int]
  omega

theorem acc_yes (f : Nat → Bool) {k : Nat} (h : k ≤ 63) (hf : f k = true) : IntKind.u64.wrap ((acc f k : Int) + 2 ^ k) = (acc f (k + 1) : Int) := by
  obtain ⟨h0, h1⟩ := acc_w f h
  have hp : (0 : Int) ≤ 2 ^ k := Int.le_of_lt (Int.pow_pos (by decide))
  rw [IntKind.wrap_u64, Int.emod_eq_of_lt (by omega) h1]
  simp only [acc, hf, if_true]
  rw [two_pow_int]; omega

theorem acc_no (f : Nat → Bool) {k : Nat} (hf : f k = false) : acc f (k + 1) = acc f k := by
  simp [acc, hf]

/-- the places that are 1 when v is set -/
def onF (a lo n v : Int) (j : Nat) : Bool := if inF lo n j then tb v (j - lo.toNat) else tb a j

theorem acc_set {a v : Int} (ha : W64 a) (hv : W64 v) (lo n : Int) : (acc (onF a lo n v) 64 : Int) = setF a lo n v := by
  apply tb_ext (w64_acc _) (w64_set ha _ _ _)
  intro i hi
  rw [tb_acc, tb_set ha hv]; simp [hi, onF, inF]

theorem bit_nat {a : Int} (ha : W64 a) {k : Nat} (hk : k < 64) : bitF a (k : Int) = tb a k := by
  rw [bitF_tb ha]; simp; omega

theorem w64_one : W64 1 := ⟨by decide, by decide⟩

theorem with_set {a : Int} (ha : W64 a) (i : Int) (b : Bool) : setF a i 1 (if b then 1 else 0) = withF a i b := by
  apply tb_ext (w64_set ha _ _ _) (w64_with _ _)
  intro j hj
  rw [tb_set ha (by cases b <;> first | exact w64_zero | exact w64_one), tb_with ha]
  by_cases e : (j : Int) = i
  · have hf : isF i 1 = true := isF_mk (by omega) (by omega) (by omega)
    have z : j - i.toNat = 0 := by omega
    rw [if_pos (by simp [hf]; omega), if_pos e, z]
    cases b
    · simp [tb_zero]
    · simp [tb_one, hj]
  · rw [if_neg (by simp; omega), if_neg e]

end Go.Proofs.YtopmmlcjlopmaaaDoor
/- What the calls of package field answer where there is no field; numbers that came in. -/
namespace Go.Proofs.YtopmmlcjlopmaaaDoor
set_option linter.unusedVariables false
set_option linter.unusedSimpArgs false
open Go.ChangeShapes Go.WideShapes Go.ChangeAt Go.RowKit

theorem w64_of {a : Int} (h : (Lit.int .u64 a).wf = true) : W64 a := by
  have := bounds_u64 h; unfold W64; omega
theorem i64_of {a : Int} (h : (Lit.int .i64 a).wf = true) : I64 a := bounds_i64 h

theorem mask_no {lo n : Int} (h : isF lo n = false) : maskF lo n = 0 := by unfold maskF; rw [h]; rfl
theorem get_no (a : Int) {lo n : Int} (h : isF lo n = false) : getF a lo n = 0 := by unfold getF; rw [h]; rfl
theorem set_no (a v : Int) {lo n : Int} (h : isF lo n = false) : setF a lo n v = a := by unfold setF; rw [h]; rfl
theorem bit_no {a : Int} (ha : W64 a) {i : Int} (h : i < 0 ∨ 63 < i) : bitF a i = false := by
  rw [bitF_tb ha]
  rcases h with h | h
  · simp [show ¬ 0 ≤ i by omega]
  · simp [show ¬ i ≤ 63 by omega]
theorem with_no {a : Int} (ha : W64 a) {i : Int} (h : i < 0 ∨ 63 < i) (b : Bool) : withF a i b = a := by
  apply tb_ext (w64_with _ _) ha
  intro j hj
  rw [tb_with ha, if_neg (by omega)]

theorem mask_none (lo n : Int) (w : World) (hn : I64 n) (h : isF lo n = false) :
    Calls Tryd.prog 62 #[.int .i64 lo, .int .i64 n] w fun e w' => e = .returned (.int .u64 0) ∧ w = w' := by
  have := mask_any lo n w hn; rwa [mask_no h] at this
theorem get_none (a lo n : Int) (w : World) (hn : I64 n) (h : isF lo n = false) :
    Calls Tryd.prog 72 #[.int .u64 a, .int .i64 lo, .int .i64 n] w fun e w' => e = .returned (.int .u64 0) ∧ w = w' := by
  have := get_any a lo n w hn; rwa [get_no _ h] at this
theorem bit_none (a i : Int) (w : World) (ha : W64 a) (h : i < 0 ∨ 63 < i) :
    Calls Tryd.prog 61 #[.int .u64 a, .int .i64 i] w fun e w' => e = .returned (.bool false) ∧ w = w' := by
  have := bit_any a i w; rwa [bit_no ha h] at this
end Go.Proofs.YtopmmlcjlopmaaaDoor
