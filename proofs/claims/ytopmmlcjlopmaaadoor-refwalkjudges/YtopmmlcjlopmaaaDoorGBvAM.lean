/- Several texts of ours in one: Bv, A, M. -/
import Derived.Laws.Bits64
import Derived.Test.YtopmmlcjlopmaaaDoorRows
import Derived.WalkKit
import Derived.ProofKit
import Derived.OpenShut
/- Plain mathematics: words of 64 bits as numbers, told by their bits; fields of them. Nothing of the program. -/
namespace Go.Proofs.YtopmmlcjlopmaaaDoor
set_option linter.unusedVariables false
set_option linter.unusedSimpArgs false

/-- the bit i of a number that is not below 0 -/
def tb (a : Int) (i : Nat) : Bool := a.toNat.testBit i

/-- a number that fits a word of 64 bits -/
def W64 (a : Int) : Prop := 0 ≤ a ∧ a < 18446744073709551616

theorem W64.nat {a : Int} (h : W64 a) : a.toNat < 2 ^ 64 := by obtain ⟨h0, h1⟩ := h; omega

theorem tb_ge {a : Int} (h : W64 a) {i : Nat} (hi : 64 ≤ i) : tb a i = false := by
  unfold tb
  exact Nat.testBit_lt_two_pow (Nat.lt_of_lt_of_le h.nat (Nat.pow_le_pow_right (by decide) hi))

theorem tb_ext {a b : Int} (ha : W64 a) (hb : W64 b) (h : ∀ i, i < 64 → tb a i = tb b i) : a = b := by
  have e : a.toNat = b.toNat := by
    apply Nat.eq_of_testBit_eq
    intro i
    by_cases hi : i < 64
    · exact h i hi
    · have h1 := tb_ge ha (i := i) (by omega)
      have h2 := tb_ge hb (i := i) (by omega)
      unfold tb at h1 h2
      rw [h1, h2]
  obtain ⟨h0, _⟩ := ha
  obtain ⟨h1, _⟩ := hb
  omega

theorem w64_wrap (n : Int) : W64 (IntKind.u64.wrap n) := by
  rw [IntKind.wrap_u64]; unfold W64; omega

theorem ofInt_nat {a : Int} (h : 0 ≤ a) : BitVec.ofInt 64 a = BitVec.ofNat 64 a.toNat := by
  obtain ⟨n, rfl⟩ := Int.eq_ofNat_of_zero_le h
  rw [BitVec.ofInt_natCast]; rfl

theorem wrap_bv (x : BitVec 64) : IntKind.u64.wrap (x.toNat : Int) = (x.toNat : Int) := by
  rw [IntKind.wrap_u64]
  have := x.isLt
  omega

theorem w64_bv (x : BitVec 64) : W64 (x.toNat : Int) := by
  have := x.isLt
  unfold W64; omega

theorem w64_bits (op : BinOp) (a b : Int) : W64 (bits op .u64 a b) := by
  unfold bits; exact w64_wrap _

theorem tb_bv (x : BitVec 64) (i : Nat) : tb (x.toNat : Int) i = x.getLsbD i := by
  unfold tb BitVec.getLsbD
  rw [Int.toNat_natCast]

theorem tb_and {a b : Int} (ha : 0 ≤ a) (hb : 0 ≤ b) (i : Nat) : tb (bits .and .u64 a b) i = (decide (i < 64) && tb a i && tb b i) := by
  have e : bits .and .u64 a b = ((BitVec.ofInt 64 a &&& BitVec.ofInt 64 b).toNat : Int) := wrap_bv _
  rw [e, tb_bv, ofInt_nat ha, ofInt_nat hb]
  simp only [BitVec.getLsbD_and, BitVec.getLsbD_ofNat, tb]
  cases decide (i < 64) <;> simp

theorem tb_or {a b : Int} (ha : 0 ≤ a) (hb : 0 ≤ b) (i : Nat) : tb (bits .or .u64 a b) i = (decide (i < 64) && (tb a i || tb b i)) := by
  have e : bits .or .u64 a b = ((BitVec.ofInt 64 a ||| BitVec.ofInt 64 b).toNat : Int) := wrap_bv _
  rw [e, tb_bv, ofInt_nat ha, ofInt_nat hb]
  simp only [BitVec.getLsbD_or, BitVec.getLsbD_ofNat, tb]
  cases decide (i < 64) <;> simp

theorem tb_xor {a b : Int} (ha : 0 ≤ a) (hb : 0 ≤ b) (i : Nat) : tb (bits .xor .u64 a b) i = (decide (i < 64) && (tb a i != tb b i)) := by
  have e : bits .xor .u64 a b = ((BitVec.ofInt 64 a ^^^ BitVec.ofInt 64 b).toNat : Int) := wrap_bv _
  rw [e, tb_bv, ofInt_nat ha, ofInt_nat hb]
  simp only [BitVec.getLsbD_xor, BitVec.getLsbD_ofNat, tb]
  cases decide (i < 64) <;> simp

theorem tb_andNot {a b : Int} (ha : 0 ≤ a) (hb : 0 ≤ b) (i : Nat) : tb (bits .andNot .u64 a b) i = (decide (i < 64) && tb a i && !tb b i) := by
  have e : bits .andNot .u64 a b = ((BitVec.ofInt 64 a &&& ~~~BitVec.ofInt 64 b).toNat : Int) := wrap_bv _
  rw [e, tb_bv, ofInt_nat ha, ofInt_nat hb]
  simp only [BitVec.getLsbD_and, BitVec.getLsbD_not, BitVec.getLsbD_ofNat, tb]
  cases decide (i < 64) <;> simp

theorem two_pow_int (s : Nat) : (2 : Int) ^ s = ((2 ^ s : Nat) : Int) := by
  rw [Int.natCast_pow]; rfl

theorem tb_shr {a : Int} (ha : 0 ≤ a) (s i : Nat) : tb (a / 2 ^ s) i = tb a (i + s) := by
  obtain ⟨n, rfl⟩ := Int.eq_ofNat_of_zero_le ha
  unfold tb
  rw [two_pow_int, ← Int.natCast_ediv, Int.toNat_natCast, Int.toNat_natCast, Nat.testBit_div_two_pow, Nat.add_comm]

theorem w64_shr {a : Int} (ha : W64 a) (s : Nat) : W64 (a / 2 ^ s) := by
  obtain ⟨h0, h1⟩ := ha
  have hp : (0 : Int) < 2 ^ s := Int.pow_pos (by decide)
  exact ⟨Int.ediv_nonneg h0 (Int.le_of_lt hp), Int.lt_of_le_of_lt (Int.ediv_le_self _ h0) h1⟩

theorem tb_shl {a : Int} (ha : 0 ≤ a) (s i : Nat) : tb (IntKind.u64.wrap (a * 2 ^ s)) i = (decide (i < 64) && decide (s ≤ i) && tb a (i - s)) := by
  obtain ⟨n, rfl⟩ := Int.eq_ofNat_of_zero_le ha
  unfold tb
  have e : IntKind.u64.wrap ((n : Int) * 2 ^ s) = ((n * 2 ^ s % 2 ^ 64 : Nat) : Int) := by
    rw [IntKind.wrap_u64, two_pow_int, ← Int.natCast_mul, Int.natCast_emod]; rfl
  rw [e, Int.toNat_natCast, Int.toNat_natCast, Nat.testBit_mod_two_pow, Nat.testBit_mul_two_pow, Bool.and_assoc]

theorem tb_ones (i : Nat) : tb 18446744073709551615 i = decide (i < 64) := by
  unfold tb
  have e : (18446744073709551615 : Int).toNat = 2 ^ 64 - 1 := by decide
  rw [e, Nat.testBit_two_pow_sub_one]

theorem tb_zero (i : Nat) : tb 0 i = false := by simp [tb]

theorem tb_one (i : Nat) : tb 1 i = decide (i = 0) := by
  unfold tb
  have e : (1 : Int).toNat = 2 ^ 0 := by decide
  rw [e, Nat.testBit_two_pow]; simp [eq_comm]

theorem tb_pow (s i : Nat) : tb (2 ^ s) i = decide (s = i) := by
  unfold tb
  rw [two_pow_int, Int.toNat_natCast, Nat.testBit_two_pow]

theorem w64_pow {s : Nat} (h : s < 64) : W64 (2 ^ s) := by
  refine ⟨Int.le_of_lt (Int.pow_pos (by decide)), ?_⟩
  rw [two_pow_int]
  have : 2 ^ s < 2 ^ 64 := Nat.pow_lt_pow_right (by decide) h
  omega

/-- the lowest bit of a number shifted -/
theorem tb_div {a : Int} (ha : 0 ≤ a) (s : Nat) : tb a s = decide (a / 2 ^ s % 2 = 1) := by
  obtain ⟨n, rfl⟩ := Int.eq_ofNat_of_zero_le ha
  unfold tb
  rw [two_pow_int, ← Int.natCast_ediv, Int.toNat_natCast, Nat.testBit_eq_decide_div_mod_eq]
  congr 1
  apply propext
  omega

theorem tb_mod {a : Int} (ha : 0 ≤ a) (s i : Nat) : tb (a % 2 ^ s) i = (decide (i < s) && tb a i) := by
  obtain ⟨n, rfl⟩ := Int.eq_ofNat_of_zero_le ha
  unfold tb
  rw [two_pow_int, ← Int.natCast_emod, Int.toNat_natCast, Int.toNat_natCast, Nat.testBit_mod_two_pow]

/-- the sum of the powers of the first k places that f has -/
def acc (f : Nat → Bool) : Nat → Nat
  | 0 => 0
  | k + 1 => acc f k + if f k then 2 ^ k else 0

theorem acc_lt (f : Nat → Bool) (k : Nat) : acc f k < 2 ^ k := by
  induction k with
  | zero => simp [acc]
  | succ k ih =>
    simp only [acc]
    rw [Nat.pow_succ]
    split <;> omega

theorem acc_bit (f : Nat → Bool) (k i : Nat) : (acc f k).testBit i = (decide (i < k) && f i) := by
  induction k with
  | zero => simp [acc]
  | succ k ih =>
    simp only [acc]
    by_cases h : f k
    · rw [if_pos h, Nat.add_comm]
      rcases Nat.lt_trichotomy i k with hi | hi | hi
      · rw [Nat.testBit_two_pow_add_gt hi, ih]
        simp [hi, show i < k + 1 by omega]
      · subst hi
        rw [Nat.testBit_two_pow_add_eq, ih]
        simp [h]
      · have hl : 2 ^ k + acc f k < 2 ^ i := by
          have h1 := acc_lt f k
          have h2 : 2 ^ (k + 1) ≤ 2 ^ i := Nat.pow_le_pow_right (by decide) (by omega)
          rw [Nat.pow_succ] at h2
          omega
        rw [Nat.testBit_lt_two_pow hl]
        simp [show ¬ i < k + 1 by omega]
    · rw [if_neg h, Nat.add_zero, ih]
      by_cases hi : i < k
      · simp [hi, show i < k + 1 by omega]
      · by_cases he : i = k
        · subst he; simp [h]
        · simp [hi, show ¬ i < k + 1 by omega]

theorem tb_acc (f : Nat → Bool) (k i : Nat) : tb (acc f k : Int) i = (decide (i < k) && f i) := by
  unfold tb; rw [Int.toNat_natCast, acc_bit]

theorem w64_acc (f : Nat → Bool) : W64 (acc f 64 : Int) := by
  have := acc_lt f 64
  unfold W64; omega

/- ### fields -/
def isF (lo n : Int) : Bool := decide (0 ≤ lo ∧ 1 ≤ n ∧ lo ≤ 64 - n)
def maskF (lo n : Int) : Int := if isF lo n then IntKind.u64.wrap (18446744073709551615 / 2 ^ (64 - n).toNat * 2 ^ lo.toNat) else 0
def getF (a lo n : Int) : Int := if isF lo n then bits .and .u64 a (maskF lo n) / 2 ^ lo.toNat else 0
def setF (a lo n v : Int) : Int :=
  if isF lo n then bits .or .u64 (bits .andNot .u64 a (maskF lo n)) (bits .and .u64 (IntKind.u64.wrap (v * 2 ^ lo.toNat)) (maskF lo n)) else a
def bitF (a i : Int) : Bool := bits .and .u64 a (maskF i 1) != 0
def withF (a i : Int) (b : Bool) : Int := if b then bits .or .u64 a (maskF i 1) else bits .andNot .u64 a (maskF i 1)

theorem isF_bd {lo n : Int} (h : isF lo n = true) : 0 ≤ lo ∧ 1 ≤ n ∧ lo + n ≤ 64 := by
  have : 0 ≤ lo ∧ 1 ≤ n ∧ lo ≤ 64 - n := by simpa [isF] using h
  omega

theorem isF_mk {lo n : Int} (h0 : 0 ≤ lo) (h1 : 1 ≤ n) (h2 : lo + n ≤ 64) : isF lo n = true := by
  simp [isF]; omega

theorem isF_no {lo n : Int} (h : lo < 0 ∨ n < 1 ∨ 64 < lo + n) : isF lo n = false := by
  simp [isF]; omega

theorem w64_zero : W64 0 := ⟨by decide, by decide⟩

theorem w64_mask (lo n : Int) : W64 (maskF lo n) := by
  unfold maskF; split
  · exact w64_wrap _
  · exact w64_zero

theorem tb_mask (lo n : Int) (i : Nat) : tb (maskF lo n) i = (isF lo n && decide (lo ≤ i) && decide ((i : Int) < lo + n)) := by
  unfold maskF
  by_cases h : isF lo n = true
  · obtain ⟨h0, h1, h2⟩ := isF_bd h
    rw [if_pos h, tb_shl (Int.ediv_nonneg (by decide) (Int.le_of_lt (Int.pow_pos (by decide)))), tb_shr (by decide), tb_ones, h]
    rw [Bool.eq_iff_iff]
    simp
    omega
  · simp only [Bool.not_eq_true] at h
    rw [if_neg (by simp [h]), h, tb_zero]; rfl

theorem w64_get (a lo n : Int) : W64 (getF a lo n) := by
  unfold getF; split
  · exact w64_shr (w64_bits _ _ _) _
  · exact w64_zero

theorem tb_get {a : Int} (ha : W64 a) (lo n : Int) (i : Nat) : tb (getF a lo n) i = (isF lo n && decide ((i : Int) < n) && tb a (i + lo.toNat)) := by
  unfold getF
  by_cases h : isF lo n = true
  · obtain ⟨h0, h1, h2⟩ := isF_bd h
    rw [if_pos h, tb_shr (w64_bits _ _ _).1, tb_and ha.1 (w64_mask _ _).1, tb_mask, h]
    by_cases c : (i : Int) < n
    · simp [c, show i + lo.toNat < 64 by omega]; omega
    · simp [c]; omega
  · simp only [Bool.not_eq_true] at h
    rw [if_neg (by simp [h]), h, tb_zero]; rfl

theorem w64_set {a : Int} (ha : W64 a) (lo n v : Int) : W64 (setF a lo n v) := by
  unfold setF; split
  · exact w64_bits _ _ _
  · exact ha

theorem tb_set {a v : Int} (ha : W64 a) (hv : W64 v) (lo n : Int) (i : Nat) :
    tb (setF a lo n v) i = if isF lo n && decide (lo ≤ i) && decide ((i : Int) < lo + n) then tb v (i - lo.toNat) else tb a i := by
  unfold setF
  by_cases h : isF lo n = true
  · obtain ⟨h0, h1, h2⟩ := isF_bd h
    rw [if_pos h, tb_or (w64_bits _ _ _).1 (w64_bits _ _ _).1, tb_andNot ha.1 (w64_mask _ _).1, tb_and (w64_wrap _).1 (w64_mask _ _).1,
      tb_shl hv.1, tb_mask, h]
    by_cases hi : i < 64
    · by_cases c1 : lo ≤ (i : Int)
      · by_cases c2 : (i : Int) < lo + n
        · simp [hi, c1, c2, show lo.toNat ≤ i by omega]
        · simp [hi, c1, c2]
      · simp [hi, c1]
    · rw [tb_ge ha (by omega)]
      simp [hi]
      omega
  · simp only [Bool.not_eq_true] at h
    rw [if_neg (by simp [h]), h]; rfl

theorem bitF_tb {a : Int} (ha : W64 a) (i : Int) : bitF a i = (decide (0 ≤ i) && decide (i ≤ 63) && tb a i.toNat) := by
  unfold bitF
  have key : ∀ j, tb (bits .and .u64 a (maskF i 1)) j = (decide (j < 64) && tb a j && (isF i 1 && decide (i ≤ j) && decide ((j : Int) < i + 1))) := by
    intro j; rw [tb_and ha.1 (w64_mask _ _).1, tb_mask]
  by_cases h : isF i 1 = true
  · obtain ⟨h0, _, h2⟩ := isF_bd h
    by_cases hb : tb a i.toNat = true
    · have hne : bits .and .u64 a (maskF i 1) ≠ 0 := by
        intro hz
        have := key i.toNat
        rw [hz, tb_zero] at this
        simp [hb, h] at this
        omega
      rw [hb, bne_iff_ne.mpr hne]
      simp [h0, show i ≤ 63 by omega]
    · have hz : bits .and .u64 a (maskF i 1) = 0 := by
        apply tb_ext (w64_bits _ _ _) w64_zero
        intro j hj
        rw [key, tb_zero]
        by_cases hji : j = i.toNat
        · subst hji; simp [hb]
        · simp [h]; omega
      simp [hz, hb]
  · simp only [Bool.not_eq_true] at h
    have hz : bits .and .u64 a (maskF i 1) = 0 := by
      apply tb_ext (w64_bits _ _ _) w64_zero
      intro j hj
      rw [key, tb_zero, h]; simp
    have hn : ¬ (0 ≤ i ∧ i ≤ 63) := by
      intro hc
      have := isF_mk (lo := i) (n := 1) hc.1 (by omega) (by omega)
      rw [this] at h; exact absurd h (by decide)
    rw [hz]
    by_cases c : 0 ≤ i
    · simp [c, show ¬ i ≤ 63 by omega]
    · simp [c]

theorem w64_with {a : Int} (i : Int) (b : Bool) : W64 (withF a i b) := by
  unfold withF; split <;> exact w64_bits _ _ _

theorem tb_with {a : Int} (ha : W64 a) (i : Int) (b : Bool) (j : Nat) :
    tb (withF a i b) j = if (j : Int) = i then decide (j < 64) && b else tb a j := by
  unfold withF
  by_cases hj : j < 64
  · have hm : tb (maskF i 1) j = decide ((j : Int) = i) := by
      rw [tb_mask, Bool.eq_iff_iff]; simp [isF]; omega
    cases b
    · rw [if_neg (by decide), tb_andNot ha.1 (w64_mask _ _).1, hm]
      by_cases e : (j : Int) = i <;> simp [e, hj]
    · rw [if_pos rfl, tb_or ha.1 (w64_mask _ _).1, hm]
      by_cases e : (j : Int) = i <;> simp [e, hj]
  · rw [tb_ge ha (by omega)]
    cases b
    · rw [if_neg (by decide), tb_ge (w64_bits _ _ _) (by omega)]; simp
    · rw [if_pos rfl, tb_ge (w64_bits _ _ _) (by omega)]; simp [hj]

theorem emod_le {x m : Int} (hx : 0 ≤ x) (hm : 0 < m) : x % m ≤ x := by
  have h := Int.mul_ediv_add_emod x m
  have h2 : 0 ≤ m * (x / m) := Int.mul_nonneg (Int.le_of_lt hm) (Int.ediv_nonneg hx (Int.le_of_lt hm))
  omega

theorem get_div {a lo n : Int} (ha : W64 a) (h : isF lo n = true) : getF a lo n = a / 2 ^ lo.toNat % 2 ^ n.toNat := by
  obtain ⟨h0, h1, h2⟩ := isF_bd h
  have hd := w64_shr ha lo.toNat
  have hp : (0 : Int) < 2 ^ n.toNat := Int.pow_pos (by decide)
  apply tb_ext (w64_get _ _ _) ⟨Int.emod_nonneg _ (by omega), Int.lt_of_le_of_lt (emod_le hd.1 hp) hd.2⟩
  intro i hi
  rw [tb_get ha, tb_mod hd.1, tb_shr ha.1, h, Bool.true_and]
  congr 2
  apply propext
  omega

theorem get_all {a lo n : Int} (ha : W64 a) (h : isF lo n = true) (hn : n = 64) : getF a lo n = a / 2 ^ lo.toNat := by
  obtain ⟨h0, h1, h2⟩ := isF_bd h
  have hd := w64_shr ha lo.toNat
  rw [get_div ha h, hn]
  exact Int.emod_eq_of_lt hd.1 hd.2

end Go.Proofs.YtopmmlcjlopmaaaDoor
/- Contracts of package field: what each call returns, in an unchanged world. -/
namespace Go.Proofs.YtopmmlcjlopmaaaDoor
set_option linter.unusedVariables false
set_option linter.unusedSimpArgs false
open Go.ChangeShapes Go.WideShapes Go.ChangeAt Go.RowKit

/-- a number that fits an int -/
def I64 (n : Int) : Prop := -9223372036854775808 ≤ n ∧ n ≤ 9223372036854775807

theorem ret_int {k : IntKind} {a b : Int} (h : a = b) : Ending.returned (.int k a) = .returned (.int k b) := by rw [h]

theorem ret_bool {a b : Bool} (h : a = b) : Ending.returned (.bool a) = .returned (.bool b) := by rw [h]

theorem isField_any (lo n : Int) (w : World) (hn : I64 n) :
    Calls Tryd.prog 71 #[.int .i64 lo, .int .i64 n] w fun e w' => e = .returned (.bool (isF lo n)) ∧ w = w' := by
  obtain ⟨h1, h2⟩ := hn
  by_cases a : lo < 0
  · have e : isF lo n = false := isF_no (by omega)
    rw [e]
    go_enter Tryd.func71, Tryd.ntmps71
    go_wp2
    go_ret
    exact ⟨rfl, rfl⟩
  · by_cases b : n < 1
    · have e : isF lo n = false := isF_no (by omega)
      rw [e]
      go_enter Tryd.func71, Tryd.ntmps71
      go_wp2
      go_ret
      exact ⟨rfl, rfl⟩
    · by_cases c : 64 - n < lo
      · have e : isF lo n = false := isF_no (by omega)
        rw [e]
        go_enter Tryd.func71, Tryd.ntmps71
        go_wp2
        go_ret
        exact ⟨rfl, rfl⟩
      · have e : isF lo n = true := isF_mk (by omega) (by omega) (by omega)
        rw [e]
        go_enter Tryd.func71, Tryd.ntmps71
        go_wp2
        go_ret
        exact ⟨rfl, rfl⟩

theorem mask_any (lo n : Int) (w : World) (hn : I64 n) :
    Calls Tryd.prog 62 #[.int .i64 lo, .int .i64 n] w fun e w' => e = .returned (.int .u64 (maskF lo n)) ∧ w = w' := by
  by_cases h : isF lo n = true
  · obtain ⟨b1, b2, b3⟩ := isF_bd h
    have e : maskF lo n = IntKind.u64.wrap (18446744073709551615 / 2 ^ (64 - n).toNat * 2 ^ lo.toNat) := by unfold maskF; rw [if_pos h]
    rw [e]
    clear e
    go_enter Tryd.func62, Tryd.ntmps62
    go_wp2_with (go_at_call 71; refine (isField_any _ _ _ hn).mono ?_; rintro e w' ⟨rfl, rfl⟩)
    go_ret
    exact ⟨rfl, rfl⟩
  · have h' : isF lo n = false := by simpa using h
    have e : maskF lo n = 0 := by unfold maskF; rw [if_neg h]
    rw [e]
    clear e h
    go_enter Tryd.func62, Tryd.ntmps62
    go_wp2_with (go_at_call 71; refine (isField_any _ _ _ hn).mono ?_; rintro e w' ⟨rfl, rfl⟩)
    go_ret
    exact ⟨rfl, rfl⟩

theorem get_any (a lo n : Int) (w : World) (hn : I64 n) :
    Calls Tryd.prog 72 #[.int .u64 a, .int .i64 lo, .int .i64 n] w fun e w' => e = .returned (.int .u64 (getF a lo n)) ∧ w = w' := by
  by_cases h : isF lo n = true
  · obtain ⟨b1, b2, b3⟩ := isF_bd h
    have e : getF a lo n = bits .and .u64 a (maskF lo n) / 2 ^ lo.toNat := by unfold getF; rw [if_pos h]
    rw [e]
    clear e
    go_enter Tryd.func72, Tryd.ntmps72
    go_wp2_with (first | (go_at_call 71; refine (isField_any _ _ _ hn).mono ?_; rintro e w' ⟨rfl, rfl⟩) | (go_at_call 62; refine (mask_any _ _ _ hn).mono ?_; rintro e w' ⟨rfl, rfl⟩))
    go_ret
    exact ⟨rfl, rfl⟩
  · have h' : isF lo n = false := by simpa using h
    have e : getF a lo n = 0 := by unfold getF; rw [if_neg h]
    rw [e]
    clear e h
    go_enter Tryd.func72, Tryd.ntmps72
    go_wp2_with (first | (go_at_call 71; refine (isField_any _ _ _ hn).mono ?_; rintro e w' ⟨rfl, rfl⟩) | (go_at_call 62; refine (mask_any _ _ _ hn).mono ?_; rintro e w' ⟨rfl, rfl⟩))
    go_ret
    exact ⟨rfl, rfl⟩

theorem i64_one : I64 1 := ⟨by decide, by decide⟩

theorem bit_any (a i : Int) (w : World) :
    Calls Tryd.prog 61 #[.int .u64 a, .int .i64 i] w fun e w' => e = .returned (.bool (bitF a i)) ∧ w = w' := by
  go_enter Tryd.func61, Tryd.ntmps61
  go_wp2_with (go_at_call 62; refine (mask_any _ _ _ i64_one).mono ?_; rintro e w' ⟨rfl, rfl⟩)
  go_ret
  exact ⟨rfl, rfl⟩

theorem aw1 : getF 43981 4 8 = 188 := by decide +kernel
theorem aw2 : setF 0 4 4 31 = 240 := by decide +kernel
theorem aw3 : bitF 4 2 = true := by decide +kernel
theorem aw4 : withF 0 3 true = 8 := by decide +kernel
theorem aw5 : maskF 1 2 = 6 := by decide +kernel

theorem i64_small (n : Int) (h : 0 ≤ n ∧ n ≤ 1000) : I64 n := by unfold I64; omega

end Go.Proofs.YtopmmlcjlopmaaaDoor
/- What setting and getting fields do to each other. Nothing of the program. -/
namespace Go.Proofs.YtopmmlcjlopmaaaDoor
set_option linter.unusedVariables false
set_option linter.unusedSimpArgs false

theorem tb_set_in {a v : Int} (hv : W64 v) {lo n : Int} (h : isF lo n = true) {i : Nat} (h1 : lo ≤ i) (h2 : (i : Int) < lo + n) :
    tb (setF a lo n v) i = tb v (i - lo.toNat) := by
  obtain ⟨b0, b1, b2⟩ := isF_bd h
  unfold setF
  rw [if_pos h, tb_or (w64_bits _ _ _).1 (w64_bits _ _ _).1, tb_and (w64_wrap _).1 (w64_mask _ _).1, tb_shl hv.1, tb_mask, h]
  have e : tb (bits .andNot .u64 a (maskF lo n)) i = false := by
    have e : bits .andNot .u64 a (maskF lo n) = ((BitVec.ofInt 64 a &&& ~~~BitVec.ofInt 64 (maskF lo n)).toNat : Int) := wrap_bv _
    rw [e, tb_bv, ofInt_nat (w64_mask lo n).1]
    have hm := tb_mask lo n i
    rw [h] at hm
    unfold tb at hm
    simp only [BitVec.getLsbD_and, BitVec.getLsbD_not, BitVec.getLsbD_ofNat, hm]
    simp [h1, h2]
  rw [e]
  simp [h1, h2, show i < 64 by omega, show lo.toNat ≤ i by omega]

theorem tb_set_out {a : Int} (ha : W64 a) (v : Int) {lo n : Int} {i : Nat} (hi : i < 64) (h : isF lo n = true → ¬ (lo ≤ i ∧ (i : Int) < lo + n)) :
    tb (setF a lo n v) i = tb a i := by
  unfold setF
  by_cases hf : isF lo n = true
  · have hm : tb (maskF lo n) i = false := by
      rw [tb_mask, hf]
      have := h hf
      by_cases c : lo ≤ (i : Int)
      · simp [c, show ¬ (i : Int) < lo + n by omega]
      · simp [c]
    rw [if_pos hf, tb_or (w64_bits _ _ _).1 (w64_bits _ _ _).1, tb_andNot ha.1 (w64_mask _ _).1, tb_and (w64_wrap _).1 (w64_mask _ _).1, hm]
    simp [hi]
  · rw [if_neg hf]

/-- set twice the last holds -/
theorem set_set {a v : Int} (ha : W64 a) (hv : W64 v) (lo n v' : Int) : setF (setF a lo n v') lo n v = setF a lo n v := by
  apply tb_ext (w64_set (w64_set ha _ _ _) _ _ _) (w64_set ha _ _ _)
  intro i hi
  by_cases h : isF lo n = true
  · by_cases c : lo ≤ (i : Int) ∧ (i : Int) < lo + n
    · rw [tb_set_in hv h c.1 c.2, tb_set_in hv h c.1 c.2]
    · rw [tb_set_out (w64_set ha _ _ _) _ hi (fun _ => c), tb_set_out ha _ hi (fun _ => c), tb_set_out ha _ hi (fun _ => c)]
  · rw [tb_set_out (w64_set ha _ _ _) _ hi (fun e => absurd e h), tb_set_out ha _ hi (fun e => absurd e h), tb_set_out ha _ hi (fun e => absurd e h)]

/-- what was got, set again -/
theorem set_get {a : Int} (ha : W64 a) (lo n v : Int) : setF (setF a lo n v) lo n (getF a lo n) = a := by
  apply tb_ext (w64_set (w64_set ha _ _ _) _ _ _) ha
  intro i hi
  by_cases h : isF lo n = true
  · by_cases c : lo ≤ (i : Int) ∧ (i : Int) < lo + n
    · obtain ⟨b0, _, _⟩ := isF_bd h
      rw [tb_set_in (w64_get _ _ _) h c.1 c.2, tb_get ha, h]
      simp [show ((i - lo.toNat : Nat) : Int) < n by omega, show i - lo.toNat + lo.toNat = i by omega]
    · rw [tb_set_out (w64_set ha _ _ _) _ hi (fun _ => c), tb_set_out ha _ hi (fun _ => c)]
  · rw [tb_set_out (w64_set ha _ _ _) _ hi (fun e => absurd e h), tb_set_out ha _ hi (fun e => absurd e h)]

/-- nothing else is changed -/
theorem set_rest {a : Int} (ha : W64 a) (lo n v : Int) : bits .andNot .u64 (setF a lo n v) (maskF lo n) = bits .andNot .u64 a (maskF lo n) := by
  apply tb_ext (w64_bits _ _ _) (w64_bits _ _ _)
  intro i hi
  rw [tb_andNot (w64_set ha _ _ _).1 (w64_mask _ _).1, tb_andNot ha.1 (w64_mask _ _).1, tb_mask]
  by_cases h : isF lo n = true
  · by_cases c : lo ≤ (i : Int) ∧ (i : Int) < lo + n
    · simp [h, c.1, c.2]
    · rw [tb_set_out ha _ hi (fun _ => c)]
  · rw [tb_set_out ha _ hi (fun e => absurd e h)]

/-- what was set is got -/
theorem tb_get_set {a v : Int} (ha : W64 a) (hv : W64 v) {lo n : Int} (h : isF lo n = true) (i : Nat) :
    tb (getF (setF a lo n v) lo n) i = (decide ((i : Int) < n) && tb v i) := by
  obtain ⟨b0, b1, b2⟩ := isF_bd h
  rw [tb_get (w64_set ha _ _ _), h]
  by_cases c : (i : Int) < n
  · rw [tb_set_in hv h (by omega) (by omega)]
    simp [c]
  · simp [c]

theorem get_set_all {a v : Int} (ha : W64 a) (hv : W64 v) {lo n : Int} (h : isF lo n = true) (hn : n = 64) : getF (setF a lo n v) lo n = v := by
  apply tb_ext (w64_get _ _ _) hv
  intro i hi
  rw [tb_get_set ha hv h]
  simp; omega

theorem tb_low (n i : Nat) : tb (2 ^ n - 1) i = decide (i < n) := by
  unfold tb
  have e : ((2 : Int) ^ n - 1).toNat = 2 ^ n - 1 := by
    rw [two_pow_int]
    have : 0 < 2 ^ n := Nat.pow_pos (by decide)
    omega
  rw [e, Nat.testBit_two_pow_sub_one]

theorem get_set_low {a v : Int} (ha : W64 a) (hv : W64 v) {lo n : Int} (h : isF lo n = true) (hn : n < 64) :
    getF (setF a lo n v) lo n = bits .and .u64 v (2 ^ n.toNat - 1) := by
  obtain ⟨b0, b1, b2⟩ := isF_bd h
  have hp : (0 : Int) < 2 ^ n.toNat := Int.pow_pos (by decide)
  apply tb_ext (w64_get _ _ _) (w64_bits _ _ _)
  intro i hi
  rw [tb_get_set ha hv h, tb_and hv.1 (by omega), tb_low, Bool.and_comm]
  by_cases c : (i : Int) < n
  · simp [hi, c, show i < n.toNat by omega]
  · simp [c, show ¬ i < n.toNat by omega]

theorem mask_ne {lo n : Int} (h : isF lo n = true) : maskF lo n ≠ 0 := by
  obtain ⟨b0, b1, b2⟩ := isF_bd h
  intro hz
  have := tb_mask lo n lo.toNat
  rw [hz, tb_zero, h] at this
  simp at this
  omega

/-- two fields apart, in whichever order -/
theorem set_apart {a t u : Int} (ha : W64 a) (ht : W64 t) (hu : W64 u) {k : Int} (h1 : 1 ≤ k) (h2 : k ≤ 63) :
    setF (setF a 0 k t) k (64 - k) u = setF (setF a k (64 - k) u) 0 k t := by
  have f1 : isF 0 k = true := isF_mk (by omega) (by omega) (by omega)
  have f2 : isF k (64 - k) = true := isF_mk (by omega) (by omega) (by omega)
  apply tb_ext (w64_set (w64_set ha _ _ _) _ _ _) (w64_set (w64_set ha _ _ _) _ _ _)
  intro i hi
  by_cases c : (i : Int) < k
  · rw [tb_set_out (w64_set ha _ _ _) _ hi (fun _ => by omega), tb_set_in ht f1 (by omega) (by omega), tb_set_in ht f1 (by omega) (by omega)]
  · rw [tb_set_in hu f2 (by omega) (by omega), tb_set_out (w64_set ha _ _ _) _ hi (fun _ => by omega), tb_set_in hu f2 (by omega) (by omega)]

theorem get_apart1 {a : Int} (ha : W64 a) (u : Int) {k : Int} (h1 : 1 ≤ k) (h2 : k ≤ 63) : getF (setF a k (64 - k) u) 0 k = getF a 0 k := by
  apply tb_ext (w64_get _ _ _) (w64_get _ _ _)
  intro i hi
  rw [tb_get (w64_set ha _ _ _), tb_get ha]
  by_cases c : (i : Int) < k
  · rw [tb_set_out ha _ (by omega) (fun _ => by omega)]
  · simp [c]

theorem get_apart2 {a : Int} (ha : W64 a) (t : Int) {k : Int} (h1 : 1 ≤ k) (h2 : k ≤ 63) : getF (setF a 0 k t) k (64 - k) = getF a k (64 - k) := by
  apply tb_ext (w64_get _ _ _) (w64_get _ _ _)
  intro i hi
  rw [tb_get (w64_set ha _ _ _), tb_get ha]
  by_cases c : (i : Int) < 64 - k
  · rw [tb_set_out ha _ (by omega) (fun _ => by omega)]
  · simp [c]

theorem set_sum {a t u : Int} (ha : W64 a) (ht : W64 t) (hu : W64 u) {k : Int} (h1 : 1 ≤ k) (h2 : k ≤ 63) :
    setF (setF a k (64 - k) u) 0 k t = bits .or .u64 (getF t 0 k) (IntKind.u64.wrap (getF u 0 (64 - k) * 2 ^ k.toNat)) := by
  have f1 : isF 0 k = true := isF_mk (by omega) (by omega) (by omega)
  have f2 : isF k (64 - k) = true := isF_mk (by omega) (by omega) (by omega)
  have f3 : isF 0 (64 - k) = true := isF_mk (by omega) (by omega) (by omega)
  apply tb_ext (w64_set (w64_set ha _ _ _) _ _ _) (w64_bits _ _ _)
  intro i hi
  rw [tb_or (w64_get _ _ _).1 (w64_wrap _).1, tb_get ht, tb_shl (w64_get _ _ _).1, tb_get hu, f1, f3]
  by_cases c : (i : Int) < k
  · rw [tb_set_in ht f1 (by omega) (by omega)]
    simp [hi, c, show ¬ k.toNat ≤ i by omega]
  · rw [tb_set_out (w64_set ha _ _ _) _ hi (fun _ => by omega), tb_set_in hu f2 (by omega) (by omega)]
    simp [hi, c, show k.toNat ≤ i by omega]
    omega

theorem bit_with {a : Int} (ha : W64 a) {k : Int} (h0 : 0 ≤ k) (h1 : k ≤ 63) (b : Bool) : bitF (withF a k b) k = b := by
  rw [bitF_tb (w64_with _ _), tb_with ha, if_pos (by omega)]
  simp [h0, h1]; omega

theorem with_back {a : Int} (ha : W64 a) {k : Int} (h0 : 0 ≤ k) (h1 : k ≤ 63) (b : Bool) : withF (withF a k b) k (bitF a k) = a := by
  apply tb_ext (w64_with _ _) ha
  intro j hj
  rw [tb_with (w64_with _ _)]
  by_cases e : (j : Int) = k
  · rw [if_pos e, bitF_tb ha]
    have : k.toNat = j := by omega
    simp [h0, h1, hj, this]
  · rw [if_neg e, tb_with ha, if_neg e]

theorem get_bit {a : Int} (ha : W64 a) {k : Int} (h0 : 0 ≤ k) (h1 : k ≤ 63) : (getF a k 1 == 1) = bitF a k := by
  have f : isF k 1 = true := isF_mk (by omega) (by omega) (by omega)
  have hb := bitF_tb ha k
  simp [h0, h1] at hb
  rw [hb]
  have key : ∀ i, tb (getF a k 1) i = (decide (i = 0) && tb a k.toNat) := by
    intro i
    rw [tb_get ha, f]
    by_cases c : i = 0
    · subst c; simp
    · simp [c]; omega
  cases ht : tb a k.toNat
  · have : getF a k 1 = 0 := by
      apply tb_ext (w64_get _ _ _) w64_zero
      intro i _
      rw [key, ht, tb_zero]; simp
    rw [this]; rfl
  · have : getF a k 1 = 1 := by
      apply tb_ext (w64_get _ _ _) ⟨by decide, by decide⟩
      intro i _
      rw [key, ht, tb_one]; simp
    rw [this]; rfl

theorem mask_one {k : Int} (h0 : 0 ≤ k) (h1 : k ≤ 63) : maskF k 1 = 2 ^ k.toNat := by
  have f : isF k 1 = true := isF_mk (by omega) (by omega) (by omega)
  apply tb_ext (w64_mask _ _) (w64_pow (by omega))
  intro i hi
  rw [tb_mask, tb_pow, f, Bool.eq_iff_iff]
  simp
  omega

theorem mask_shl {k : Int} (h0 : 0 ≤ k) (h1 : k ≤ 63) : maskF k 1 = IntKind.u64.wrap (2 ^ k.toNat) := by
  obtain ⟨p0, p1⟩ := w64_pow (s := k.toNat) (by omega)
  rw [mask_one h0 h1, IntKind.wrap_u64, Int.emod_eq_of_lt p0 p1]

theorem mask_all : maskF 0 64 = 18446744073709551615 := by
  apply tb_ext (w64_mask _ _) ⟨by decide, by decide⟩
  intro i hi
  rw [tb_mask, tb_ones, isF_mk (by omega) (by omega) (by omega), Bool.eq_iff_iff]
  simp
  omega

/-- a number is its bits, from the highest one on -/
theorem half {a : Int} (ha : W64 a) (m : Nat) : IntKind.u64.wrap (2 * (a / 2 ^ (m + 1))) + (if tb a m then 1 else 0) = a / 2 ^ m := by
  obtain ⟨h0, h1⟩ := w64_shr ha m
  have e : a / 2 ^ (m + 1) = a / 2 ^ m / 2 := by
    rw [Int.pow_succ, Int.ediv_ediv_of_nonneg (Int.le_of_lt (Int.pow_pos (by decide)))]
  rw [e, tb_div ha.1, IntKind.wrap_u64]
  generalize a / 2 ^ m = q at h0 h1 ⊢
  by_cases c : q % 2 = 1
  · simp [c]; omega
  · simp [c]; omega

theorem top_zero {a : Int} (ha : W64 a) : a / 2 ^ 64 = 0 := by
  have e : (2 : Int) ^ 64 = 18446744073709551616 := by decide
  rw [e]; exact Int.ediv_eq_zero_of_lt ha.1 ha.2

theorem half_no {a : Int} (ha : W64 a) (m : Nat) (hb : tb a m = false) : IntKind.u64.wrap (2 * (a / 2 ^ (m + 1))) = a / 2 ^ m := by
  have := half ha m; simpa [hb] using this

theorem half_yes {a : Int} (ha : W64 a) (m : Nat) (hb : tb a m = true) : IntKind.u64.wrap (IntKind.u64.wrap (2 * (a / 2 ^ (m + 1))) + 1) = a / 2 ^ m := by
  have h := half ha m
  rw [hb, if_pos rfl] at h
  rw [h, IntKind.wrap_u64]
  obtain ⟨h0, h1⟩ := w64_shr ha m
  omega

end Go.Proofs.YtopmmlcjlopmaaaDoor
