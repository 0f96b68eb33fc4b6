/- Several texts of ours in one: Bv, A, M. -/
import Derived.Laws.Bits64
import Derived.Test.YtddbjbdhbeijjaaDoorRows
import Derived.WalkKit
import Derived.ProofKit
import Derived.OpenShut
/- Plain mathematics: words of 64 bits as numbers, told by their bits; fields of them. Nothing of the program. -/
namespace Go.Proofs.YtddbjbdhbeijjaaDoor
set_option linter.unusedVariables false
set_option linter.unusedSimpArgs false

/-- the bit i of a number that is not below 0 -/
def tb (a : Int) (i : Nat) : Bool := a.toNat.testBit i

/-- a number that fits a word of 64 bits -/
def W64 (a : Int) : Prop := 0 ≤ a ∧ a < 18446744073709551616

theorem W64.nat {a : Int} (h : W64 a) : a.toNat < 2 ^ 64 := by obtain ⟨h0, h1⟩ := h; omega

theorem tb_ge {a : Int} (h : W64 a) {i : Nat} (hi : 64 ≤ i) : tb a i = false := by
  unfold tb
  exact Nat.testBit_lt_two_pow (Nat.lt_of_lt_of_le h.nat (Nat.pow_le_pow_right (by decide) hi))

theorem tb_ext {a b : Int} (ha : W64 a) (hb : W64 b) (h : ∀ i, i < 64 → tb a i = tb b i) : a = b := by
  have e : a.toNat = b.toNat := by
    apply Nat.eq_of_testBit_eq
    intro i
    by_cases hi : i < 64
    · exact h i hi
    · have h1 := tb_ge ha (i := i) (by omega)
      have h2 := tb_ge hb (i := i) (by omega)
      unfold tb at h1 h2
      rw [h1, h2]
  obtain ⟨h0, _⟩ := ha
  obtain ⟨h1, _⟩ := hb
  omega

theorem w64_wrap (n : Int) : W64 (IntKind.u64.wrap n) := by
  rw [IntKind.wrap_u64]; unfold W64; omega

theorem ofInt_nat {a : Int} (h : 0 ≤ a) : BitVec.ofInt 64 a = BitVec.ofNat 64 a.toNat := by
  obtain ⟨n, rfl⟩ := Int.eq_ofNat_of_zero_le h
  rw [BitVec.ofInt_natCast]; rfl

theorem wrap_bv (x : BitVec 64) : IntKind.u64.wrap (x.toNat : Int) = (x.toNat : Int) := by
  rw [IntKind.wrap_u64]
  have := x.isLt
  omega

theorem w64_bits (op : BinOp) (a b : Int) : W64 (bits op .u64 a b) := by
  unfold bits; exact w64_wrap _

theorem tb_bv (x : BitVec 64) (i : Nat) : tb (x.toNat : Int) i = x.getLsbD i := by
  unfold tb BitVec.getLsbD
  rw [Int.toNat_natCast]

theorem tb_and {a b : Int} (ha : 0 ≤ a) (hb : 0 ≤ b) (i : Nat) : tb (bits .and .u64 a b) i = (decide (i < 64) && tb a i && tb b i) := by
  have e : bits .and .u64 a b = ((BitVec.ofInt 64 a &&& BitVec.ofInt 64 b).toNat : Int) := wrap_bv _
  rw [e, tb_bv, ofInt_nat ha, ofInt_nat hb]
  simp only [BitVec.getLsbD_and, BitVec.getLsbD_ofNat, tb]
  cases decide (i < 64) <;> simp

theorem tb_or {a b : Int} (ha : 0 ≤ a) (hb : 0 ≤ b) (i : Nat) : tb (bits .or .u64 a b) i = (decide (i < 64) && (tb a i || tb b i)) := by
  have e : bits .or .u64 a b = ((BitVec.ofInt 64 a ||| BitVec.ofInt 64 b).toNat : Int) := wrap_bv _
  rw [e, tb_bv, ofInt_nat ha, ofInt_nat hb]
  simp only [BitVec.getLsbD_or, BitVec.getLsbD_ofNat, tb]
  cases decide (i < 64) <;> simp

theorem tb_andNot {a b : Int} (ha : 0 ≤ a) (hb : 0 ≤ b) (i : Nat) : tb (bits .andNot .u64 a b) i = (decide (i < 64) && tb a i && !tb b i) := by
  have e : bits .andNot .u64 a b = ((BitVec.ofInt 64 a &&& ~~~BitVec.ofInt 64 b).toNat : Int) := wrap_bv _
  rw [e, tb_bv, ofInt_nat ha, ofInt_nat hb]
  simp only [BitVec.getLsbD_and, BitVec.getLsbD_not, BitVec.getLsbD_ofNat, tb]
  cases decide (i < 64) <;> simp

theorem two_pow_int (s : Nat) : (2 : Int) ^ s = ((2 ^ s : Nat) : Int) := by
  rw [Int.natCast_pow]; rfl

theorem tb_shr {a : Int} (ha : 0 ≤ a) (s i : Nat) : tb (a / 2 ^ s) i = tb a (i + s) := by
  obtain ⟨n, rfl⟩ := Int.eq_ofNat_of_zero_le ha
  unfold tb
  rw [two_pow_int, ← Int.natCast_ediv, Int.toNat_natCast, Int.toNat_natCast, Nat.testBit_div_two_pow, Nat.add_comm]

theorem w64_shr {a : Int} (ha : W64 a) (s : Nat) : W64 (a / 2 ^ s) := by
  obtain ⟨h0, h1⟩ := ha
  have hp : (0 : Int) < 2 ^ s := Int.pow_pos (by decide)
  exact ⟨Int.ediv_nonneg h0 (Int.le_of_lt hp), Int.lt_of_le_of_lt (Int.ediv_le_self _ h0) h1⟩

theorem tb_shl {a : Int} (ha : 0 ≤ a) (s i : Nat) : tb (IntKind.u64.wrap (a * 2 ^ s)) i = (decide (i < 64) && decide (s ≤ i) && tb a (i - s)) := by
  obtain ⟨n, rfl⟩ := Int.eq_ofNat_of_zero_le ha
  unfold tb
  have e : IntKind.u64.wrap ((n : Int) * 2 ^ s) = ((n * 2 ^ s % 2 ^ 64 : Nat) : Int) := by
    rw [IntKind.wrap_u64, two_pow_int, ← Int.natCast_mul, Int.natCast_emod]; rfl
  rw [e, Int.toNat_natCast, Int.toNat_natCast, Nat.testBit_mod_two_pow, Nat.testBit_mul_two_pow, Bool.and_assoc]

theorem tb_ones (i : Nat) : tb 18446744073709551615 i = decide (i < 64) := by
  unfold tb
  have e : (18446744073709551615 : Int).toNat = 2 ^ 64 - 1 := by decide
  rw [e, Nat.testBit_two_pow_sub_one]

theorem tb_zero (i : Nat) : tb 0 i = false := by simp [tb]

theorem tb_one (i : Nat) : tb 1 i = decide (i = 0) := by
  unfold tb
  have e : (1 : Int).toNat = 2 ^ 0 := by decide
  rw [e, Nat.testBit_two_pow]; simp [eq_comm]

theorem w64_pow {s : Nat} (h : s < 64) : W64 (2 ^ s) := by
  refine ⟨Int.le_of_lt (Int.pow_pos (by decide)), ?_⟩
  rw [two_pow_int]
  have : 2 ^ s < 2 ^ 64 := Nat.pow_lt_pow_right (by decide) h
  omega

/-- the lowest bit of a number shifted -/
theorem tb_div {a : Int} (ha : 0 ≤ a) (s : Nat) : tb a s = decide (a / 2 ^ s % 2 = 1) := by
  obtain ⟨n, rfl⟩ := Int.eq_ofNat_of_zero_le ha
  unfold tb
  rw [two_pow_int, ← Int.natCast_ediv, Int.toNat_natCast, Nat.testBit_eq_decide_div_mod_eq]
  congr 1
  apply propext
  omega

theorem tb_mod {a : Int} (ha : 0 ≤ a) (s i : Nat) : tb (a % 2 ^ s) i = (decide (i < s) && tb a i) := by
  obtain ⟨n, rfl⟩ := Int.eq_ofNat_of_zero_le ha
  unfold tb
  rw [two_pow_int, ← Int.natCast_emod, Int.toNat_natCast, Int.toNat_natCast, Nat.testBit_mod_two_pow]

/-- the sum of the powers of the first k places that f has -/
def acc (f : Nat → Bool) : Nat → Nat
  | 0 => 0
  | k + 1 => acc f k + if f k then 2 ^ k else 0

theorem acc_lt (f : Nat → Bool) (k : Nat) : acc f k < 2 ^ k := by
  induction k with
  | zero => simp [acc]
  | succ k ih =>
    simp only [acc]
    rw [Nat.pow_succ]
    split <;> omega

theorem acc_bit (f : Nat → Bool) (k i : Nat) : (acc f k).testBit i = (decide (i < k) && f i) := by
  induction k with
  | zero => simp [acc]
  | succ k ih =>
    simp only [acc]
    by_cases h : f k
    · rw [if_pos h, Nat.add_comm]
      rcases Nat.lt_trichotomy i k with hi | hi | hi
      · rw [Nat.testBit_two_pow_add_gt hi, ih]
        simp [hi, show i < k + 1 by omega]
      · subst hi
        rw [Nat.testBit_two_pow_add_eq, ih]
        simp [h]
      · have hl : 2 ^ k + acc f k < 2 ^ i := by
          have h1 := acc_lt f k
          have h2 : 2 ^ (k + 1) ≤ 2 ^ i := Nat.pow_le_pow_right (by decide) (by omega)
          rw [Nat.pow_succ] at h2
          omega
        rw [Nat.testBit_lt_two_pow hl]
        simp [show ¬ i < k + 1 by omega]
    · rw [if_neg h, Nat.add_zero, ih]
      by_cases hi : i < k
      · simp [hi, show i < k + 1 by omega]
      · by_cases he : i = k
        · subst he; simp [h]
        · simp [hi, show ¬ i < k + 1 by omega]

theorem tb_acc (f : Nat → Bool) (k i : Nat) : tb (acc f k : Int) i = (decide (i < k) && f i) := by
  unfold tb; rw [Int.toNat_natCast, acc_bit]

theorem w64_acc (f : Nat → Bool) : W64 (acc f 64 : Int) := by
  have := acc_lt f 64
  unfold W64; omega

/- ### fields -/
def isF (lo n : Int) : Bool := decide (0 ≤ lo ∧ 1 ≤ n ∧ lo ≤ 64 - n)
def maskF (lo n : Int) : Int := if isF lo n then IntKind.u64.wrap (18446744073709551615 / 2 ^ (64 - n).toNat * 2 ^ lo.toNat) else 0
def getF (a lo n : Int) : Int := if isF lo n then bits .and .u64 a (maskF lo n) / 2 ^ lo.toNat else 0
def setF (a lo n v : Int) : Int :=
  if isF lo n then bits .or .u64 (bits .andNot .u64 a (maskF lo n)) (bits .and .u64 (IntKind.u64.wrap (v * 2 ^ lo.toNat)) (maskF lo n)) else a
def bitF (a i : Int) : Bool := bits .and .u64 a (maskF i 1) != 0
def withF (a i : Int) (b : Bool) : Int := if b then bits .or .u64 a (maskF i 1) else bits .andNot .u64 a (maskF i 1)

theorem isF_bd {lo n : Int} (h : isF lo n = true) : 0 ≤ lo ∧ 1 ≤ n ∧ lo + n ≤ 64 := by
  have : 0 ≤ lo ∧ 1 ≤ n ∧ lo ≤ 64 - n := by simpa [isF] using h
  omega

theorem isF_mk {lo n : Int} (h0 : 0 ≤ lo) (h1 : 1 ≤ n) (h2 : lo + n ≤ 64) : isF lo n = true := by
  simp [isF]; omega

theorem isF_no {lo n : Int} (h : lo < 0 ∨ n < 1 ∨ 64 < lo + n) : isF lo n = false := by
  simp [isF]; omega

theorem w64_zero : W64 0 := ⟨by decide, by decide⟩

theorem w64_mask (lo n : Int) : W64 (maskF lo n) := by
  unfold maskF; split
  · exact w64_wrap _
  · exact w64_zero

theorem tb_mask (lo n : Int) (i : Nat) : tb (maskF lo n) i = (isF lo n && decide (lo ≤ i) && decide ((i : Int) < lo + n)) := by
  unfold maskF
  by_cases h : isF lo n = true
  · obtain ⟨h0, h1, h2⟩ := isF_bd h
    rw [if_pos h, tb_shl (Int.ediv_nonneg (by decide) (Int.le_of_lt (Int.pow_pos (by decide)))), tb_shr (by decide), tb_ones, h]
    rw [Bool.eq_iff_iff]
    simp
    omega
  · simp only [Bool.not_eq_true] at h
    rw [if_neg (by simp [h]), h, tb_zero]; rfl

theorem w64_get (a lo n : Int) : W64 (getF a lo n) := by
  unfold getF; split
  · exact w64_shr (w64_bits _ _ _) _
  · exact w64_zero

theorem tb_get {a : Int} (ha : W64 a) (lo n : Int) (i : Nat) : tb (getF a lo n) i = (isF lo n && decide ((i : Int) < n) && tb a (i + lo.toNat)) := by
  unfold getF
  by_cases h : isF lo n = true
  · obtain ⟨h0, h1, h2⟩ := isF_bd h
    rw [if_pos h, tb_shr (w64_bits _ _ _).1, tb_and ha.1 (w64_mask _ _).1, tb_mask, h]
    by_cases c : (i : Int) < n
    · simp [c, show i + lo.toNat < 64 by omega]; omega
    · simp [c]; omega
  · simp only [Bool.not_eq_true] at h
    rw [if_neg (by simp [h]), h, tb_zero]; rfl

theorem w64_set {a : Int} (ha : W64 a) (lo n v : Int) : W64 (setF a lo n v) := by
  unfold setF; split
  · exact w64_bits _ _ _
  · exact ha

theorem tb_set {a v : Int} (ha : W64 a) (hv : W64 v) (lo n : Int) (i : Nat) :
    tb (setF a lo n v) i = if isF lo n && decide (lo ≤ i) && decide ((i : Int) < lo + n) then tb v (i - lo.toNat) else tb a i := by
  unfold setF
  by_cases h : isF lo n = true
  · obtain ⟨h0, h1, h2⟩ := isF_bd h
    rw [if_pos h, tb_or (w64_bits _ _ _).1 (w64_bits _ _ _).1, tb_andNot ha.1 (w64_mask _ _).1, tb_and (w64_wrap _).1 (w64_mask _ _).1,
      tb_shl hv.1, tb_mask, h]
    by_cases hi : i < 64
    · by_cases c1 : lo ≤ (i : Int)
      · by_cases c2 : (i : Int) < lo + n
        · simp [hi, c1, c2, show lo.toNat ≤ i by omega]
        · simp [hi, c1, c2]
      · simp [hi, c1]
    · rw [tb_ge ha (by omega)]
      simp [hi]
      omega
  · simp only [Bool.not_eq_true] at h
    rw [if_neg (by simp [h]), h]; rfl

theorem bitF_tb {a : Int} (ha : W64 a) (i : Int) : bitF a i = (decide (0 ≤ i) && decide (i ≤ 63) && tb a i.toNat) := by
  unfold bitF
  have key : ∀ j, tb (bits .and .u64 a (maskF i 1)) j = (decide (j < 64) && tb a j && (isF i 1 && decide (i ≤ j) && decide ((j : Int) < i + 1))) := by
    intro j; rw [tb_and ha.1 (w64_mask _ _).1, tb_mask]
  by_cases h : isF i 1 = true
  · obtain ⟨h0, _, h2⟩ := isF_bd h
    by_cases hb : tb a i.toNat = true
    · have hne : bits .and .u64 a (maskF i 1) ≠ 0 := by
        intro hz
        have := key i.toNat
        rw [hz, tb_zero] at this
        simp [hb, h] at this
        omega
      rw [hb, bne_iff_ne.mpr hne]
      simp [h0, show i ≤ 63 by omega]
    · have hz : bits .and .u64 a (maskF i 1) = 0 := by
        apply tb_ext (w64_bits _ _ _) w64_zero
        intro j hj
        rw [key, tb_zero]
        by_cases hji : j = i.toNat
        · subst hji; simp [hb]
        · simp [h]; omega
      simp [hz, hb]
  · simp only [Bool.not_eq_true] at h
    have hz : bits .and .u64 a (maskF i 1) = 0 := by
      apply tb_ext (w64_bits _ _ _) w64_zero
      intro j hj
      rw [key, tb_zero, h]; simp
    have hn : ¬ (0 ≤ i ∧ i ≤ 63) := by
      intro hc
      have := isF_mk (lo := i) (n := 1) hc.1 (by omega) (by omega)
      rw [this] at h; exact absurd h (by decide)
    rw [hz]
    by_cases c : 0 ≤ i
    · simp [c, show ¬ i ≤ 63 by omega]
    · simp [c]

theorem w64_with {a : Int} (i : Int) (b : Bool) : W64 (withF a i b) := by
  unfold withF; split <;> exact w64_bits _ _ _

theorem tb_with {a : Int} (ha : W64 a) (i : Int) (b : Bool) (j : Nat) :
    tb (withF a i b) j = if (j : Int) = i then decide (j < 64) && b else tb a j := by
  unfold withF
  by_cases hj : j < 64
  · have hm : tb (maskF i 1) j = decide ((j : Int) = i) := by
      rw [tb_mask, Bool.eq_iff_iff]; simp [isF]; omega
    cases b
    · rw [if_neg (by decide), tb_andNot ha.1 (w64_mask _ _).1, hm]
      by_cases e : (j : Int) = i <;> simp [e, hj]
    · rw [if_pos rfl, tb_or ha.1 (w64_mask _ _).1, hm]
      by_cases e : (j : Int) = i <;> simp [e, hj]
  · rw [tb_ge ha (by omega)]
    cases b
    · rw [if_neg (by decide), tb_ge (w64_bits _ _ _) (by omega)]; simp
    · rw [if_pos rfl, tb_ge (w64_bits _ _ _) (by omega)]; simp [hj]

theorem emod_le {x m : Int} (hx : 0 ≤ x) (hm : 0 < m) : x % m ≤ x := by
  have h := Int.mul_ediv_add_emod x m
  have h2 : 0 ≤ m * (x / m) := Int.mul_nonneg (Int.le_of_lt hm) (Int.ediv_nonneg hx (Int.le_of_lt hm))
  omega

theorem get_div {a lo n : Int} (ha : W64 a) (h : isF lo n = true) : getF a lo n = a / 2 ^ lo.toNat % 2 ^ n.toNat := by
  obtain ⟨h0, h1, h2⟩ := isF_bd h
  have hd := w64_shr ha lo.toNat
  have hp : (0 : Int) < 2 ^ n.toNat := Int.pow_pos (by decide)
  apply tb_ext (w64_get _ _ _) ⟨Int.emod_nonneg _ (by omega), Int.lt_of_le_of_lt (emod_le hd.1 hp) hd.2⟩
  intro i hi
  rw [tb_get ha, tb_mod hd.1, tb_shr ha.1, h, Bool.true_and]
  congr 2
  apply propext
  omega

end Go.Proofs.YtddbjbdhbeijjaaDoor
/- Contracts of package field: what each call returns, in an unchanged world. -/
namespace Go.Proofs.YtddbjbdhbeijjaaDoor
set_option linter.unusedVariables false
set_option linter.unusedSimpArgs false
open Go.ChangeShapes Go.WideShapes Go.ChangeAt Go.RowKit

/-- a number that fits an int -/
def I64 (n : Int) : Prop := -9223372036854775808 ≤ n ∧ n ≤ 9223372036854775807

theorem ret_int {k : IntKind} {a b : Int} (h : a = b) : Ending.returned (.int k a) = .returned (.int k b) := by rw [h]

theorem ret_bool {a b : Bool} (h : a = b) : Ending.returned (.bool a) = .returned (.bool b) := by rw [h]

theorem isField_any (lo n : Int) (w : World) (hn : I64 n) :
    Calls Tryd.prog 77 #[.int .i64 lo, .int .i64 n] w fun e w' => e = .returned (.bool (isF lo n)) ∧ w = w' := by
  obtain ⟨h1, h2⟩ := hn
  by_cases a : lo < 0
  · have e : isF lo n = false := isF_no (by omega)
    rw [e]
    go_enter Tryd.func77, Tryd.ntmps77
    go_wp2
    go_ret
    exact ⟨rfl, rfl⟩
  · by_cases b : n < 1
    · have e : isF lo n = false := isF_no (by omega)
      rw [e]
      go_enter Tryd.func77, Tryd.ntmps77
      go_wp2
      go_ret
      exact ⟨rfl, rfl⟩
    · by_cases c : 64 - n < lo
      · have e : isF lo n = false := isF_no (by omega)
        rw [e]
        go_enter Tryd.func77, Tryd.ntmps77
        go_wp2
        go_ret
        exact ⟨rfl, rfl⟩
      · have e : isF lo n = true := isF_mk (by omega) (by omega) (by omega)
        rw [e]
        go_enter Tryd.func77, Tryd.ntmps77
        go_wp2
        go_ret
        exact ⟨rfl, rfl⟩

theorem mask_any (lo n : Int) (w : World) (hn : I64 n) :
    Calls Tryd.prog 78 #[.int .i64 lo, .int .i64 n] w fun e w' => e = .returned (.int .u64 (maskF lo n)) ∧ w = w' := by
  by_cases h : isF lo n = true
  · obtain ⟨b1, b2, b3⟩ := isF_bd h
    have e : maskF lo n = IntKind.u64.wrap (18446744073709551615 / 2 ^ (64 - n).toNat * 2 ^ lo.toNat) := by unfold maskF; rw [if_pos h]
    rw [e]
    clear e
    go_enter Tryd.func78, Tryd.ntmps78
    go_wp2_with (go_at_call 77; refine (isField_any _ _ _ hn).mono ?_; rintro e w' ⟨rfl, rfl⟩)
    go_ret
    exact ⟨rfl, rfl⟩
  · have h' : isF lo n = false := by simpa using h
    have e : maskF lo n = 0 := by unfold maskF; rw [if_neg h]
    rw [e]
    clear e h
    go_enter Tryd.func78, Tryd.ntmps78
    go_wp2_with (go_at_call 77; refine (isField_any _ _ _ hn).mono ?_; rintro e w' ⟨rfl, rfl⟩)
    go_ret
    exact ⟨rfl, rfl⟩

theorem get_any (a lo n : Int) (w : World) (hn : I64 n) :
    Calls Tryd.prog 75 #[.int .u64 a, .int .i64 lo, .int .i64 n] w fun e w' => e = .returned (.int .u64 (getF a lo n)) ∧ w = w' := by
  by_cases h : isF lo n = true
  · obtain ⟨b1, b2, b3⟩ := isF_bd h
    have e : getF a lo n = bits .and .u64 a (maskF lo n) / 2 ^ lo.toNat := by unfold getF; rw [if_pos h]
    rw [e]
    clear e
    go_enter Tryd.func75, Tryd.ntmps75
    go_wp2_with (first | (go_at_call 77; refine (isField_any _ _ _ hn).mono ?_; rintro e w' ⟨rfl, rfl⟩) | (go_at_call 78; refine (mask_any _ _ _ hn).mono ?_; rintro e w' ⟨rfl, rfl⟩))
    go_ret
    exact ⟨rfl, rfl⟩
  · have h' : isF lo n = false := by simpa using h
    have e : getF a lo n = 0 := by unfold getF; rw [if_neg h]
    rw [e]
    clear e h
    go_enter Tryd.func75, Tryd.ntmps75
    go_wp2_with (first | (go_at_call 77; refine (isField_any _ _ _ hn).mono ?_; rintro e w' ⟨rfl, rfl⟩) | (go_at_call 78; refine (mask_any _ _ _ hn).mono ?_; rintro e w' ⟨rfl, rfl⟩))
    go_ret
    exact ⟨rfl, rfl⟩

end Go.Proofs.YtddbjbdhbeijjaaDoor
/- What setting and getting fields do to each other. Nothing of the program. -/
namespace Go.Proofs.YtddbjbdhbeijjaaDoor
set_option linter.unusedVariables false
set_option linter.unusedSimpArgs false

end Go.Proofs.YtddbjbdhbeijjaaDoor
