/- What setting and getting fields do to each other. Nothing of the program. -/
import Derived.Test.YtlpjbmlkpmhdlaaDoorBv
namespace Go.Proofs.YtlpjbmlkpmhdlaaDoor
set_option linter.unusedVariables false
set_option linter.unusedSimpArgs false

theorem tb_set_in {a v : Int} (hv : W64 v) {lo n : Int} (h : isF lo n = true) {i : Nat} (h1 : lo ≤ i) (h2 : (i : Int) < lo + n) :
    tb (setF a lo n v) i = tb v (i - lo.toNat) := by
  obtain ⟨b0, b1, b2⟩ := isF_bd h
  unfold setF
  rw [if_pos h, tb_or (w64_bits _ _ _).1 (w64_bits _ _ _).1, tb_and (w64_wrap _).1 (w64_mask _ _).1, tb_shl hv.1, tb_mask, h]
  have e : tb (bits .andNot .u64 a (maskF lo n)) i = false := by
    have e : bits .andNot .u64 a (maskF lo n) = ((BitVec.ofInt 64 a &&& ~~~BitVec.ofInt 64 (maskF lo n)).toNat : Int) := wrap_bv _
    rw [e, tb_bv, ofInt_nat (w64_mask lo n).1]
    have hm := tb_mask lo n i
    rw [h] at hm
    unfold tb at hm
    simp only [BitVec.getLsbD_and, BitVec.getLsbD_not, BitVec.getLsbD_ofNat, hm]
    simp [h1, h2]
  rw [e]
  simp [h1, h2, show i < 64 by omega, show lo.toNat ≤ i by omega]

theorem tb_set_out {a : Int} (ha : W64 a) (v : Int) {lo n : Int} {i : Nat} (hi : i < 64) (h : isF lo n = true → ¬ (lo ≤ i ∧ (i : Int) < lo + n)) :
    tb (setF a lo n v) i = tb a i := by
  unfold setF
  by_cases hf : isF lo n = true
  · have hm : tb (maskF lo n) i = false := by
      rw [tb_mask, hf]
      have := h hf
      by_cases c : lo ≤ (i : Int)
      · simp [c, show ¬ (i : Int) < lo + n by omega]
      · simp [c]
    rw [if_pos hf, tb_or (w64_bits _ _ _).1 (w64_bits _ _ _).1, tb_andNot ha.1 (w64_mask _ _).1, tb_and (w64_wrap _).1 (w64_mask _ _).1, hm]
    simp [hi]
  · rw [if_neg hf]

/-- set twice the last holds -/
theorem set_set {a v : Int} (ha : W64 a) (hv : W64 v) (lo n v' : Int) : setF (setF a lo n v') lo n v = setF a lo n v := by
  apply tb_ext (w64_set (w64_set ha _ _ _) _ _ _) (w64_set ha _ _ _)
  intro i hi
  by_cases h : isF lo n = true
  · by_cases c : lo ≤ (i : Int) ∧ (i : Int) < lo + n
    · rw [tb_set_in hv h c.1 c.2, tb_set_in hv h c.1 c.2]
    · rw [tb_set_out (w64_set ha _ _ _) _ hi (fun _ => c), tb_set_out ha _ hi (fun _ => c), tb_set_out ha _ hi (fun _ => c)]
  · rw [tb_set_out (w64_set ha _ _ _) _ hi (fun e => absurd e h), tb_set_out ha _ hi (fun e => absurd e h), tb_set_out ha _ hi (fun e => absurd e h)]

/-- what was got, set again -/
theorem set_get {a : Int} (ha : W64 a) (lo n v : Int) : setF (setF a lo n v) lo n (getF a lo n) = a := by
  apply tb_ext (w64_set (w64_set ha _ _ _) _ _ _) ha
  intro i hi
  by_cases h : isF lo n = true
  · by_cases c : lo ≤ (i : Int) ∧ (i : Int) < lo + n
    · obtain ⟨b0, _, _⟩ := isF_bd h
      rw [tb_set_in (w64_get _ _ _) h c.1 c.2, tb_get ha, h]
      simp [show ((i - lo.toNat : Nat) : Int) < n by omega, show i - lo.toNat + lo.toNat = i by omega]
    · rw [tb_set_out (w64_set ha _ _ _) _ hi (fun _ => c), tb_set_out ha _ hi (fun _ => c)]
  · rw [tb_set_out (w64_set ha _ _ _) _ hi (fun e => absurd e h), tb_set_out ha _ hi (fun e => absurd e h)]

/-- nothing else is changed -/
theorem set_rest {a : Int} (ha : W64 a) (lo n v : Int) : bits .andNot .u64 (setF a lo n v) (maskF lo n) = bits .andNot .u64 a (maskF lo n) := by
  apply tb_ext (w64_bits _ _ _) (w64_bits _ _ _)
  intro i hi
  rw [tb_andNot (w64_set ha _ _ _).1 (w64_mask _ _).1, tb_andNot ha.1 (w64_mask _ _).1, tb_mask]
  by_cases h : isF lo n = true
  · by_cases c : lo ≤ (i : Int) ∧ (i : Int) < lo + n
    · simp [h, c.1, c.2]
    · rw [tb_set_out ha _ hi (fun _ => c)]
  · rw [tb_set_out ha _ hi (fun e => absurd e h)]

/-- what was set is got -/
theorem tb_get_set {a v : Int} (ha : W64 a) (hv : W64 v) {lo n : Int} (h : isF lo n = true) (i : Nat) :
    tb (getF (setF a lo n v) lo n) i = (decide ((i : Int) < n) && tb v i) := by
  obtain ⟨b0, b1, b2⟩ := isF_bd h
  rw [tb_get (w64_set ha _ _ _), h]
  by_cases c : (i : Int) < n
  · rw [tb_set_in hv h (by omega) (by omega)]
    simp [c]
  · simp [c]

theorem get_set_all {a v : Int} (ha : W64 a) (hv : W64 v) {lo n : Int} (h : isF lo n = true) (hn : n = 64) : getF (setF a lo n v) lo n = v := by
  apply tb_ext (w64_get _ _ _) hv
  intro i hi
  rw [tb_get_set ha hv h]
  simp; omega

theorem tb_low (n i : Nat) : tb (2 ^ n - 1) i = decide (i < n) := by
  unfold tb
  have e : ((2 : Int) ^ n - 1).toNat = 2 ^ n - 1 := by
    rw [two_pow_int]
    have : 0 < 2 ^ n := Nat.pow_pos (by decide)
    omega
  rw [e, Nat.testBit_two_pow_sub_one]

theorem get_set_low {a v : Int} (ha : W64 a) (hv : W64 v) {lo n : Int} (h : isF lo n = true) (hn : n < 64) :
    getF (setF a lo n v) lo n = bits .and .u64 v (2 ^ n.toNat - 1) := by
  obtain ⟨b0, b1, b2⟩ := isF_bd h
  have hp : (0 : Int) < 2 ^ n.toNat := Int.pow_pos (by decide)
  apply tb_ext (w64_get _ _ _) (w64_bits _ _ _)
  intro i hi
  rw [tb_get_set ha hv h, tb_and hv.1 (by omega), tb_low, Bool.and_comm]
  by_cases c : (i : Int) < n
  · simp [hi, c, show i < n.toNat by omega]
  · simp [c, show ¬ i < n.toNat by omega]

theorem mask_ne {lo n : Int} (h : isF lo n = true) : maskF lo n ≠ 0 := by
  obtain ⟨b0, b1, b2⟩ := isF_bd h
  intro hz
  have := tb_mask lo n lo.toNat
  rw [hz, tb_zero, h] at this
  simp at this
  omega

/-- two fields apart, in whichever order -/
theorem set_apart {a t u : Int} (ha : W64 a) (ht : W64 t) (hu : W64 u) {k : Int} (h1 : 1 ≤ k) (h2 : k ≤ 63) :
    setF (setF a 0 k t) k (64 - k) u = setF (setF a k (64 - k) u) 0 k t := by
  have f1 : isF 0 k = true := isF_mk (by omega) (by omega) (by omega)
  have f2 : isF k (64 - k) = true := isF_mk (by omega) (by omega) (by omega)
  apply tb_ext (w64_set (w64_set ha _ _ _) _ _ _) (w64_set (w64_set ha _ _ _) _ _ _)
  intro i hi
  by_cases c : (i : Int) < k
  · rw [tb_set_out (w64_set ha _ _ _) _ hi (fun _ => by omega), tb_set_in ht f1 (by omega) (by omega), tb_set_in ht f1 (by omega) (by omega)]
  · rw [tb_set_in hu f2 (by omega) (by omega), tb_set_out (w64_set ha _ _ _) _ hi (fun _ => by omega), tb_set_in hu f2 (by omega) (by omega)]

theorem get_apart1 {a : Int} (ha : W64 a) (u : Int) {k : Int} (h1 : 1 ≤ k) (h2 : k ≤ 63) : getF (setF a k (64 - k) u) 0 k = getF a 0 k := by
  apply tb_ext (w64_get _ _ _) (w64_get _ _ _)
  intro i hi
  rw [tb_get (w64_set ha _ _ _), tb_get ha]
  by_cases c : (i : Int) < k
  · rw [tb_set_out ha _ (by omega) (fun _ => by omega)]
  · simp [c]

theorem get_apart2 {a : Int} (ha : W64 a) (t : Int) {k : Int} (h1 : 1 ≤ k) (h2 : k ≤ 63) : getF (setF a 0 k t) k (64 - k) = getF a k (64 - k) := by
  apply tb_ext (w64_get _ _ _) (w64_get _ _ _)
  intro i hi
  rw [tb_get (w64_set ha _ _ _), tb_get ha]
  by_cases c : (i : Int) < 64 - k
  · rw [tb_set_out ha _ (by omega) (fun _ => by omega)]
  · simp [c]

theorem set_sum {a t u : Int} (ha : W64 a) (ht : W64 t) (hu : W64 u) {k : Int} (h1 : 1 ≤ k) (h2 : k ≤ 63) :
    setF (setF a k (64 - k) u) 0 k t = bits .or .u64 (getF t 0 k) (IntKind.u64.wrap (getF u 0 (64 - k) * 2 ^ k.toNat)) := by
  have f1 : isF 0 k = true := isF_mk (by omega) (by omega) (by omega)
  have f2 : isF k (64 - k) = true := isF_mk (by omega) (by omega) (by omega)
  have f3 : isF 0 (64 - k) = true := isF_mk (by omega) (by omega) (by omega)
  apply tb_ext (w64_set (w64_set ha _ _ _) _ _ _) (w64_bits _ _ _)
  intro i hi
  rw [tb_or (w64_get _ _ _).1 (w64_wrap _).1, tb_get ht, tb_shl (w64_get _ _ _).1, tb_get hu, f1, f3]
  by_cases c : (i : Int) < k
  · rw [tb_set_in ht f1 (by omega) (by omega)]
    simp [hi, c, show ¬ k.toNat ≤ i by omega]
  · rw [tb_set_out (w64_set ha _ _ _) _ hi (fun _ => by omega), tb_set_in hu f2 (by omega) (by omega)]
    simp [hi, c, show k.toNat ≤ i by omega]
    omega

theorem bit_with {a : Int} (ha : W64 a) {k : Int} (h0 : 0 ≤ k) (h1 : k ≤ 63) (b : Bool) : bitF (withF a k b) k = b := by
  rw [bitF_tb (w64_with _ _), tb_with ha, if_pos (by omega)]
  simp [h0, h1]; omega

theorem with_back {a : Int} (ha : W64 a) {k : Int} (h0 : 0 ≤ k) (h1 : k ≤ 63) (b : Bool) : withF (withF a k b) k (bitF a k) = a := by
  apply tb_ext (w64_with _ _) ha
  intro j hj
  rw [tb_with (w64_with _ _)]
  by_cases e : (j : Int) = k
  · rw [if_pos e, bitF_tb ha]
    have : k.toNat = j := by omega
    simp [h0, h1, hj, this]
  · rw [if_neg e, tb_with ha, if_neg e]

theorem get_bit {a : Int} (ha : W64 a) {k : Int} (h0 : 0 ≤ k) (h1 : k ≤ 63) : (getF a k 1 == 1) = bitF a k := by
  have f : isF k 1 = true := isF_mk (by omega) (by omega) (by omega)
  have hb := bitF_tb ha k
  simp [h0, h1] at hb
  rw [hb]
  have key : ∀ i, tb (getF a k 1) i = (decide (i = 0) && tb a k.toNat) := by
    intro i
    rw [tb_get ha, f]
    by_cases c : i = 0
    · subst c; simp
    · simp [c]; omega
  cases ht : tb a k.toNat
  · have : getF a k 1 = 0 := by
      apply tb_ext (w64_get _ _ _) w64_zero
      intro i _
      rw [key, ht, tb_zero]; simp
    rw [this]; rfl
  · have : getF a k 1 = 1 := by
      apply tb_ext (w64_get _ _ _) ⟨by decide, by decide⟩
      intro i _
      rw [key, ht, tb_one]; simp
    rw [this]; rfl

theorem mask_one {k : Int} (h0 : 0 ≤ k) (h1 : k ≤ 63) : maskF k 1 = 2 ^ k.toNat := by
  have f : isF k 1 = true := isF_mk (by omega) (by omega) (by omega)
  apply tb_ext (w64_mask _ _) (w64_pow (by omega))
  intro i hi
  rw [tb_mask, tb_pow, f, Bool.eq_iff_iff]
  simp
  omega

theorem mask_shl {k : Int} (h0 : 0 ≤ k) (h1 : k ≤ 63) : maskF k 1 = IntKind.u64.wrap (2 ^ k.toNat) := by
  obtain ⟨p0, p1⟩ := w64_pow (s := k.toNat) (by omega)
  rw [mask_one h0 h1, IntKind.wrap_u64, Int.emod_eq_of_lt p0 p1]

theorem mask_all : maskF 0 64 = 18446744073709551615 := by
  apply tb_ext (w64_mask _ _) ⟨by decide, by decide⟩
  intro i hi
  rw [tb_mask, tb_ones, isF_mk (by omega) (by omega) (by omega), Bool.eq_iff_iff]
  simp
  omega

/-- a number is its bits, from the highest one on -/
theorem half {a : Int} (ha : W64 a) (m : Nat) : IntKind.u64.wrap (2 * (a / 2 ^ (m + 1))) + (if tb a m then 1 else 0) = a / 2 ^ m := by
  obtain ⟨h0, h1⟩ := w64_shr ha m
  have e : a / 2 ^ (m + 1) = a / 2 ^ m / 2 := by
    rw [Int.pow_succ, Int.ediv_ediv_of_nonneg (Int.le_of_lt (Int.pow_pos (by decide)))]
  rw [e, tb_div ha.1, IntKind.wrap_u64]
  generalize a / 2 ^ m = q at h0 h1 ⊢
  by_cases c : q % 2 = 1
  · simp [c]; omega
  · simp [c]; omega

theorem top_zero {a : Int} (ha : W64 a) : a / 2 ^ 64 = 0 := by
  have e : (2 : Int) ^ 64 = 18446744073709551616 := by decide
  rw [e]; exact Int.ediv_eq_zero_of_lt ha.1 ha.2

theorem half_no {a : Int} (ha : W64 a) (m : Nat) (hb : tb a m = false) : IntKind.u64.wrap (2 * (a / 2 ^ (m + 1))) = a / 2 ^ m := by
  have := half ha m; simpa [hb] using this

theorem half_yes {a : Int} (ha : W64 a) (m : Nat) (hb : tb a m = true) : IntKind.u64.wrap (IntKind.u64.wrap (2 * (a / 2 ^ (m + 1))) + 1) = a / 2 ^ m := by
  have h := half ha m
  rw [hb, if_pos rfl] at h
  rw [h, IntKind.wrap_u64]
  obtain ⟨h0, h1⟩ := w64_shr ha m
  omega

end Go.Proofs.YtlpjbmlkpmhdlaaDoor
