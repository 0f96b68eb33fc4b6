/- Contracts of package dormerref01: each answers as package field does. -/
import Derived.Test.YtdkpahlkgdkloaaA
import Derived.LoopTactic
import Derived.Lib.Hide
namespace Go.Proofs.Ytdkpahlkgdkloaa
set_option linter.unusedVariables false
set_option linter.unusedSimpArgs false
open Go.ChangeShapes Go.WideShapes Go.ChangeAt Go.RowKit


theorem pow_step {k : Nat} (h : k < 63) : IntKind.u64.wrap (2 * 2 ^ k) = 2 ^ (k + 1) := by
  have h1 := (w64_pow (s := k + 1) (by omega))
  obtain ⟨h0, h2⟩ := h1
  rw [IntKind.wrap_u64, Int.mul_comm, ← Int.pow_succ]
  exact Int.emod_eq_of_lt h0 h2

theorem power_any (n : Int) (w : World) (h0 : 0 ≤ n) (h1 : n ≤ 63) :
    Calls Try.prog 25 #[.int .i64 n] w fun e w' => e = .returned (.int .u64 (2 ^ n.toNat)) ∧ w = w' := by
  go_enter Try.func25, Try.ntmps25
  go_wp2
  go_loop [3, 4] (fun x i => ∃ k : Nat, (k : Int) ≤ n ∧ i = .int .i64 k ∧ x = .int .u64 (2 ^ k)) (fun _ i => (n - intOf i).toNat)
  case atStart => exact ⟨0, h0, rfl, rfl⟩
  case round =>
    obtain ⟨k, hk, rfl, rfl⟩ := hrel
    by_cases hlt : (k : Int) < n
    · have hs := Lib.hid (pow_step (k := k) (by omega))
      go_wp2
      go_round
      case rel => exact ⟨k + 1, by omega, by go_num, by rw [← hs.out]⟩
      case measure => simp [intOf]; omega
    · go_wp2
      go_ret
      exact ⟨ret_int (by rw [show n.toNat = k by omega]), rfl⟩

theorem rbit_any (a i : Int) (w : World) (ha : W64 a) :
    Calls Try.prog 23 #[.int .u64 a, .int .i64 i] w fun e w' => e = .returned (.bool (bitF a i)) ∧ w = w' := by
  obtain ⟨a0, a1⟩ := ha
  by_cases h0 : i < 0
  · have e : bitF a i = false := by rw [bitF_tb ⟨a0, a1⟩]; simp [show ¬ 0 ≤ i by omega]
    rw [e]
    clear e
    go_enter Try.func23, Try.ntmps23
    go_wp2
    go_ret
    exact ⟨rfl, rfl⟩
  · by_cases h1 : 63 < i
    · have e : bitF a i = false := by rw [bitF_tb ⟨a0, a1⟩]; simp [show ¬ i ≤ 63 by omega]
      rw [e]
      clear e
      go_enter Try.func23, Try.ntmps23
      go_wp2
      go_ret
      exact ⟨rfl, rfl⟩
    · have e : bitF a i = decide (a / 2 ^ i.toNat % 2 = 1) := by
        rw [bitF_tb ⟨a0, a1⟩, tb_div a0]; simp [show 0 ≤ i by omega, show i ≤ 63 by omega]
      rw [e]
      clear e
      have hp : (1 : Int) ≤ 2 ^ i.toNat := (Int.pow_pos (by decide) : (0 : Int) < 2 ^ i.toNat)
      have hq : 0 ≤ a / 2 ^ i.toNat := Int.ediv_nonneg a0 (by omega)
      go_enter Try.func23, Try.ntmps23
      go_wp2_with (go_at_call 25; refine (power_any _ _ (by omega) (by omega)).mono ?_; rintro e w' ⟨rfl, rfl⟩)
      go_ret
      exact ⟨rfl, rfl⟩

/-- the places of a field -/
def inF (lo n : Int) (j : Nat) : Bool := isF lo n && decide (lo ≤ j) && decide ((j : Int) < lo + n)

theorem acc_mask (lo n : Int) : (acc (inF lo n) 64 : Int) = maskF lo n := by
  apply tb_ext (w64_acc _) (w64_mask _ _)
  intro i hi
  rw [tb_acc, tb_mask]; simp [hi, inF]

theorem acc_w (f : Nat → Bool) {k : Nat} (h : k ≤ 63) : 0 ≤ (acc f k : Int) ∧ (acc f k : Int) + 2 ^ k < 18446744073709551616 := by
  have h1 := acc_lt f k
  have h2 : 2 ^ k ≤ 2 ^ 63 := Nat.pow_le_pow_right (by decide) h
  rw [two_pow_int]
  omega

theorem acc_yes (f : Nat → Bool) {k : Nat} (h : k ≤ 63) (hf : f k = true) : IntKind.u64.wrap ((acc f k : Int) + 2 ^ k) = (acc f (k + 1) : Int) := by
  obtain ⟨h0, h1⟩ := acc_w f h
  have hp : (0 : Int) ≤ 2 ^ k := Int.le_of_lt (Int.pow_pos (by decide))
  rw [IntKind.wrap_u64, Int.emod_eq_of_lt (by omega) h1]
  simp only [acc, hf, if_true]
  rw [two_pow_int]; omega

theorem acc_no (f : Nat → Bool) {k : Nat} (hf : f k = false) : acc f (k + 1) = acc f k := by
  simp [acc, hf]

/-- the places that are 1 when v is set -/
def onF (a lo n v : Int) (j : Nat) : Bool := if inF lo n j then tb v (j - lo.toNat) else tb a j

theorem acc_set {a v : Int} (ha : W64 a) (hv : W64 v) (lo n : Int) : (acc (onF a lo n v) 64 : Int) = setF a lo n v := by
  apply tb_ext (w64_acc _) (w64_set ha _ _ _)
  intro i hi
  rw [tb_acc, tb_set ha hv]; simp [hi, onF, inF]

theorem bit_nat {a : Int} (ha : W64 a) {k : Nat} (hk : k < 64) : bitF a (k : Int) = tb a k := by
  rw [bitF_tb ha]; simp; omega

theorem w64_one : W64 1 := ⟨by decide, by decide⟩

theorem with_set {a : Int} (ha : W64 a) (i : Int) (b : Bool) : setF a i 1 (if b then 1 else 0) = withF a i b := by
  apply tb_ext (w64_set ha _ _ _) (w64_with _ _)
  intro j hj
  rw [tb_set ha (by cases b <;> first | exact w64_zero | exact w64_one), tb_with ha]
  by_cases e : (j : Int) = i
  · have hf : isF i 1 = true := isF_mk (by omega) (by omega) (by omega)
    have z : j - i.toNat = 0 := by omega
    rw [if_pos (by simp [hf]; omega), if_pos e, z]
    cases b
    · simp [tb_zero]
    · simp [tb_one, hj]
  · rw [if_neg (by simp; omega), if_neg e]

end Go.Proofs.Ytdkpahlkgdkloaa
