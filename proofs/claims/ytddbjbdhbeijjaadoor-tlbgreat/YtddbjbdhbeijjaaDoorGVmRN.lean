/- Several texts of ours in one: Vm, R, N. -/
import Derived.Test.YtddbjbdhbeijjaaDoorGBvAM
import Derived.LoopTactic
import Derived.Lib.Hide
/- Plain mathematics of addresses: sign, places, pages, the next page. Nothing of the program. -/
namespace Go.Proofs.YtddbjbdhbeijjaaDoor
set_option linter.unusedVariables false
set_option linter.unusedSimpArgs false

def sizeF (l : Int) : Int := if l = 1 then 4096 else if l = 2 then 2097152 else if l = 3 then 1073741824 else 0
def lowF (a l : Int) : Int := if sizeF l = 0 then 0 else a % sizeF l
def pageF (a l : Int) : Int := a - lowF a l
def indexF (a l : Int) : Int := if l = 1 then a / 4096 % 512 else if l = 2 then a / 2097152 % 512 else if l = 3 then a / 1073741824 % 512 else if l = 4 then a / 549755813888 % 512 else 0
theorem get_index {a : Int} (ha : W64 a) : getF a 12 9 = indexF a 1 ∧ getF a 21 9 = indexF a 2 ∧ getF a 30 9 = indexF a 3 ∧ getF a 39 9 = indexF a 4 := by
  refine ⟨?_, ?_, ?_, ?_⟩ <;> (rw [get_div ha (by decide)]; rfl)

theorem index_bd (a l : Int) : 0 ≤ indexF a l ∧ indexF a l < 512 := by
  unfold indexF
  repeat' split
  all_goals omega

theorem size_bd (l : Int) : 0 ≤ sizeF l ∧ sizeF l ≤ 1073741824 := by
  unfold sizeF
  repeat' split
  all_goals omega

theorem low_bd {a : Int} (h : 0 ≤ a) (l : Int) : 0 ≤ lowF a l ∧ lowF a l ≤ a := by
  unfold lowF
  split
  · omega
  · have := size_bd l
    exact ⟨Int.emod_nonneg _ (by omega), emod_le h (by omega)⟩

theorem w64_page {a : Int} (ha : W64 a) (l : Int) : W64 (pageF a l) := by
  have := low_bd ha.1 l
  obtain ⟨h0, h1⟩ := ha
  unfold pageF W64
  omega

theorem wrap_page {a : Int} (ha : W64 a) (l : Int) : IntKind.u64.wrap (a - lowF a l) = pageF a l := by
  obtain ⟨h0, h1⟩ := w64_page ha l
  rw [IntKind.wrap_u64]
  unfold pageF at *
  omega

end Go.Proofs.YtddbjbdhbeijjaaDoor
/- Contracts of package dormerref01: each answers as package field does. -/
namespace Go.Proofs.YtddbjbdhbeijjaaDoor
set_option linter.unusedVariables false
set_option linter.unusedSimpArgs false
open Go.ChangeShapes Go.WideShapes Go.ChangeAt Go.RowKit


theorem is_any (lo n : Int) (w : World) :
    Calls Tryd.prog 76 #[.int .i64 lo, .int .i64 n] w fun e w' => e = .returned (.bool (isF lo n)) ∧ w = w' := by
  by_cases a : lo < 0
  · have e : isF lo n = false := isF_no (by omega)
    rw [e]
    go_enter Tryd.func76, Tryd.ntmps76
    go_wp2
    go_ret
    exact ⟨rfl, rfl⟩
  · by_cases b : n < 1
    · have e : isF lo n = false := isF_no (by omega)
      rw [e]
      go_enter Tryd.func76, Tryd.ntmps76
      go_wp2
      go_ret
      exact ⟨rfl, rfl⟩
    · by_cases c : 64 < lo
      · have e : isF lo n = false := isF_no (by omega)
        rw [e]
        go_enter Tryd.func76, Tryd.ntmps76
        go_wp2
        go_ret
        exact ⟨rfl, rfl⟩
      · by_cases d : 64 - lo < n
        · have e : isF lo n = false := isF_no (by omega)
          rw [e]
          go_enter Tryd.func76, Tryd.ntmps76
          go_wp2
          go_ret
          exact ⟨ret_bool (by simp; omega), rfl⟩
        · have e : isF lo n = true := isF_mk (by omega) (by omega) (by omega)
          have d' : n ≤ 64 - lo := by omega
          rw [e]
          go_enter Tryd.func76, Tryd.ntmps76
          go_wp2
          go_ret
          exact ⟨rfl, rfl⟩

theorem pow_step {k : Nat} (h : k < 63) : IntKind.u64.wrap (2 * 2 ^ k) = 2 ^ (k + 1) := by
  have h1 := (w64_pow (s := k + 1) (by omega))
  obtain ⟨h0, h2⟩ := h1
  rw [IntKind.wrap_u64, Int.mul_comm, ← Int.pow_succ]
  exact Int.emod_eq_of_lt h0 h2

theorem power_any (n : Int) (w : World) (h0 : 0 ≤ n) (h1 : n ≤ 63) :
    Calls Tryd.prog 72 #[.int .i64 n] w fun e w' => e = .returned (.int .u64 (2 ^ n.toNat)) ∧ w = w' := by
  go_enter Tryd.func72, Tryd.ntmps72
  go_wp2
  go_loop [3, 4] (fun x i => ∃ k : Nat, (k : Int) ≤ n ∧ i = .int .i64 k ∧ x = .int .u64 (2 ^ k)) (fun _ i => (n - intOf i).toNat)
  case atStart => exact ⟨0, h0, rfl, rfl⟩
  case round =>
    obtain ⟨k, hk, rfl, rfl⟩ := hrel
    by_cases hlt : (k : Int) < n
    · have hs := Lib.hid (pow_step (k := k) (by omega))
      go_wp2
      go_round
      case rel => exact ⟨k + 1, by omega, by go_num, by rw [← hs.out]⟩
      case measure => simp [intOf]; omega
    · go_wp2
      go_ret
      exact ⟨ret_int (by rw [show n.toNat = k by omega]), rfl⟩

theorem rbit_any (a i : Int) (w : World) (ha : W64 a) :
    Calls Tryd.prog 61 #[.int .u64 a, .int .i64 i] w fun e w' => e = .returned (.bool (bitF a i)) ∧ w = w' := by
  obtain ⟨a0, a1⟩ := ha
  by_cases h0 : i < 0
  · have e : bitF a i = false := by rw [bitF_tb ⟨a0, a1⟩]; simp [show ¬ 0 ≤ i by omega]
    rw [e]
    clear e
    go_enter Tryd.func61, Tryd.ntmps61
    go_wp2
    go_ret
    exact ⟨rfl, rfl⟩
  · by_cases h1 : 63 < i
    · have e : bitF a i = false := by rw [bitF_tb ⟨a0, a1⟩]; simp [show ¬ i ≤ 63 by omega]
      rw [e]
      clear e
      go_enter Tryd.func61, Tryd.ntmps61
      go_wp2
      go_ret
      exact ⟨rfl, rfl⟩
    · have e : bitF a i = decide (a / 2 ^ i.toNat % 2 = 1) := by
        rw [bitF_tb ⟨a0, a1⟩, tb_div a0]; simp [show 0 ≤ i by omega, show i ≤ 63 by omega]
      rw [e]
      clear e
      have hp : (1 : Int) ≤ 2 ^ i.toNat := (Int.pow_pos (by decide) : (0 : Int) < 2 ^ i.toNat)
      have hq : 0 ≤ a / 2 ^ i.toNat := Int.ediv_nonneg a0 (by omega)
      go_enter Tryd.func61, Tryd.ntmps61
      go_wp2_with (go_at_call 72; refine (power_any _ _ (by omega) (by omega)).mono ?_; rintro e w' ⟨rfl, rfl⟩)
      go_ret
      exact ⟨rfl, rfl⟩

/-- the places of a field -/
def inF (lo n : Int) (j : Nat) : Bool := isF lo n && decide (lo ≤ j) && decide ((j : Int) < lo + n)

theorem acc_w (f : Nat → Bool) {k : Nat} (h : k ≤ 63) : 0 ≤ (acc f k : Int) ∧ (acc f k : Int) + 2 ^ k < 18446744073709551616 := by
  have h1 := acc_lt f k
  have h2 : 2 ^ k ≤ 2 ^ 63 := Nat.pow_le_pow_right (by decide) h
  rw [two_pow_int]
  omega

theorem acc_yes (f : Nat → Bool) {k : Nat} (h : k ≤ 63) (hf : f k = true) : IntKind.u64.wrap ((acc f k : Int) + 2 ^ k) = (acc f (k + 1) : Int) := by
  obtain ⟨h0, h1⟩ := acc_w f h
  have hp : (0 : Int) ≤ 2 ^ k := Int.le_of_lt (Int.pow_pos (by decide))
  rw [IntKind.wrap_u64, Int.emod_eq_of_lt (by omega) h1]
  simp only [acc, hf, if_true]
  rw [two_pow_int]; omega

theorem acc_no (f : Nat → Bool) {k : Nat} (hf : f k = false) : acc f (k + 1) = acc f k := by
  simp [acc, hf]

/-- the places that are 1 when v is set -/
def onF (a lo n v : Int) (j : Nat) : Bool := if inF lo n j then tb v (j - lo.toNat) else tb a j

theorem acc_set {a v : Int} (ha : W64 a) (hv : W64 v) (lo n : Int) : (acc (onF a lo n v) 64 : Int) = setF a lo n v := by
  apply tb_ext (w64_acc _) (w64_set ha _ _ _)
  intro i hi
  rw [tb_acc, tb_set ha hv]; simp [hi, onF, inF]

theorem bit_nat {a : Int} (ha : W64 a) {k : Nat} (hk : k < 64) : bitF a (k : Int) = tb a k := by
  rw [bitF_tb ha]; simp; omega

theorem rset_any (a lo n v : Int) (w : World) (ha : W64 a) (hv : W64 v) :
    Calls Tryd.prog 74 #[.int .u64 a, .int .i64 lo, .int .i64 n, .int .u64 v] w fun e w' => e = .returned (.int .u64 (setF a lo n v)) ∧ w = w' := by
  by_cases h : isF lo n = true
  · obtain ⟨h0, h1, h2⟩ := isF_bd h
    go_enter Tryd.func74, Tryd.ntmps74
    go_wp2_with (first | (go_at_call 76; refine (is_any _ _ _).mono ?_; rintro e w' ⟨rfl, rfl⟩))
    go_loop [9, 10] (fun x i => ∃ k : Nat, k ≤ 64 ∧ i = .int .i64 k ∧ x = .int .u64 (acc (onF a lo n v) k : Int)) (fun _ i => (64 - intOf i).toNat)
    case atStart => exact ⟨0, by omega, rfl, rfl⟩
    case round =>
      obtain ⟨k, hk, rfl, rfl⟩ := hrel
      by_cases hlt : k < 64
      · by_cases c1 : lo ≤ (k : Int) ∧ (k : Int) < lo + n
        · obtain ⟨c2, c3⟩ := c1
          have hf : onF a lo n v k = bitF v (k - lo) := by
            simp only [onF, inF, h, c2, c3]
            rw [show ((k : Int) - lo) = ((k - lo.toNat : Nat) : Int) by omega, bit_nat hv (by omega)]; simp
          cases hb : bitF v (k - lo)
          · have hy := Lib.hid (acc_no _ (hf.trans hb))
            clear hf
            go_wp2_with (first | (go_at_call 61; refine (rbit_any _ _ _ (by first | exact ha | exact hv)).mono ?_; rintro e w' ⟨rfl, rfl⟩) | (go_at_call 72; refine (power_any _ _ (by omega) (by omega)).mono ?_; rintro e w' ⟨rfl, rfl⟩))
            go_round
            case rel => exact ⟨k + 1, by omega, by go_num, by rw [hy.out]⟩
            case measure => simp [intOf]; omega
          · have hy := Lib.hid (acc_yes _ (by omega) (hf.trans hb))
            clear hf
            go_wp2_with (first | (go_at_call 61; refine (rbit_any _ _ _ (by first | exact ha | exact hv)).mono ?_; rintro e w' ⟨rfl, rfl⟩) | (go_at_call 72; refine (power_any _ _ (by omega) (by omega)).mono ?_; rintro e w' ⟨rfl, rfl⟩))
            go_round
            case rel => exact ⟨k + 1, by omega, by go_num, by rw [← hy.out]⟩
            case measure => simp [intOf]; omega
        · have hf : onF a lo n v k = bitF a k := by
            rw [bit_nat ha (by omega)]
            simp only [onF, inF, h]
            rw [if_neg]
            simp; omega
          by_cases c2 : lo ≤ (k : Int)
          · have c3 : ¬ (k : Int) < lo + n := by omega
            clear c1
            cases hb : bitF a k
            · have hy := Lib.hid (acc_no _ (hf.trans hb))
              clear hf
              go_wp2_with (first | (go_at_call 61; refine (rbit_any _ _ _ (by first | exact ha | exact hv)).mono ?_; rintro e w' ⟨rfl, rfl⟩) | (go_at_call 72; refine (power_any _ _ (by omega) (by omega)).mono ?_; rintro e w' ⟨rfl, rfl⟩))
              go_round
              case rel => exact ⟨k + 1, by omega, by go_num, by rw [hy.out]⟩
              case measure => simp [intOf]; omega
            · have hy := Lib.hid (acc_yes _ (by omega) (hf.trans hb))
              clear hf
              go_wp2_with (first | (go_at_call 61; refine (rbit_any _ _ _ (by first | exact ha | exact hv)).mono ?_; rintro e w' ⟨rfl, rfl⟩) | (go_at_call 72; refine (power_any _ _ (by omega) (by omega)).mono ?_; rintro e w' ⟨rfl, rfl⟩))
              go_round
              case rel => exact ⟨k + 1, by omega, by go_num, by rw [← hy.out]⟩
              case measure => simp [intOf]; omega
          · clear c1
            cases hb : bitF a k
            · have hy := Lib.hid (acc_no _ (hf.trans hb))
              clear hf
              go_wp2_with (first | (go_at_call 61; refine (rbit_any _ _ _ (by first | exact ha | exact hv)).mono ?_; rintro e w' ⟨rfl, rfl⟩) | (go_at_call 72; refine (power_any _ _ (by omega) (by omega)).mono ?_; rintro e w' ⟨rfl, rfl⟩))
              go_round
              case rel => exact ⟨k + 1, by omega, by go_num, by rw [hy.out]⟩
              case measure => simp [intOf]; omega
            · have hy := Lib.hid (acc_yes _ (by omega) (hf.trans hb))
              clear hf
              go_wp2_with (first | (go_at_call 61; refine (rbit_any _ _ _ (by first | exact ha | exact hv)).mono ?_; rintro e w' ⟨rfl, rfl⟩) | (go_at_call 72; refine (power_any _ _ (by omega) (by omega)).mono ?_; rintro e w' ⟨rfl, rfl⟩))
              go_round
              case rel => exact ⟨k + 1, by omega, by go_num, by rw [← hy.out]⟩
              case measure => simp [intOf]; omega
      · go_wp2
        go_ret
        exact ⟨ret_int (by rw [show k = 64 by omega, acc_set ha hv]), rfl⟩
  · have h' : isF lo n = false := by simpa using h
    have e : setF a lo n v = a := by unfold setF; rw [if_neg h]
    rw [e]
    clear e h
    go_enter Tryd.func74, Tryd.ntmps74
    go_wp2_with (first | (go_at_call 76; refine (is_any _ _ _).mono ?_; rintro e w' ⟨rfl, rfl⟩))
    go_ret
    exact ⟨rfl, rfl⟩

theorem w64_one : W64 1 := ⟨by decide, by decide⟩

theorem with_set {a : Int} (ha : W64 a) (i : Int) (b : Bool) : setF a i 1 (if b then 1 else 0) = withF a i b := by
  apply tb_ext (w64_set ha _ _ _) (w64_with _ _)
  intro j hj
  rw [tb_set ha (by cases b <;> first | exact w64_zero | exact w64_one), tb_with ha]
  by_cases e : (j : Int) = i
  · have hf : isF i 1 = true := isF_mk (by omega) (by omega) (by omega)
    have z : j - i.toNat = 0 := by omega
    rw [if_pos (by simp [hf]; omega), if_pos e, z]
    cases b
    · simp [tb_zero]
    · simp [tb_one, hj]
  · rw [if_neg (by simp; omega), if_neg e]

theorem rwith_any (a i : Int) (b : Bool) (w : World) (ha : W64 a) :
    Calls Tryd.prog 71 #[.int .u64 a, .int .i64 i, .bool b] w fun e w' => e = .returned (.int .u64 (withF a i b)) ∧ w = w' := by
  have e := Lib.hid (with_set ha i b)
  cases b
  · go_enter Tryd.func71, Tryd.ntmps71
    go_wp2_with (go_at_call 74; refine (rset_any _ _ _ _ _ ha w64_zero).mono ?_; rintro e w' ⟨rfl, rfl⟩)
    go_ret
    exact ⟨ret_int e.out, rfl⟩
  · go_enter Tryd.func71, Tryd.ntmps71
    go_wp2_with (go_at_call 74; refine (rset_any _ _ _ _ _ ha w64_one).mono ?_; rintro e w' ⟨rfl, rfl⟩)
    go_ret
    exact ⟨ret_int e.out, rfl⟩

end Go.Proofs.YtddbjbdhbeijjaaDoor
/- What the calls of package field answer where there is no field; numbers that came in. -/
namespace Go.Proofs.YtddbjbdhbeijjaaDoor
set_option linter.unusedVariables false
set_option linter.unusedSimpArgs false
open Go.ChangeShapes Go.WideShapes Go.ChangeAt Go.RowKit

theorem w64_of {a : Int} (h : (Lit.int .u64 a).wf = true) : W64 a := by
  have := bounds_u64 h; unfold W64; omega
theorem i64_of {a : Int} (h : (Lit.int .i64 a).wf = true) : I64 a := bounds_i64 h

end Go.Proofs.YtddbjbdhbeijjaaDoor
