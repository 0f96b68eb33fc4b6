/- Several texts of ours in one: Vm, R, N. -/
import Derived.Test.YtiihhlmddmicjaaDoorGBvAM
import Derived.LoopTactic
import Derived.Lib.Hide
/- Plain mathematics of addresses: sign, places, pages, the next page. Nothing of the program. -/
namespace Go.Proofs.YtiihhlmddmicjaaDoor
set_option linter.unusedVariables false
set_option linter.unusedSimpArgs false

def sizeF (l : Int) : Int := if l = 1 then 4096 else if l = 2 then 2097152 else if l = 3 then 1073741824 else 0
def lowF (a l : Int) : Int := if sizeF l = 0 then 0 else a % sizeF l
def pageF (a l : Int) : Int := a - lowF a l
def indexF (a l : Int) : Int := if l = 1 then a / 4096 % 512 else if l = 2 then a / 2097152 % 512 else if l = 3 then a / 1073741824 % 512 else if l = 4 then a / 549755813888 % 512 else 0
theorem get_index {a : Int} (ha : W64 a) : getF a 12 9 = indexF a 1 ∧ getF a 21 9 = indexF a 2 ∧ getF a 30 9 = indexF a 3 ∧ getF a 39 9 = indexF a 4 := by
  refine ⟨?_, ?_, ?_, ?_⟩ <;> (rw [get_div ha (by decide)]; rfl)

theorem index_bd (a l : Int) : 0 ≤ indexF a l ∧ indexF a l < 512 := by
  unfold indexF
  repeat' split
  all_goals omega

theorem size_bd (l : Int) : 0 ≤ sizeF l ∧ sizeF l ≤ 1073741824 := by
  unfold sizeF
  repeat' split
  all_goals omega

theorem low_bd {a : Int} (h : 0 ≤ a) (l : Int) : 0 ≤ lowF a l ∧ lowF a l ≤ a := by
  unfold lowF
  split
  · omega
  · have := size_bd l
    exact ⟨Int.emod_nonneg _ (by omega), emod_le h (by omega)⟩

theorem w64_page {a : Int} (ha : W64 a) (l : Int) : W64 (pageF a l) := by
  have := low_bd ha.1 l
  obtain ⟨h0, h1⟩ := ha
  unfold pageF W64
  omega

theorem wrap_page {a : Int} (ha : W64 a) (l : Int) : IntKind.u64.wrap (a - lowF a l) = pageF a l := by
  obtain ⟨h0, h1⟩ := w64_page ha l
  rw [IntKind.wrap_u64]
  unfold pageF at *
  omega

end Go.Proofs.YtiihhlmddmicjaaDoor
/- Contracts of package dormerref01: each answers as package field does. -/
namespace Go.Proofs.YtiihhlmddmicjaaDoor
set_option linter.unusedVariables false
set_option linter.unusedSimpArgs false
open Go.ChangeShapes Go.WideShapes Go.ChangeAt Go.RowKit


theorem is_any (lo n : Int) (w : World) :
    Calls Tryd.prog 91 #[.int .i64 lo, .int .i64 n] w fun e w' => e = .returned (.bool (isF lo n)) ∧ w = w' := by
  by_cases a : lo < 0
  · have e : isF lo n = false := isF_no (by omega)
    rw [e]
    go_enter Tryd.func91, Tryd.ntmps91
    go_wp2
    go_ret
    exact ⟨rfl, rfl⟩
  · by_cases b : n < 1
    · have e : isF lo n = false := isF_no (by omega)
      rw [e]
      go_enter Tryd.func91, Tryd.ntmps91
      go_wp2
      go_ret
      exact ⟨rfl, rfl⟩
    · by_cases c : 64 < lo
      · have e : isF lo n = false := isF_no (by omega)
        rw [e]
        go_enter Tryd.func91, Tryd.ntmps91
        go_wp2
        go_ret
        exact ⟨rfl, rfl⟩
      · by_cases d : 64 - lo < n
        · have e : isF lo n = false := isF_no (by omega)
          rw [e]
          go_enter Tryd.func91, Tryd.ntmps91
          go_wp2
          go_ret
          exact ⟨ret_bool (by simp; omega), rfl⟩
        · have e : isF lo n = true := isF_mk (by omega) (by omega) (by omega)
          have d' : n ≤ 64 - lo := by omega
          rw [e]
          go_enter Tryd.func91, Tryd.ntmps91
          go_wp2
          go_ret
          exact ⟨rfl, rfl⟩

theorem pow_step {k : Nat} (h : k < 63) : IntKind.u64.wrap (2 * 2 ^ k) = 2 ^ (k + 1) := by
  have h1 := (w64_pow (s := k + 1) (by omega))
  obtain ⟨h0, h2⟩ := h1
  rw [IntKind.wrap_u64, Int.mul_comm, ← Int.pow_succ]
  exact Int.emod_eq_of_lt h0 h2

theorem power_any (n : Int) (w : World) (h0 : 0 ≤ n) (h1 : n ≤ 63) :
    Calls Tryd.prog 88 #[.int .i64 n] w fun e w' => e = .returned (.int .u64 (2 ^ n.toNat)) ∧ w = w' := by
  go_enter Tryd.func88, Tryd.ntmps88
  go_wp2
  go_loop [3, 4] (fun x i => ∃ k : Nat, (k : Int) ≤ n ∧ i = .int .i64 k ∧ x = .int .u64 (2 ^ k)) (fun _ i => (n - intOf i).toNat)
  case atStart => exact ⟨0, h0, rfl, rfl⟩
  case round =>
    obtain ⟨k, hk, rfl, rfl⟩ := hrel
    by_cases hlt : (k : Int) < n
    · have hs := Lib.hid (pow_step (k := k) (by omega))
      go_wp2
      go_round
      case rel => exact ⟨k + 1, by omega, by go_num, by rw [← hs.out]⟩
      case measure => simp [intOf]; omega
    · go_wp2
      go_ret
      exact ⟨ret_int (by rw [show n.toNat = k by omega]), rfl⟩

theorem rbit_any (a i : Int) (w : World) (ha : W64 a) :
    Calls Tryd.prog 64 #[.int .u64 a, .int .i64 i] w fun e w' => e = .returned (.bool (bitF a i)) ∧ w = w' := by
  obtain ⟨a0, a1⟩ := ha
  by_cases h0 : i < 0
  · have e : bitF a i = false := by rw [bitF_tb ⟨a0, a1⟩]; simp [show ¬ 0 ≤ i by omega]
    rw [e]
    clear e
    go_enter Tryd.func64, Tryd.ntmps64
    go_wp2
    go_ret
    exact ⟨rfl, rfl⟩
  · by_cases h1 : 63 < i
    · have e : bitF a i = false := by rw [bitF_tb ⟨a0, a1⟩]; simp [show ¬ i ≤ 63 by omega]
      rw [e]
      clear e
      go_enter Tryd.func64, Tryd.ntmps64
      go_wp2
      go_ret
      exact ⟨rfl, rfl⟩
    · have e : bitF a i = decide (a / 2 ^ i.toNat % 2 = 1) := by
        rw [bitF_tb ⟨a0, a1⟩, tb_div a0]; simp [show 0 ≤ i by omega, show i ≤ 63 by omega]
      rw [e]
      clear e
      have hp : (1 : Int) ≤ 2 ^ i.toNat := (Int.pow_pos (by decide) : (0 : Int) < 2 ^ i.toNat)
      have hq : 0 ≤ a / 2 ^ i.toNat := Int.ediv_nonneg a0 (by omega)
      go_enter Tryd.func64, Tryd.ntmps64
      go_wp2_with (go_at_call 88; refine (power_any _ _ (by omega) (by omega)).mono ?_; rintro e w' ⟨rfl, rfl⟩)
      go_ret
      exact ⟨rfl, rfl⟩

theorem rget_any (a lo n : Int) (w : World) (ha : W64 a) :
    Calls Tryd.prog 75 #[.int .u64 a, .int .i64 lo, .int .i64 n] w fun e w' => e = .returned (.int .u64 (getF a lo n)) ∧ w = w' := by
  by_cases h : isF lo n = true
  · obtain ⟨h0, h1, h2⟩ := isF_bd h
    obtain ⟨hd0, hd1⟩ := w64_shr ha lo.toNat
    have hp : (1 : Int) ≤ 2 ^ lo.toNat := (Int.pow_pos (by decide) : (0 : Int) < 2 ^ lo.toNat)
    have hq : (1 : Int) ≤ 2 ^ n.toNat := (Int.pow_pos (by decide) : (0 : Int) < 2 ^ n.toNat)
    by_cases c : n = 64
    · have e := Lib.hid (get_all ha h c)
      have c1 : (n == 64) = true := by simp [c]
      obtain ⟨a0, a1⟩ := ha
      clear c
      go_enter Tryd.func75, Tryd.ntmps75
      go_wp2_with (first | (go_at_call 91; refine (is_any _ _ _).mono ?_; rintro e w' ⟨rfl, rfl⟩) | (go_at_call 88; refine (power_any _ _ (by omega) (by omega)).mono ?_; rintro e w' ⟨rfl, rfl⟩))
      go_ret
      exact ⟨ret_int e.out.symm, rfl⟩
    · have e := Lib.hid (get_div ha h)
      have c1 : (n == 64) = false := by simp [c]
      obtain ⟨a0, a1⟩ := ha
      go_enter Tryd.func75, Tryd.ntmps75
      go_wp2_with (first | (go_at_call 91; refine (is_any _ _ _).mono ?_; rintro e w' ⟨rfl, rfl⟩) | (go_at_call 88; refine (power_any _ _ (by omega) (by omega)).mono ?_; rintro e w' ⟨rfl, rfl⟩))
      go_ret
      exact ⟨ret_int e.out.symm, rfl⟩
  · have h' : isF lo n = false := by simpa using h
    have e : getF a lo n = 0 := by unfold getF; rw [if_neg h]
    rw [e]
    clear e h
    go_enter Tryd.func75, Tryd.ntmps75
    go_wp2_with (first | (go_at_call 91; refine (is_any _ _ _).mono ?_; rintro e w' ⟨rfl, rfl⟩))
    go_ret
    exact ⟨rfl, rfl⟩

end Go.Proofs.YtiihhlmddmicjaaDoor
/- What the calls of package field answer where there is no field; numbers that came in. -/
namespace Go.Proofs.YtiihhlmddmicjaaDoor
set_option linter.unusedVariables false
set_option linter.unusedSimpArgs false
open Go.ChangeShapes Go.WideShapes Go.ChangeAt Go.RowKit

theorem w64_of {a : Int} (h : (Lit.int .u64 a).wf = true) : W64 a := by
  have := bounds_u64 h; unfold W64; omega
theorem i64_of {a : Int} (h : (Lit.int .i64 a).wf = true) : I64 a := bounds_i64 h

end Go.Proofs.YtiihhlmddmicjaaDoor
