/- Contracts of package field: what each call returns, in an unchanged world. -/
import Derived.Test.YtlpjbmlkpmhdlaaDoorRows
import Derived.Test.YtlpjbmlkpmhdlaaDoorBv
import Derived.WalkKit
import Derived.ProofKit
import Derived.OpenShut
namespace Go.Proofs.YtlpjbmlkpmhdlaaDoor
set_option linter.unusedVariables false
set_option linter.unusedSimpArgs false
open Go.ChangeShapes Go.WideShapes Go.ChangeAt Go.RowKit

/-- a number that fits an int -/
def I64 (n : Int) : Prop := -9223372036854775808 ≤ n ∧ n ≤ 9223372036854775807

theorem ret_int {k : IntKind} {a b : Int} (h : a = b) : Ending.returned (.int k a) = .returned (.int k b) := by rw [h]

theorem ret_bool {a b : Bool} (h : a = b) : Ending.returned (.bool a) = .returned (.bool b) := by rw [h]

theorem isField_any (lo n : Int) (w : World) (hn : I64 n) :
    Calls Tryd.prog 85 #[.int .i64 lo, .int .i64 n] w fun e w' => e = .returned (.bool (isF lo n)) ∧ w = w' := by
  obtain ⟨h1, h2⟩ := hn
  by_cases a : lo < 0
  · have e : isF lo n = false := isF_no (by omega)
    rw [e]
    go_enter Tryd.func85, Tryd.ntmps85
    go_wp2
    go_ret
    exact ⟨rfl, rfl⟩
  · by_cases b : n < 1
    · have e : isF lo n = false := isF_no (by omega)
      rw [e]
      go_enter Tryd.func85, Tryd.ntmps85
      go_wp2
      go_ret
      exact ⟨rfl, rfl⟩
    · by_cases c : 64 - n < lo
      · have e : isF lo n = false := isF_no (by omega)
        rw [e]
        go_enter Tryd.func85, Tryd.ntmps85
        go_wp2
        go_ret
        exact ⟨rfl, rfl⟩
      · have e : isF lo n = true := isF_mk (by omega) (by omega) (by omega)
        rw [e]
        go_enter Tryd.func85, Tryd.ntmps85
        go_wp2
        go_ret
        exact ⟨rfl, rfl⟩

theorem mask_any (lo n : Int) (w : World) (hn : I64 n) :
    Calls Tryd.prog 68 #[.int .i64 lo, .int .i64 n] w fun e w' => e = .returned (.int .u64 (maskF lo n)) ∧ w = w' := by
  by_cases h : isF lo n = true
  · obtain ⟨b1, b2, b3⟩ := isF_bd h
    have e : maskF lo n = IntKind.u64.wrap (18446744073709551615 / 2 ^ (64 - n).toNat * 2 ^ lo.toNat) := by unfold maskF; rw [if_pos h]
    rw [e]
    clear e
    go_enter Tryd.func68, Tryd.ntmps68
    go_wp2_with (go_at_call 85; refine (isField_any _ _ _ hn).mono ?_; rintro e w' ⟨rfl, rfl⟩)
    go_ret
    exact ⟨rfl, rfl⟩
  · have h' : isF lo n = false := by simpa using h
    have e : maskF lo n = 0 := by unfold maskF; rw [if_neg h]
    rw [e]
    clear e h
    go_enter Tryd.func68, Tryd.ntmps68
    go_wp2_with (go_at_call 85; refine (isField_any _ _ _ hn).mono ?_; rintro e w' ⟨rfl, rfl⟩)
    go_ret
    exact ⟨rfl, rfl⟩

theorem get_any (a lo n : Int) (w : World) (hn : I64 n) :
    Calls Tryd.prog 84 #[.int .u64 a, .int .i64 lo, .int .i64 n] w fun e w' => e = .returned (.int .u64 (getF a lo n)) ∧ w = w' := by
  by_cases h : isF lo n = true
  · obtain ⟨b1, b2, b3⟩ := isF_bd h
    have e : getF a lo n = bits .and .u64 a (maskF lo n) / 2 ^ lo.toNat := by unfold getF; rw [if_pos h]
    rw [e]
    clear e
    go_enter Tryd.func84, Tryd.ntmps84
    go_wp2_with (first | (go_at_call 85; refine (isField_any _ _ _ hn).mono ?_; rintro e w' ⟨rfl, rfl⟩) | (go_at_call 68; refine (mask_any _ _ _ hn).mono ?_; rintro e w' ⟨rfl, rfl⟩))
    go_ret
    exact ⟨rfl, rfl⟩
  · have h' : isF lo n = false := by simpa using h
    have e : getF a lo n = 0 := by unfold getF; rw [if_neg h]
    rw [e]
    clear e h
    go_enter Tryd.func84, Tryd.ntmps84
    go_wp2_with (first | (go_at_call 85; refine (isField_any _ _ _ hn).mono ?_; rintro e w' ⟨rfl, rfl⟩) | (go_at_call 68; refine (mask_any _ _ _ hn).mono ?_; rintro e w' ⟨rfl, rfl⟩))
    go_ret
    exact ⟨rfl, rfl⟩

theorem i64_one : I64 1 := ⟨by decide, by decide⟩

theorem aw1 : getF 43981 4 8 = 188 := by decide +kernel
theorem aw2 : setF 0 4 4 31 = 240 := by decide +kernel
theorem aw3 : bitF 4 2 = true := by decide +kernel
theorem aw4 : withF 0 3 true = 8 := by decide +kernel
theorem aw5 : maskF 1 2 = 6 := by decide +kernel

theorem i64_small (n : Int) (h : 0 ≤ n ∧ n ≤ 1000) : I64 n := by unfold I64; omega

end Go.Proofs.YtlpjbmlkpmhdlaaDoor
