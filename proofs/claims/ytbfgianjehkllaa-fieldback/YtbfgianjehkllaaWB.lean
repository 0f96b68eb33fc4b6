/- The walk of FieldBack. -/
import Derived.Test.YtbfgianjehkllaaN
import Derived.Test.YtbfgianjehkllaaM
import Derived.Test.YtbfgianjehkllaaFr
import Derived.BigQuiet
namespace Go.Proofs.Ytbfgianjehkllaa
open Go.ChangeShapes Go.WideShapes Go.ChangeAt Go.RowKit Go.Joins

theorem fieldBack_none (x v lo n : Int) (w : World) (hn : I64 n) (h : isF lo n = false) :
    Calls Try.prog 5 #[.int .u64 x, .int .u64 v, .agg #[.int .i64 lo, .int .i64 n]] w fun e w' => e = .returned (.bool true) ∧ Below w.heap.size w w' := by
  go_enter Try.func5, Try.ntmps5
  go_wp2_with (first | (go_at_call 9; refine (awake_any _).mono ?_; rintro e w' ⟨rfl, rfl⟩) | (go_at_call 10; refine (mask_none _ _ _ hn h).mono ?_; rintro e w' ⟨rfl, rfl⟩) | (go_at_call 16; refine (set_none _ _ _ _ _ hn h).mono ?_; rintro e w' ⟨rfl, rfl⟩) | (go_at_call 12; refine (get_none _ _ _ _ hn h).mono ?_; rintro e w' ⟨rfl, rfl⟩))
  go_ret
  exact ⟨rfl, below_alloc1 _ _⟩

theorem and63 {n : Int} (h0 : 0 ≤ n) (h1 : n < 64) : bits .and .i64 n 63 = n := by
  have h := bits_mask .i64 62 (by decide) (fun m a b => by rw [IntKind.wrap_i64]; omega) 6 (by decide) n h0 (by omega)
  have e : ((2 : Int) ^ 6 - 1) = 63 := by decide
  rw [e] at h
  rw [h]
  exact Int.emod_eq_of_lt h0 (by simpa using h1)

theorem fits_low {n : Int} (h0 : 1 ≤ n) (h1 : n < 64) (v : Int) :
    bits .and .u64 v (2 ^ n.toNat - 1) = bits .and .u64 v (IntKind.u64.wrap (IntKind.u64.wrap (2 ^ min (IntKind.u64.wrap (bits .and .i64 n 63)).toNat 64) - 1)) := by
  have hw : IntKind.u64.wrap n = n := by rw [IntKind.wrap_u64]; omega
  obtain ⟨p0, p1⟩ := w64_pow (s := n.toNat) (by omega)
  have hp : (0 : Int) < 2 ^ n.toNat := Int.pow_pos (by decide)
  rw [and63 (by omega) h1, hw, show min n.toNat 64 = n.toNat by omega, IntKind.wrap_u64 (2 ^ n.toNat), Int.emod_eq_of_lt p0 p1, IntKind.wrap_u64,
    Int.emod_eq_of_lt (by omega) (by omega)]

set_option maxRecDepth 100000 in
theorem fieldBack_low (x v lo n : Int) (w : World) (hx : W64 x) (hv : W64 v) (hn : I64 n) (h : isF lo n = true) (hlt : n < 64) :
    Calls Try.prog 5 #[.int .u64 x, .int .u64 v, .agg #[.int .i64 lo, .int .i64 n]] w fun e w' => e = .returned (.bool true) ∧ Below w.heap.size w w' := by
  obtain ⟨b0, b1, b2⟩ := isF_bd h
  have e0 : (maskF lo n == 0) = false := by simpa using mask_ne h
  have e2 := set_rest hx lo n v
  have e3 := set_get hx lo n v
  have e4 := set_set hx hv lo n
  have e1 := (get_set_low hx hv h hlt).trans (fits_low b1 hlt v)
  go_enter Try.func5, Try.ntmps5
  go_wp2_with (first | (go_at_call 9; refine (awake_any _).mono ?_; rintro e w' ⟨rfl, rfl⟩) | (go_at_call 10; refine (mask_any _ _ _ hn).mono ?_; rintro e w' ⟨rfl, rfl⟩) | (go_at_call 16; refine (set_any _ _ _ _ _ hn).mono ?_; rintro e w' ⟨rfl, rfl⟩))
  go_quiet (first | (go_at_call 12; exact quietOf (get_any _ _ _ _ hn)) | (go_at_call 16; exact quietOf (set_any _ _ _ _ _ hn)))
  go_wp2
  go_ret
  exact ⟨rfl, (below_alloc1 _ _).trans (below_draws _ _ _)⟩

set_option maxRecDepth 100000 in
theorem fieldBack_all (x v lo n : Int) (w : World) (hx : W64 x) (hv : W64 v) (hn : I64 n) (h : isF lo n = true) (hge : ¬ n < 64) :
    Calls Try.prog 5 #[.int .u64 x, .int .u64 v, .agg #[.int .i64 lo, .int .i64 n]] w fun e w' => e = .returned (.bool true) ∧ Below w.heap.size w w' := by
  obtain ⟨b0, b1, b2⟩ := isF_bd h
  have e0 : (maskF lo n == 0) = false := by simpa using mask_ne h
  have e2 := set_rest hx lo n v
  have e3 := set_get hx lo n v
  have e4 := set_set hx hv lo n
  have e1 := get_set_all hx hv h (by omega)
  go_enter Try.func5, Try.ntmps5
  go_wp2_with (first | (go_at_call 9; refine (awake_any _).mono ?_; rintro e w' ⟨rfl, rfl⟩) | (go_at_call 10; refine (mask_any _ _ _ hn).mono ?_; rintro e w' ⟨rfl, rfl⟩) | (go_at_call 16; refine (set_any _ _ _ _ _ hn).mono ?_; rintro e w' ⟨rfl, rfl⟩))
  go_quiet (first | (go_at_call 12; exact quietOf (get_any _ _ _ _ hn)) | (go_at_call 16; exact quietOf (set_any _ _ _ _ _ hn)))
  go_wp2
  go_ret
  exact ⟨rfl, (below_alloc1 _ _).trans (below_draws _ _ _)⟩

theorem fieldBack_walk (x v lo n : Int) (w : World) (hx : W64 x) (hv : W64 v) (hn : I64 n) :
    Calls Try.prog 5 #[.int .u64 x, .int .u64 v, .agg #[.int .i64 lo, .int .i64 n]] w fun e w' => e = .returned (.bool true) ∧ Below w.heap.size w w' := by
  cases h : isF lo n
  · exact fieldBack_none x v lo n w hn h
  · by_cases c : n < 64
    · exact fieldBack_low x v lo n w hx hv hn h c
    · exact fieldBack_all x v lo n w hx hv hn h c
end Go.Proofs.Ytbfgianjehkllaa
