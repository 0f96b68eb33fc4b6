/- The walk of FieldApart. -/
import Derived.Test.YtbfgianjehkllaaN
import Derived.Test.YtbfgianjehkllaaM
import Derived.Test.YtbfgianjehkllaaFr
import Derived.BigQuiet
namespace Go.Proofs.Ytbfgianjehkllaa
open Go.ChangeShapes Go.WideShapes Go.ChangeAt Go.RowKit Go.Joins

set_option maxRecDepth 100000 in
theorem fieldApart_walk (x t u b : Int) (w : World) (hx : W64 x) (ht : W64 t) (hu : W64 u) (b0 : 0 ≤ b) (b1 : b ≤ 255) :
    Calls Try.prog 6 #[.int .u64 x, .agg #[.int .u64 t, .int .u64 u], .int .u8 b] w fun e w' => e = .returned (.bool true) ∧ Below w.heap.size w w' := by
  have f1 := set_apart hx ht hu (k := 1 + b % 63) (by omega) (by omega)
  have f2 := get_apart1 hx u (k := 1 + b % 63) (by omega) (by omega)
  have f3 := get_apart2 hx t (k := 1 + b % 63) (by omega) (by omega)
  have H := Lib.hid (set_sum hx ht hu (k := 1 + b % 63) (by omega) (by omega))
  have n1 : I64 (1 + b % 63) := by unfold I64; omega
  have n2 : I64 (64 - (1 + b % 63)) := by unfold I64; omega
  go_enter Try.func6, Try.ntmps6
  go_wp2_with (first | (go_at_call 9; refine (awake_any _).mono ?_; rintro e w' ⟨rfl, rfl⟩))
  go_quiet (first | (go_at_call 16; exact quietOf (set_any _ _ _ _ _ (by first | exact n1 | exact n2))))
  go_wp2
  go_quiet (first | (go_at_call 16; exact quietOf2 (set_any _ _ _ _ _ (by first | exact n1 | exact n2))))
  go_wp2
  go_quiet (first | (go_at_call 12; exact quietOf2 (get_any _ _ _ _ (by first | exact n1 | exact n2))) | (go_at_call 16; exact quietOf2 (set_any _ _ _ _ _ (by first | exact n1 | exact n2))))
  go_wp2
  go_ret
  exact ⟨ret_bool (by rw [H.out]; exact beq_self_eq_true _), (((below_alloc1 _ _).trans (below_draws _ _ _)).trans (below_draws _ _ _)).trans (below_draws _ _ _)⟩
end Go.Proofs.Ytbfgianjehkllaa
