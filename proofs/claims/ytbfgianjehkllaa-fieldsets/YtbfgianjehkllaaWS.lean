/- The walk of FieldSets. -/
import Derived.Test.YtbfgianjehkllaaN
import Derived.Test.YtbfgianjehkllaaFr
import Derived.BigQuiet
namespace Go.Proofs.Ytbfgianjehkllaa
open Go.ChangeShapes Go.WideShapes Go.ChangeAt Go.RowKit Go.Joins

theorem fieldSets_walk (x v lo n : Int) (w : World) (hx : W64 x) (hv : W64 v) (hn : I64 n) :
    Calls Try.prog 4 #[.int .u64 x, .int .u64 v, .agg #[.int .i64 lo, .int .i64 n]] w fun e w' => e = .returned (.bool true) ∧ Below w.heap.size w w' := by
  have hv0 := hv.1
  go_enter Try.func4, Try.ntmps4
  go_wp2_with (first | (go_at_call 9; refine (awake_any _).mono ?_; rintro e w' ⟨rfl, rfl⟩))
  go_quiet (first | (go_at_call 16; exact quietOf (set_any _ _ _ _ _ hn)) | (go_at_call 17; exact quietOf (rset_any _ _ _ _ _ hx hv)) | (go_at_call 18; exact quietOf (with_any _ _ _ _)) | (go_at_call 19; exact quietOf (rwith_any _ _ _ _ hx)))
  go_wp2
  go_ret
  exact ⟨rfl, (below_alloc1 _ _).trans (below_draws _ _ _)⟩
end Go.Proofs.Ytbfgianjehkllaa
