/- Contracts of dormerref06: Least. -/
import Derived.Test.YtdkpahlkgdkloaaGb
import Derived.Test.YtdkpahlkgdkloaaGc
namespace Go.Proofs.Ytdkpahlkgdkloaa
set_option linter.unusedVariables false
set_option linter.unusedSimpArgs false
open Go.ChangeShapes Go.WideShapes Go.ChangeAt Go.RowKit Go.Joins

set_option maxHeartbeats 1600000 in
theorem rleast_any (w u x w' u' x' : Bool) (W : World) :
    Calls Try.prog 16 #[rgtV w u x, rgtV w' u' x'] W fun e W' => e = .returned (.bool (leastF w u x w' u' x')) ∧ Below W.heap.size W W' := by
  cases w <;> cases w' <;> cases u <;> cases u' <;> cases x <;> cases x'
  all_goals
    go_enter Try.func16, Try.ntmps16
    go_wp2
    go_ret
    exact ⟨rfl, below2 _ _ _⟩

end Go.Proofs.Ytdkpahlkgdkloaa
