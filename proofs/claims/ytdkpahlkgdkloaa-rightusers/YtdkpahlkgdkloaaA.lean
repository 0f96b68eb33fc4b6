/- Contracts of package field: what each call returns, in an unchanged world. -/
import Derived.Test.YtdkpahlkgdkloaaRows
import Derived.Test.YtdkpahlkgdkloaaBv
import Derived.WalkKit
import Derived.ProofKit
import Derived.OpenShut
namespace Go.Proofs.Ytdkpahlkgdkloaa
set_option linter.unusedVariables false
set_option linter.unusedSimpArgs false
open Go.ChangeShapes Go.WideShapes Go.ChangeAt Go.RowKit

/-- a number that fits an int -/
def I64 (n : Int) : Prop := -9223372036854775808 ≤ n ∧ n ≤ 9223372036854775807

theorem ret_int {k : IntKind} {a b : Int} (h : a = b) : Ending.returned (.int k a) = .returned (.int k b) := by rw [h]

theorem ret_bool {a b : Bool} (h : a = b) : Ending.returned (.bool a) = .returned (.bool b) := by rw [h]

theorem i64_one : I64 1 := ⟨by decide, by decide⟩

theorem aw1 : getF 43981 4 8 = 188 := by decide +kernel
theorem aw2 : setF 0 4 4 31 = 240 := by decide +kernel
theorem aw3 : bitF 4 2 = true := by decide +kernel
theorem aw4 : withF 0 3 true = 8 := by decide +kernel
theorem aw5 : maskF 1 2 = 6 := by decide +kernel

theorem i64_small (n : Int) (h : 0 ≤ n ∧ n ≤ 1000) : I64 n := by unfold I64; omega

end Go.Proofs.Ytdkpahlkgdkloaa
