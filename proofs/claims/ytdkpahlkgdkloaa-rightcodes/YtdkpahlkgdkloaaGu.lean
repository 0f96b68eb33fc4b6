/- Contracts of dormerref06: Code. -/
import Derived.Test.YtdkpahlkgdkloaaGb
import Derived.Test.YtdkpahlkgdkloaaGc
namespace Go.Proofs.Ytdkpahlkgdkloaa
set_option linter.unusedVariables false
set_option linter.unusedSimpArgs false
open Go.ChangeShapes Go.WideShapes Go.ChangeAt Go.RowKit Go.Joins

set_option maxHeartbeats 1600000 in
theorem rcode2_any (user ac wp nxe smep smap p r : Bool) (w : World) :
    Calls Try.prog 19 #[accV 2 user ac, ctlV wp nxe smep smap, .bool p, .bool r] w fun e w' => e = .returned (.int .i64 (codeF p true user r false)) ∧ Below w.heap.size w w' := by
  cases p <;> cases user <;> cases r
  all_goals
    go_enter Try.func19, Try.ntmps19
    go_wp2
    go_ret
    exact ⟨rfl, below2 _ _ _⟩

set_option maxHeartbeats 1600000 in
theorem rcode3_any (user ac wp nxe smep smap p r : Bool) (w : World) :
    Calls Try.prog 19 #[accV 3 user ac, ctlV wp nxe smep smap, .bool p, .bool r] w fun e w' => e = .returned (.int .i64 (codeF p false user r (smep || nxe))) ∧ Below w.heap.size w w' := by
  cases p <;> cases user <;> cases r <;> cases smep <;> cases nxe
  all_goals
    go_enter Try.func19, Try.ntmps19
    go_wp2
    go_ret
    exact ⟨rfl, below2 _ _ _⟩

set_option maxHeartbeats 1600000 in
theorem rcode0_any (k : Int) (user ac wp nxe smep smap p r : Bool) (w : World) (c2 : (k == 2) = false) (c3 : (k == 3) = false) :
    Calls Try.prog 19 #[accV k user ac, ctlV wp nxe smep smap, .bool p, .bool r] w fun e w' => e = .returned (.int .i64 (codeF p false user r false)) ∧ Below w.heap.size w w' := by
  cases p <;> cases user <;> cases r
  all_goals
    go_enter Try.func19, Try.ntmps19
    go_wp2
    go_ret
    exact ⟨rfl, below2 _ _ _⟩

theorem rcode_any (k : Int) (user ac wp nxe smep smap p r : Bool) (w : World) :
    Calls Try.prog 19 #[accV k user ac, ctlV wp nxe smep smap, .bool p, .bool r] w fun e w' => e = .returned (.int .i64 (codeF p (k == 2) user r (fetF k smep nxe))) ∧ Below w.heap.size w w' := by
  by_cases h2 : k = 2
  · subst h2; exact rcode2_any _ _ _ _ _ _ _ _ _
  · by_cases h3 : k = 3
    · subst h3; exact rcode3_any _ _ _ _ _ _ _ _ _
    · have c2 : (k == 2) = false := by simp [h2]
      have c3 : (k == 3) = false := by simp [h3]
      rw [fet0 _ _ c3, c2]
      exact rcode0_any _ _ _ _ _ _ _ _ _ _ c2 c3
end Go.Proofs.Ytdkpahlkgdkloaa
