/- Contracts of dormerref06: May. -/
import Derived.Test.YtdkpahlkgdkloaaGb
import Derived.Test.YtdkpahlkgdkloaaGc
namespace Go.Proofs.Ytdkpahlkgdkloaa
set_option linter.unusedVariables false
set_option linter.unusedSimpArgs false
open Go.ChangeShapes Go.WideShapes Go.ChangeAt Go.RowKit Go.Joins

set_option maxHeartbeats 1600000 in
theorem rmay1_any (W U X : Bool) (user ac wp nxe smep smap : Bool) (w : World) :
    Calls Try.prog 12 #[rgtV W U X, accV 1 user ac, ctlV wp nxe smep smap] w fun e w' => e = .returned (.bool (mayF W U X 1 user ac wp smep smap)) ∧ Below w.heap.size w w' := by
  rw [may1]
  cases user
  · cases U
    · go_enter Try.func12, Try.ntmps12
      go_wp2
      go_ret
      exact ⟨rfl, below3 _ _ _ _⟩
    · cases smap <;> cases ac
      all_goals
        go_enter Try.func12, Try.ntmps12
        go_wp2
        go_ret
        exact ⟨rfl, below3 _ _ _ _⟩
  · cases U
    all_goals
      go_enter Try.func12, Try.ntmps12
      go_wp2
      go_ret
      exact ⟨rfl, below3 _ _ _ _⟩

set_option maxHeartbeats 1600000 in
theorem rmay2_any (W U X : Bool) (user ac wp nxe smep smap : Bool) (w : World) :
    Calls Try.prog 12 #[rgtV W U X, accV 2 user ac, ctlV wp nxe smep smap] w fun e w' => e = .returned (.bool (mayF W U X 2 user ac wp smep smap)) ∧ Below w.heap.size w w' := by
  rw [may2]
  cases user
  · cases U
    · cases W <;> cases wp
      all_goals
        go_enter Try.func12, Try.ntmps12
        go_wp2
        go_ret
        exact ⟨rfl, below3 _ _ _ _⟩
    · cases smap <;> cases ac <;> cases W <;> cases wp
      all_goals
        go_enter Try.func12, Try.ntmps12
        go_wp2
        go_ret
        exact ⟨rfl, below3 _ _ _ _⟩
  · cases U <;> cases W
    all_goals
      go_enter Try.func12, Try.ntmps12
      go_wp2
      go_ret
      exact ⟨rfl, below3 _ _ _ _⟩

set_option maxHeartbeats 1600000 in
theorem rmay3_any (W U X : Bool) (user ac wp nxe smep smap : Bool) (w : World) :
    Calls Try.prog 12 #[rgtV W U X, accV 3 user ac, ctlV wp nxe smep smap] w fun e w' => e = .returned (.bool (mayF W U X 3 user ac wp smep smap)) ∧ Below w.heap.size w w' := by
  rw [may3]
  cases user <;> cases U <;> cases X <;> cases smep
  all_goals
    go_enter Try.func12, Try.ntmps12
    go_wp2
    go_ret
    exact ⟨rfl, below3 _ _ _ _⟩

set_option maxHeartbeats 1600000 in
theorem rmay_any (W U X : Bool) (k : Int) (user ac wp nxe smep smap : Bool) (w : World) :
    Calls Try.prog 12 #[rgtV W U X, accV k user ac, ctlV wp nxe smep smap] w fun e w' => e = .returned (.bool (mayF W U X k user ac wp smep smap)) ∧ Below w.heap.size w w' := by
  by_cases h1 : k = 1
  · subst h1; exact rmay1_any _ _ _ _ _ _ _ _ _ _
  · by_cases h2 : k = 2
    · subst h2; exact rmay2_any _ _ _ _ _ _ _ _ _ _
    · by_cases h3 : k = 3
      · subst h3; exact rmay3_any _ _ _ _ _ _ _ _ _ _
      · rw [may0 W U X user ac wp smep smap h1 h2 h3]
        have c1 : (k != 1) = true := by simp [h1]
        have c2 : (k != 2) = true := by simp [h2]
        have c3 : (k != 3) = true := by simp [h3]
        clear h1 h2 h3
        go_enter Try.func12, Try.ntmps12
        go_wp2
        go_ret
        exact ⟨rfl, below3 _ _ _ _⟩

end Go.Proofs.Ytdkpahlkgdkloaa
