/- Contracts of package right: Code. -/
import Derived.Test.YtdkpahlkgdkloaaGa
namespace Go.Proofs.Ytdkpahlkgdkloaa
set_option linter.unusedVariables false
set_option linter.unusedSimpArgs false
open Go.ChangeShapes Go.WideShapes Go.ChangeAt Go.RowKit Go.Joins

theorem fet3 (smep nxe : Bool) : fetF 3 smep nxe = (smep || nxe) := rfl
theorem fet0 {k : Int} (smep nxe : Bool) (h : (k == 3) = false) : fetF k smep nxe = false := by unfold fetF; rw [h]; rfl

set_option maxHeartbeats 1600000 in
theorem code_any (k : Int) (user ac wp nxe smep smap p r : Bool) (w : World) :
    Calls Try.prog 18 #[accV k user ac, ctlV wp nxe smep smap, .bool p, .bool r] w fun e w' => e = .returned (.int .i64 (codeF p (k == 2) user r (fetF k smep nxe))) ∧ Below w.heap.size w w' := by
  have e := Lib.hid (code_or p (k == 2) user r (fetF k smep nxe))
  by_cases h3 : k = 3
  · subst h3
    rw [fet3] at e
    rw [fet3]
    cases smep
    · go_enter Try.func18, Try.ntmps18
      go_wp2
      go_quiet (first | (go_at_call 24; exact quietOf (part_any _ _ _)))
      go_wp2
      go_ret
      exact ⟨ret_int e.out, below_drewN (below2 _ _ _) _⟩
    · go_enter Try.func18, Try.ntmps18
      go_wp2
      go_quiet (first | (go_at_call 24; exact quietOf (part_any _ _ _)))
      go_wp2
      go_ret
      exact ⟨ret_int e.out, below_drewN (below2 _ _ _) _⟩
  · have c3 : (k == 3) = false := by simp [h3]
    rw [fet0 _ _ c3] at e
    rw [fet0 _ _ c3]
    clear h3
    go_enter Try.func18, Try.ntmps18
    go_wp2
    go_quiet (first | (go_at_call 24; exact quietOf (part_any _ _ _)))
    go_wp2
    go_ret
    exact ⟨ret_int e.out, below_drewN (below2 _ _ _) _⟩
end Go.Proofs.Ytdkpahlkgdkloaa
