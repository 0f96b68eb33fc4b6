/- The walk of RightCodes. -/
import Derived.Test.YtdkpahlkgdkloaaL6
import Derived.Test.YtdkpahlkgdkloaaGu
import Derived.Deep.RegionHeld3
namespace Go.Proofs.Ytdkpahlkgdkloaa
set_option linter.unusedVariables false
set_option linter.unusedSimpArgs false
open Go.ChangeShapes Go.WideShapes Go.ChangeAt Go.RowKit Go.Joins
attribute [local go_sem ↓] Go.wp_at_zero Go.wp_at_succ

set_option maxRecDepth 100000 in
set_option maxHeartbeats 1600000 in
theorem rightCodes_walk (k : Int) (u c p r : Bool) (w : World) :
    Calls Try.prog 4 #[accV k u c, .bool p, .bool r] w fun e w' => e = .returned (.bool true) ∧ Below w.heap.size w w' := by
  go_enter Try.func4, Try.ntmps4
  go_wp2_with fail
  refine (awake6_any _).mono ?_
  rintro e w1 ⟨rfl, hb1⟩
  have A1 : Hid (AccAt w1 w.heap.size k u c) := acc_keep (acc_new _ _ _ _ _) (by simp) hb1
  have lt1 : w.heap.size < w1.heap.size := by have := hb1.size; simp at this; omega
  have K1 : Hid (Kept w w1) := Kept.step hb1 (kept_alloc _ _)
  clear hb1
  go_wp2
  go_loopw [8] (fun i wr => ∃ n : Nat, n ≤ 16 ∧ i = .int .i64 n ∧ AccAt wr w.heap.size k u c ∧ w.heap.size < wr.heap.size ∧ Kept w wr) (fun i _ => (16 - intOf i).toNat)
  case atStart => exact ⟨0, by omega, rfl, A1.out, lt1, K1.out⟩
  case round =>
    obtain ⟨n, hn, rfl, hA0, hlt, hK0⟩ := hrel
    have hA := Lib.hid hA0
    have hK := Lib.hid hK0
    clear hA0 hK0 A1 K1 lt1
    by_cases hl : n < 16
    · obtain ⟨b0, b1, b2, b3, C0⟩ := ctl_some n hl
      have C := Lib.hid C0
      clear C0
      go_wp2
      go_region_held3 (fun w2 => w2.cell? ⟨w.heap.size, 0, none⟩ = some (.int .i64 k) ∧ w2.cell? ⟨w.heap.size, 1, none⟩ = some (.bool u) ∧ w2.cell? ⟨w.heap.size, 2, none⟩ = some (.bool c) ∧ Kept wr w2)
        (first | assumption | exact acc_and hA.out hlt (Kept.drew0 _) | exact acc_step hA.out hlt (by assumption) (by assumption))
        (first | (go_at_call 10; refine (C.out _).mono ?_; rintro e w2 ⟨rfl, hb2⟩) | (go_at_call 18; refine (calls_kept (code_any _ _ _ _ _ _ _ _ _ _)).mono ?_; rintro e w2 ⟨rfl, hb2⟩) | (go_at_call 19; refine (calls_kept (rcode_any _ _ _ _ _ _ _ _ _ _)).mono ?_; rintro e w2 ⟨rfl, hb2⟩))
      all_goals go_wp2
      all_goals go_roundw
      all_goals first | (simp [intOf]; omega) | (rename_i hH; exact ⟨n + 1, by omega, by go_num, acc_keep hA.out hlt hH.2.2.2, Nat.lt_of_lt_of_le hlt (Kept.size hH.2.2.2), Kept.step hH.2.2.2 hK.out⟩)
    · go_wp2
      go_ret
      exact ⟨rfl, hK.out⟩
end Go.Proofs.Ytdkpahlkgdkloaa
