/- The walk of RightSums. -/
import Derived.Test.YtdkpahlkgdkloaaL6
import Derived.Deep.RegionHeld3
namespace Go.Proofs.Ytdkpahlkgdkloaa
set_option linter.unusedVariables false
set_option linter.unusedSimpArgs false
open Go.ChangeShapes Go.WideShapes Go.ChangeAt Go.RowKit Go.Joins
attribute [local go_sem ↓] Go.wp_at_zero Go.wp_at_succ

theorem code_parts (p s u r f : Bool) : 0 ≤ codeF p s u r f ∧ codeF p s u r f ≤ 31 ∧ (codeF p s u r f % 2 == 1) = p ∧ (codeF p s u r f / 2 % 2 == 1) = s ∧ (codeF p s u r f / 4 % 2 == 1) = u ∧ (codeF p s u r f / 8 % 2 == 1) = r ∧ (16 ≤ codeF p s u r f → f = true) := by
  cases p <;> cases s <;> cases u <;> cases r <;> cases f <;> decide +kernel

theorem code_some (k : Int) (u c b0 b1 b2 b3 p r : Bool) :
    ∃ z : Int, (∀ w, Calls Try.prog 18 #[accV k u c, ctlV b0 b1 b2 b3, .bool p, .bool r] w fun e w' => e = .returned (.int .i64 z) ∧ Kept w w') ∧
      0 ≤ z ∧ z ≤ 31 ∧ (z % 2 == 1) = p ∧ (z / 2 % 2 == 1) = (k == 2) ∧ (z / 4 % 2 == 1) = u ∧ (z / 8 % 2 == 1) = r ∧ (z < 16 ∨ (16 ≤ z ∧ k = 3)) := by
  obtain ⟨h0, h1, h2, h3, h4, h5, h6⟩ := code_parts p (k == 2) u r (fetF k b2 b1)
  refine ⟨codeF p (k == 2) u r (fetF k b2 b1), fun w => code_any k u c b0 b1 b2 b3 p r w, h0, h1, h2, h3, h4, h5, ?_⟩
  by_cases h : codeF p (k == 2) u r (fetF k b2 b1) < 16
  · exact .inl h
  · have h7 := h6 (by omega)
    unfold fetF at h7
    exact .inr ⟨by omega, by simp at h7; exact h7.1⟩

set_option maxRecDepth 100000 in
set_option maxHeartbeats 1600000 in
theorem rightSums_walk (k : Int) (u c p r : Bool) (w : World) :
    Calls Try.prog 8 #[accV k u c, .bool p, .bool r] w fun e w' => e = .returned (.bool true) ∧ Below w.heap.size w w' := by
  go_enter Try.func8, Try.ntmps8
  go_wp2_with fail
  refine (awake6_any _).mono ?_
  rintro e w1 ⟨rfl, hb1⟩
  have A1 : Hid (AccAt w1 w.heap.size k u c) := acc_keep (acc_new _ _ _ _ _) (by simp) hb1
  have lt1 : w.heap.size < w1.heap.size := by have := hb1.size; simp at this; omega
  have K1 : Hid (Kept w w1) := Kept.step hb1 (kept_alloc _ _)
  clear hb1
  go_wp2
  go_loopw [8] (fun i wr => ∃ n : Nat, n ≤ 16 ∧ i = .int .i64 n ∧ AccAt wr w.heap.size k u c ∧ w.heap.size < wr.heap.size ∧ Kept w wr) (fun i _ => (16 - intOf i).toNat)
  case atStart => exact ⟨0, by omega, rfl, A1.out, lt1, K1.out⟩
  case round =>
    obtain ⟨n, hn, rfl, hA0, hlt, hK0⟩ := hrel
    have hA := Lib.hid hA0
    have hK := Lib.hid hK0
    clear hA0 hK0 A1 K1 lt1
    by_cases hl : n < 16
    · obtain ⟨b0, b1, b2, b3, C0⟩ := ctl_some n hl
      have C := Lib.hid C0
      clear C0
      obtain ⟨z, D0, z0, z1, e1, e2, e4, e8, hz⟩ := code_some k u c b0 b1 b2 b3 p r
      have D := Lib.hid D0
      clear D0
      have d0 : decide (z < 0) = false := by simp; omega
      have d1 : decide (31 < z) = false := by simp; omega
      go_wp2
      go_region_held3 (fun w2 => w2.cell? ⟨w.heap.size, 0, none⟩ = some (.int .i64 k) ∧ w2.cell? ⟨w.heap.size, 1, none⟩ = some (.bool u) ∧ w2.cell? ⟨w.heap.size, 2, none⟩ = some (.bool c) ∧ Kept wr w2)
        (first | assumption | exact acc_and hA.out hlt (Kept.drew0 _) | exact acc_step hA.out hlt (by assumption) (by assumption))
        (first | (go_at_call 10; refine (C.out _).mono ?_; rintro e w2 ⟨rfl, hb2⟩) | (go_at_call 18; refine (D.out _).mono ?_; rintro e w2 ⟨rfl, hb2⟩))
      all_goals
        rename_i hH
        obtain ⟨c0, c1, c2, hk0⟩ := hH
        have hH := Lib.hid hk0
        clear hk0
        obtain hz | ⟨hz, hk3⟩ := hz
        · have d2 : decide (16 ≤ z) = false := by simp; omega
          go_wp2
          go_roundw
          all_goals first | (simp [intOf]; omega) | exact ⟨n + 1, by omega, by go_num, acc_keep hA.out hlt hH.out, Nat.lt_of_lt_of_le hlt (Kept.size hH.out), Kept.step hH.out hK.out⟩
        · subst hk3
          have d2 : decide (16 ≤ z) = true := by simp; omega
          go_wp2
          go_roundw
          all_goals first | (simp [intOf]; omega) | exact ⟨n + 1, by omega, by go_num, acc_keep hA.out hlt hH.out, Nat.lt_of_lt_of_le hlt (Kept.size hH.out), Kept.step hH.out hK.out⟩
    · go_wp2
      go_ret
      exact ⟨rfl, hK.out⟩
end Go.Proofs.Ytdkpahlkgdkloaa
