/- Layer 6: ctl, awake. -/
import Derived.Test.YtdkpahlkgdkloaaGb
import Derived.Test.YtdkpahlkgdkloaaGc
namespace Go.Proofs.Ytdkpahlkgdkloaa
set_option linter.unusedVariables false
set_option linter.unusedSimpArgs false
open Go.ChangeShapes Go.WideShapes Go.ChangeAt Go.RowKit Go.Joins

theorem ctl_any (k : Nat) (w : World) (hk : k < 16) :
    Calls Try.prog 10 #[.int .i64 k] w fun e w' => e = .returned (ctlV ((k : Int) % 2 == 1) ((k : Int) / 2 % 2 == 1) ((k : Int) / 4 % 2 == 1) ((k : Int) / 8 % 2 == 1)) ∧ Below w.heap.size w w' := by
  go_enter Try.func10, Try.ntmps10
  go_wp2
  refine bodyPost_ret (results_cell_row rfl _ _ w.heap.size _ _ _ _ rfl (last_obj _ _) Try.underlying30 rfl rfl) rfl ⟨rfl, below_alloc1 _ _⟩

theorem and_aw (w : World) : Calls Try.prog 13 #[rgtV true true true, .int .u64 4] w fun e w' => e = .returned (rgtV false true true) ∧ Below w.heap.size w w' := by
  have h := and_any true true true 4 w
  have e : bitF 4 1 = false ∧ bitF 4 2 = true ∧ bitF 4 63 = false := by decide +kernel
  obtain ⟨e1, e2, e3⟩ := e
  unfold andV at h
  rw [e1, e2, e3] at h
  exact h

/-- the same cells, nothing else asked -/
theorem may_aw1 (w : World) : Calls Try.prog 11 #[rgtV false true true, accV 2 true false, ctlV false false false false] w fun e w' => e = .returned (.bool false) ∧ Kept w w' := may_any _ _ _ _ _ _ _ _ _ _ _
theorem may_aw2 (w : World) : Calls Try.prog 11 #[rgtV false true true, accV 2 false false, ctlV false false false false] w fun e w' => e = .returned (.bool true) ∧ Kept w w' := may_any _ _ _ _ _ _ _ _ _ _ _
theorem may_aw3 (w : World) : Calls Try.prog 11 #[rgtV false true true, accV 1 true false, ctlV false false false false] w fun e w' => e = .returned (.bool true) ∧ Kept w w' := may_any _ _ _ _ _ _ _ _ _ _ _
theorem code_aw (w : World) : Calls Try.prog 18 #[accV 2 true false, ctlV false false false false, .bool true, .bool false] w fun e w' => e = .returned (.int .i64 7) ∧ Kept w w' := code_any _ _ _ _ _ _ _ _ _ _

theorem awake6_any (w : World) :
    Calls Try.prog 9 #[] w fun e w' => e = .returned (.bool true) ∧ Below w.heap.size w w' := by
  go_enter Try.func9, Try.ntmps9
  go_wp2_with fail
  refine (all_any _).mono ?_
  rintro e w1 ⟨rfl, hb1⟩
  have K1 : Hid (Kept w w1) := hb1
  clear hb1
  go_wp2_with fail
  refine (and_aw _).mono ?_
  rintro e w2 ⟨rfl, hb2⟩
  have K2 : Hid (Kept w w2) := Kept.step hb2 K1.out
  clear hb2 K1
  go_wp2_with fail
  refine (may_aw1 _).mono ?_
  rintro e w3 ⟨rfl, hk3⟩
  have R3 : RgtAt w3 w2.heap.size false true true := rgt_keep (rgt_new _ _ _ _ _) (by simp) hk3
  have lt3 : w2.heap.size < w3.heap.size := by have := hk3.size; simp at this; omega
  have K3 : Hid (Kept w w3) := Kept.step hk3 (Kept.step (kept_alloc _ _) K2.out)
  clear hk3 K2
  obtain ⟨a0, a1, a2⟩ := R3
  go_wp2_with fail
  refine (may_aw2 _).mono ?_
  rintro e w4 ⟨rfl, hk4⟩
  have R4 : RgtAt w4 w2.heap.size false true true := rgt_keep ⟨a0, a1, a2⟩ lt3 hk4
  have K4 : Hid (Kept w w4) := Kept.step hk4 K3.out
  clear hk4 K3 a0 a1 a2
  obtain ⟨a0, a1, a2⟩ := R4
  go_wp2_with fail
  refine (may_aw3 _).mono ?_
  rintro e w5 ⟨rfl, hk5⟩
  have K5 : Hid (Kept w w5) := Kept.step hk5 K4.out
  clear hk5 K4 a0 a1 a2
  go_wp2_with fail
  refine (code_aw _).mono ?_
  rintro e w6 ⟨rfl, hk6⟩
  have K6 : Hid (Kept w w6) := Kept.step hk6 K5.out
  clear hk6 K5
  go_wp2
  go_ret
  exact ⟨rfl, K6.out⟩

theorem all_kept (W : World) : Calls Try.prog 17 #[] W fun e W' => e = .returned (rgtV true true true) ∧ Kept W W' := all_any W
/-- the n-th control, whatever it is -/
theorem ctl_some (k : Nat) (hk : k < 16) : ∃ b0 b1 b2 b3 : Bool, ∀ w, Calls Try.prog 10 #[.int .i64 k] w fun e w' => e = .returned (ctlV b0 b1 b2 b3) ∧ Kept w w' :=
  ⟨_, _, _, _, fun w => ctl_any k w hk⟩

theorem acc_and {w1 w2 : World} {g : Nat} {k : Int} {b c : Bool} (h : AccAt w1 g k b c) (hg : g < w1.heap.size) (hk : Kept w1 w2) :
    w2.cell? ⟨g, 0, none⟩ = some (.int .i64 k) ∧ w2.cell? ⟨g, 1, none⟩ = some (.bool b) ∧ w2.cell? ⟨g, 2, none⟩ = some (.bool c) ∧ Kept w1 w2 := by
  obtain ⟨h0, h1, h2⟩ := acc_keep h hg hk
  exact ⟨h0, h1, h2, hk⟩
theorem acc_step {w1 w2 w3 : World} {g : Nat} {k : Int} {b c : Bool} (h : AccAt w1 g k b c) (hg : g < w1.heap.size) (hk : Kept w2 w3)
    (hh : w2.cell? ⟨g, 0, none⟩ = some (.int .i64 k) ∧ w2.cell? ⟨g, 1, none⟩ = some (.bool b) ∧ w2.cell? ⟨g, 2, none⟩ = some (.bool c) ∧ Kept w1 w2) :
    w3.cell? ⟨g, 0, none⟩ = some (.int .i64 k) ∧ w3.cell? ⟨g, 1, none⟩ = some (.bool b) ∧ w3.cell? ⟨g, 2, none⟩ = some (.bool c) ∧ Kept w1 w3 :=
  acc_and h hg (Kept.step hk hh.2.2.2)
end Go.Proofs.Ytdkpahlkgdkloaa
