/- The walk of EntrySlots; what EntryFrames asks of frames. -/
import Derived.Test.YthcihailddcpdaaDoorL5
namespace Go.Proofs.YthcihailddcpdaaDoor
set_option linter.unusedVariables false
set_option linter.unusedSimpArgs false
open Go.ChangeShapes Go.WideShapes Go.ChangeAt Go.RowKit Go.Joins

theorem frame_one (x : Int) : frameF x 1 = tableF x := by
  rw [frame_leaf (leaf_one x)]
  have h := table_mod x
  unfold pageF; rw [low1]; omega
theorem frame_two {x : Int} (h : leafF x 2 = true) : 0 ≤ frameF x 2 ∧ frameF x 2 % 2097152 = 0 ∧ frameF x 2 ≤ tableF x ∧ tableF x - frameF x 2 < 2097152 := by
  have hb := table_bd x
  rw [frame_leaf h]; unfold pageF; rw [low2]; omega
theorem frame_three {x : Int} (h : leafF x 3 = true) : 0 ≤ frameF x 3 ∧ frameF x 3 % 1073741824 = 0 ∧ frameF x 3 ≤ tableF x ∧ tableF x - frameF x 3 < 1073741824 := by
  have hb := table_bd x
  rw [frame_leaf h]; unfold pageF; rw [low3]; omega
theorem free_two {x : Int} (hx : W64 x) (h : leafF x 2 = true) (hr : resF x 2 52 true = false) : frameF x 2 = tableF x ∨ frameF x 2 + 4096 = tableF x := by
  have h7 : bitF x 7 = true := by rw [← leaf_two]; exact h
  have hh : hasF x (maskF 13 8) = false := by
    unfold resF at hr
    rw [h7] at hr
    simp at hr
    exact hr.2
  have hg : x / 8192 % 256 = 0 := has_get (lo := 13) (n := 8) hx (by decide) hh
  obtain ⟨x0, x1⟩ := hx
  rw [frame_leaf h]; unfold pageF; rw [low2]
  unfold tableF
  omega
theorem free_three {x : Int} (hx : W64 x) (h : leafF x 3 = true) (hr : resF x 3 52 true = false) : frameF x 3 = tableF x ∨ frameF x 3 + 4096 = tableF x := by
  have h7 : bitF x 7 = true := by rw [← leaf_three]; exact h
  have hh : hasF x (maskF 13 17) = false := by
    unfold resF at hr
    rw [h7] at hr
    simp at hr
    exact hr.2
  have hg : x / 8192 % 131072 = 0 := has_get (lo := 13) (n := 17) hx (by decide) hh
  obtain ⟨x0, x1⟩ := hx
  rw [frame_leaf h]; unfold pageF; rw [low3]
  unfold tableF
  omega

theorem slot_facts (t a b l : Int) : slotF t a l % 8 = 0 ∧ tableF t ≤ slotF t a l ∧ slotF t a l < tableF t + 4096 ∧ (slotF t a l == slotF t b l) = (indexF a l == indexF b l) ∧ decide (slotF t a l < slotF t b l) = decide (indexF a l < indexF b l) := by
  have h1 := table_mod t
  have h2 := index_bd0 a l
  have h3 := index_bd0 b l
  unfold slotF
  refine ⟨by omega, by omega, by omega, ?_, ?_⟩
  · rw [Bool.eq_iff_iff, beq_iff_eq, beq_iff_eq]; omega
  · rw [Bool.eq_iff_iff, decide_eq_true_iff, decide_eq_true_iff]; omega

set_option maxRecDepth 100000 in
set_option maxHeartbeats 1000000 in
theorem entrySlots_walk (t a b l : Int) (w : World) (hs : Shifts w) (hz : 0 < w.heap.size) (ht : W64 t) (ha : W64 a) (hb : W64 b) (l0 : 0 ≤ l) (l1 : l ≤ 255) :
    Calls Tryd.prog 7 #[.int .u64 t, .agg #[.int .u64 a, .int .u64 b], .int .u8 l] w fun e w' => e = .returned (.bool true) ∧ Below w.heap.size w w' := by
  obtain ⟨q1, q2, q3, q4, q5⟩ := slot_facts t a b (1 + l % 4)
  obtain ⟨t0, t1⟩ := table_bd t
  obtain ⟨p0, p1⟩ := slot_bd t a (1 + l % 4)
  go_enter Tryd.func7, Tryd.ntmps7
  go_wp2_with fail
  have hs1 := shifts_alloc hs hz (.cells #[.int .u64 a, .int .u64 b] 43)
  refine (awake5_any _ hs1 (by simp)).mono ?_
  rintro e w1 ⟨rfl, hb1⟩
  have c0 : w1.cell? ⟨w.heap.size, 0, none⟩ = some (.int .u64 a) := by rw [hb1.cell (by simp)]; simp
  have c1 : w1.cell? ⟨w.heap.size, 1, none⟩ = some (.int .u64 b) := by rw [hb1.cell (by simp)]; simp
  have B : Hid (Below w.heap.size w w1) := (below_alloc1 _ _).trans (hb1.mono (by simp))
  have hs2 := shifts_below hs hz B.out
  clear hb1 hs1
  go_wp2_with (first | (go_at_call 22; refine (slot_any _ _ _ _ hs2 ht (by first | exact ha | exact hb)).mono ?_; rintro e w' ⟨rfl, rfl⟩) | (go_at_call 16; refine (table_any _ _ ht).mono ?_; rintro e w' ⟨rfl, rfl⟩) | (go_at_call 25; refine (index_any _ _ _ hs2 (by first | exact ha | exact hb)).mono ?_; rintro e w' ⟨rfl, rfl⟩))
  go_ret
  exact ⟨rfl, B.out⟩

end Go.Proofs.YthcihailddcpdaaDoor
