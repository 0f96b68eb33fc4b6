/- The walk of VaJoins. -/
import Derived.Test.YtdmaamhjcoaigaaDoorL3
import Derived.Test.YtdmaamhjcoaigaaDoorVj
import Derived.Test.YtdmaamhjcoaigaaDoorKp
import Derived.Deep.RegionHeld3
import Derived.Deep.DrawnRows
namespace Go.Proofs.YtdmaamhjcoaigaaDoor
set_option linter.unusedVariables false
set_option linter.unusedSimpArgs false
open Go.ChangeShapes Go.WideShapes Go.ChangeAt Go.RowKit Go.Joins
attribute [local go_sem ↓] Go.wp_at_zero Go.wp_at_succ

/-- four cells of a block -/
def Four (w : World) (g : Nat) (p q r s : Int) : Prop :=
  w.cell? ⟨g, 0, none⟩ = some (.int .i64 p) ∧ w.cell? ⟨g, 1, none⟩ = some (.int .i64 q) ∧ w.cell? ⟨g, 2, none⟩ = some (.int .i64 r) ∧ w.cell? ⟨g, 3, none⟩ = some (.int .i64 s)

theorem keepA {w1 w' : World} {g : Nat} {p q r s : Int} (h : Kept w1 w') (hf : Four w1 g p q r s) (hg : g < w1.heap.size) :
    w'.cell? ⟨g, 0, none⟩ = some (.int .i64 p) ∧ w'.cell? ⟨g, 1, none⟩ = some (.int .i64 q) ∧ w'.cell? ⟨g, 2, none⟩ = some (.int .i64 r) ∧ w'.cell? ⟨g, 3, none⟩ = some (.int .i64 s) ∧ Kept w1 w' :=
  ⟨h.cell hf.1 hg, h.cell hf.2.1 hg, h.cell hf.2.2.1 hg, h.cell hf.2.2.2 hg, h⟩

theorem keepB {w1 w' w2 : World} {g : Nat} {p q r s : Int} (hb : Kept w' w2)
    (h : w'.cell? ⟨g, 0, none⟩ = some (.int .i64 p) ∧ w'.cell? ⟨g, 1, none⟩ = some (.int .i64 q) ∧ w'.cell? ⟨g, 2, none⟩ = some (.int .i64 r) ∧ w'.cell? ⟨g, 3, none⟩ = some (.int .i64 s) ∧ Kept w1 w')
    (hf : Four w1 g p q r s) (hg : g < w1.heap.size) :
    w2.cell? ⟨g, 0, none⟩ = some (.int .i64 p) ∧ w2.cell? ⟨g, 1, none⟩ = some (.int .i64 q) ∧ w2.cell? ⟨g, 2, none⟩ = some (.int .i64 r) ∧ w2.cell? ⟨g, 3, none⟩ = some (.int .i64 s) ∧ Kept w1 w2 :=
  keepA (Kept.step hb h.2.2.2.2) hf hg

set_option maxRecDepth 100000 in
set_option maxHeartbeats 1600000 in
theorem vaJoins_walk (p q r s low : Int) (w : World) (hs : Shifts w) (hz : 0 < w.heap.size) (h0 : 0 ≤ low) :
    Calls Tryd.prog 4 #[.agg #[.int .i64 p, .int .i64 q, .int .i64 r, .int .i64 s], .int .u64 low] w fun e w' => e = .returned (.bool true) ∧ Below w.heap.size w w' := by
  go_enter Tryd.func4, Tryd.ntmps4
  go_wp2_with fail
  have hs1 := shifts_alloc hs hz (.cells #[.int .i64 p, .int .i64 q, .int .i64 r, .int .i64 s] 32)
  obtain ⟨w1, hw1⟩ : ∃ w1, w.alloc (.cells #[.int .i64 p, .int .i64 q, .int .i64 r, .int .i64 s] 32) = w1 := ⟨_, rfl⟩
  have hf : Four w1 w.heap.size p q r s := by subst hw1; refine ⟨?_, ?_, ?_, ?_⟩ <;> simp
  have B : Hid (Below w.heap.size w w1) := by subst hw1; exact below_alloc1 _ _
  have hlt : w.heap.size < w1.heap.size := by subst hw1; simp
  rw [hw1] at hs1 ⊢
  clear hw1
  refine (awake3_any _ hs1).mono ?_
  rintro e w' ⟨rfl, rfl⟩
  have hz1 : 0 < w1.heap.size := by omega
  go_wp2
  go_region_held3 (fun w' => w'.cell? ⟨w.heap.size, 0, none⟩ = some (.int .i64 p) ∧ w'.cell? ⟨w.heap.size, 1, none⟩ = some (.int .i64 q) ∧ w'.cell? ⟨w.heap.size, 2, none⟩ = some (.int .i64 r) ∧ w'.cell? ⟨w.heap.size, 3, none⟩ = some (.int .i64 s) ∧ Kept w1 w')
    (first | assumption | exact keepA (Kept.drew0 _) hf hlt | exact keepB (by assumption) (by assumption) hf hlt)
    (first | (go_at_call 24; refine (calls_kept (join_any _ _ _ _ _ _ (by assumption) (by assumption) h0)).mono ?_; rintro e w2 ⟨rfl, hb2⟩) | (go_at_call 25; refine (calls_kept (rjoin_any _ _ _ _ _ _ h0)).mono ?_; rintro e w2 ⟨rfl, hb2⟩))
  all_goals go_wp2
  all_goals go_ret
  all_goals (rename_i hH; exact ⟨rfl, B.out.trans (Below.mono hH.2.2.2.2 (Nat.le_of_lt hlt))⟩)
end Go.Proofs.YtdmaamhjcoaigaaDoor
