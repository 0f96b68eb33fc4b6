/- The walk of WordCuts. -/
import Derived.Test.YtkenanohdbgoiaaWr
import Derived.Test.YtkenanohdbgoiaaBm
import Derived.Test.YtkenanohdbgoiaaN
import Derived.Test.YtkenanohdbgoiaaFr
import Derived.Deep.RegionHeld3
import Derived.Deep.DrawnRows
namespace Go.Proofs.Ytkenanohdbgoiaa
set_option linter.unusedVariables false
set_option linter.unusedSimpArgs false
open Go.ChangeShapes Go.WideShapes Go.ChangeAt Go.RowKit Go.Joins
attribute [local go_sem ↓] Go.wp_at_zero Go.wp_at_succ

/-- nothing that was there has turned -/
def Kept (w w' : World) : Prop := Below w.heap.size w w'

theorem Kept.drew0 (w : World) : Kept w w.drew := (Below.refl _ _).drew
theorem calls_kept {P : Program} {f : FuncId} {args : Array Value} {w : World} {v : Value} (h : Calls P f args w fun e w' => e = .returned v ∧ Below w.heap.size w w') : Calls P f args w fun e w' => e = .returned v ∧ Kept w w' := h
theorem Kept.step {w w' w2 : World} (hb : Kept w' w2) (h : Kept w w') : Kept w w2 := Below.trans h (Below.mono hb h.size)
theorem Kept.cell {w w' : World} (h : Kept w w') {p : Addr} {v : Value} (hc : w.cell? p = some v) (hp : p.block < w.heap.size) : w'.cell? p = some v := (Below.cell h hp).trans hc

theorem keep2 {w1 w' : World} {a b : Addr} {u v : Value} (h : Kept w1 w') (ha : w1.cell? a = some u) (hb : w1.cell? b = some v) (pa : a.block < w1.heap.size) (pb : b.block < w1.heap.size) :
    w'.cell? a = some u ∧ w'.cell? b = some v ∧ Kept w1 w' := ⟨h.cell ha pa, h.cell hb pb, h⟩

theorem keep3 {w1 w' w2 : World} {a b : Addr} {u v : Value} (hb : Kept w' w2) (h : w'.cell? a = some u ∧ w'.cell? b = some v ∧ Kept w1 w') (ha : w1.cell? a = some u) (hc : w1.cell? b = some v) (pa : a.block < w1.heap.size) (pb : b.block < w1.heap.size) :
    w2.cell? a = some u ∧ w2.cell? b = some v ∧ Kept w1 w2 := keep2 (Kept.step hb h.2.2) ha hc pa pb

set_option maxRecDepth 100000 in
set_option maxHeartbeats 1600000 in
theorem wordCuts_walk (x v f n : Int) (w : World) (hx : W64 x) (hv : W64 v) (hn : I64 n) :
    Calls Try.prog 4 #[.int .u64 x, .int .u64 v, .agg #[.int .i64 f, .int .i64 n]] w fun e w' => e = .returned (.bool true) ∧ Below w.heap.size w w' := by
  go_enter Try.func4, Try.ntmps4
  go_wp2_with fail
  refine (awake2_any _).mono ?_
  rintro e w1 ⟨rfl, hb⟩
  have c0 : w1.cell? ⟨w.heap.size, 0, none⟩ = some (.int .i64 f) := by rw [hb.cell (by simp)]; simp
  have c1 : w1.cell? ⟨w.heap.size, 1, none⟩ = some (.int .i64 n) := by rw [hb.cell (by simp)]; simp
  have B : Hid (Below w.heap.size w w1) := (below_alloc1 _ _).trans (hb.mono (by simp))
  have hlt : w.heap.size < w1.heap.size := by have := hb.size; simp at this; omega
  clear hb
  go_wp2
  go_region_held3 (fun w' => w'.cell? ⟨w.heap.size, 0, none⟩ = some (.int .i64 f) ∧ w'.cell? ⟨w.heap.size, 1, none⟩ = some (.int .i64 n) ∧ Kept w1 w')
    (first | assumption | exact keep2 (Kept.drew0 _) c0 c1 hlt hlt | exact keep3 (by assumption) (by assumption) c0 c1 hlt hlt)
    (first | (go_at_call 18; refine (cut_any _ _ _ _ hn).mono ?_; rintro e w' ⟨rfl, rfl⟩) | (go_at_call 20; refine (lay_any _ _ _ _ _ hn).mono ?_; rintro e w' ⟨rfl, rfl⟩) | (go_at_call 19; refine (calls_kept (rcut_any _ _ _ _ hx hn)).mono ?_; rintro e w2 ⟨rfl, hb2⟩) | (go_at_call 21; refine (calls_kept (rlay_any _ _ _ _ _ hx hv hn)).mono ?_; rintro e w2 ⟨rfl, hb2⟩))
  all_goals go_wp2
  all_goals go_ret
  all_goals (rename_i hH; exact ⟨rfl, B.out.trans (Below.mono hH.2.2 (Nat.le_of_lt hlt))⟩)
end Go.Proofs.Ytkenanohdbgoiaa
