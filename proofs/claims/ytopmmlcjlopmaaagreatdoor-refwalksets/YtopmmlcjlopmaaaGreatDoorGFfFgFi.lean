/- Several texts of ours in one: Ff, Fg, Fi. -/
import Derived.Test.YtopmmlcjlopmaaaGreatDoorGKpFbFh
import Derived.Test.YtopmmlcjlopmaaaGreatDoorGFcFdFe
import Derived.Lib.Hide
import Derived.Defers
import Derived.Recover
import Derived.Laws.Pointers
/- Layer 7: errors.as: the number to which an error leads is found. -/
namespace Go.Proofs.YtopmmlcjlopmaaaGreatDoor
set_option linter.unusedVariables false
set_option linter.unusedSimpArgs false
open Go.RowKit Go.Extern.Stop Go.Stop Go.Extern

end Go.Proofs.YtopmmlcjlopmaaaGreatDoor
/- Layer 7: errors.as: in an error that ends in a text there is no number. -/
namespace Go.Proofs.YtopmmlcjlopmaaaGreatDoor
set_option linter.unusedVariables false
set_option linter.unusedSimpArgs false
open Go.RowKit Go.Extern.Stop Go.Stop Go.Extern

end Go.Proofs.YtopmmlcjlopmaaaGreatDoor
/- Layer 7: fault.Of and fault.Kind, by what errors.As and errors.Is answer. -/
namespace Go.Proofs.YtopmmlcjlopmaaaGreatDoor
set_option linter.unusedVariables false
set_option linter.unusedSimpArgs false
open Go.RowKit Go.Extern.Stop Go.Stop Go.Extern

theorem of_idle (p q : Addr) (w : World) :
    CallsD Tryz.prog 41 #[.pointer (some p), .pointer (some q)] .returning w fun e u' w' => e = .returned (.tuple #[]) ∧ u' = .returning ∧ w' = w := by
  refine callsD_of_wpS Tryz.func41 rfl fun c₀ cs hu => ?_
  apply wpS_seq
  apply wpS_region
  simp [wpOpsS, go_sem, recoverD, hu, Tryz.ntmps41, Exit.thenS]
  refine wpS_cond (t := false) (by simp [Act.eval, Array.replicate]) ?_
  simp only [Bool.false_eq_true, if_false]
  refine wpS_of_wp (wp_skip ?_)
  cases c₀
  simp_all [bodyPostS, results, Tryz.results41]

/-- behind it the variable at p holds v; else nothing that was there has turned -/
def Put (w : World) (p : Addr) (v : Value) (w' : World) : Prop := ∃ u, Kept w u ∧ w' = u.setCell p v

theorem kept2 (w : World) (a b : Obj) : Kept w ((w.alloc a).alloc b) := Kept.step (kept_allocF _ _) (kept_allocF _ _)
theorem kept3 (w : World) (a b c : Obj) : Kept w (((w.alloc a).alloc b).alloc c) := Kept.step (kept_allocF _ _) (kept2 _ _ _)
theorem kept4 (w : World) (a b c d : Obj) : Kept w ((((w.alloc a).alloc b).alloc c).alloc d) := Kept.step (kept_allocF _ _) (kept3 _ _ _ _)
theorem kept_frozen {w w' : World} (h : Kept w w') {p : Addr} (hp : p.block < w.heap.size) : w'.frozen? p = w.frozen? p := Below.frozen h hp
theorem lt_of_cell {w : World} {p : Addr} {v : Value} (h : w.cell? p = some v) : p.block < w.heap.size := by
  rcases Nat.lt_or_ge p.block w.heap.size with h0 | h0
  · exact h0
  · simp [World.cell?, Array.getElem?_eq_none h0] at h

theorem kept_cell {w w' : World} (h : Kept w w') {p : Addr} {v : Value} (hc : w.cell? p = some v) : w'.cell? p = some v := h.cell hc (lt_of_cell hc)
theorem put_same {w u : World} {p : Addr} {v old : Value} (hk : Kept w u) (hp : w.cell? p = some old) : (u.setCell p v).cell? p = some v :=
  World.cell?_setCell_same' u p v (by rw [kept_cell hk hp]; rfl)
theorem put_far {w u : World} {p q : Addr} {v x : Value} (hk : Kept w u) (hq : w.cell? q = some x) (hne : p.block ≠ q.block) : (u.setCell p v).cell? q = some x :=
  (World.cell?_of_block (w := u) (Below.heap_setCell u p v q.block (fun e => hne e.symm))).trans (kept_cell hk hq)
theorem put_frozen {w u : World} {p q : Addr} {v : Value} (hk : Kept w u) (hq : q.block < w.heap.size) (hf : w.frozen? q = false) : (u.setCell p v).frozen? q = false := by
  rw [World.frozen?_setCell, kept_frozen hk hq]; exact hf

theorem As_page (n : Nat) (t : TypeId) (x : Value) (g : Nat) (p : Addr) (old : Value) (w : World) (hg : ErrT w) (h : Wraps w n t x 111 (.pointer (some ⟨g, 0, none⟩))) (hp : w.cell? p = some old) (hf : w.frozen? p = false) :
    Calls Tryz.prog 42 #[.iface t x, .iface 113 (.pointer (some p))] w fun r w' => ∃ b, r = .returned (.bool b) ∧ (b = true ∧ Put w p (.pointer (some ⟨g, 0, none⟩)) w') := by
  have lp := lt_of_cell hp
  refine As_pp t x p w (fun b w' => b = true ∧ Put w p (.pointer (some ⟨g, 0, none⟩)) w') hg ((as_page n t x g ⟨w.heap.size, 0, none⟩ p old _ (wraps_keep (kept2 _ _ _) h) ?_ ?_ ?_ ?_ ?_).mono ?_)
  · rw [World.cell?_alloc_lt _ _ ⟨w.heap.size, 0, none⟩ (by simp)]; simp
  · exact (kept2 _ _ _).cell hp lp
  · rw [kept_frozen (kept2 _ _ _) lp]; exact hf
  · simp; omega
  · simp; omega
  · rintro r w' ⟨rfl, rfl⟩
    exact ⟨true, rfl, rfl, _, kept4 _ _ _ _ _, rfl⟩

end Go.Proofs.YtopmmlcjlopmaaaGreatDoor
