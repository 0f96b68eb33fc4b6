/- Several texts of ours in one: Ff, Fg, Fi. -/
import Derived.Test.YtopmmlcjlopmaaaGreatDoorGKpFbFh
import Derived.Test.YtopmmlcjlopmaaaGreatDoorGFcFdFe
import Derived.Lib.Hide
import Derived.Defers
import Derived.Recover
import Derived.Laws.Pointers
/- Layer 7: errors.as: the number to which an error leads is found. -/
namespace Go.Proofs.YtopmmlcjlopmaaaGreatDoor
set_option linter.unusedVariables false
set_option linter.unusedSimpArgs false
open Go.RowKit Go.Extern.Stop Go.Stop Go.Extern

set_option maxHeartbeats 1600000 in
/-- the number is found -/
theorem as_num (n : Nat) (t : TypeId) (x : Value) (e : Int) (a p : Addr) (old : Value) (w : World) (h : Leads w n t x e)
    (ha : w.cell? a = some (.pointer (some p))) (hp : w.cell? p = some old) (hf : w.frozen? p = false) (la : a.block < w.heap.size) (lp : p.block < w.heap.size) :
    Calls Tryz.prog 88 #[.iface t x, .iface 117 (.pointer (some p)), .agg #[.pointer (some ⟨2, 117, none⟩), .pointer (some a), .int .u64 150], .iface 178 (.agg #[.pointer (some ⟨2, 69, none⟩)])] w fun r w' => r = .returned (.bool true) ∧
      w' = ((w.alloc (.cells #[.pointer (some ⟨2, 117, none⟩), .pointer (some a), .int .u64 150] 146)).alloc (.cells #[.int .i64 e] 69)).setCell p (.int .i64 e) := by
  have k0 := xTypeOf
  have k1 := xAssignableTo
  have k2 := xElemV
  have k3 := xValueOf
  have k4 := xSet
  have k5 := typeOfP
  have k6 := typeOfW
  have k7 := typeOfN
  have k8 := assNN
  have k9 := assWN
  have k10 := assPN
  have k11 := noAsW
  have k12 := noAsP
  have k13 := unW
  have k14 := unP
  have k15 := mUnwrapW
  have k16 := mUnwrapP
  have k17 := mAssignableTo
  have k18 := valueOfN
  have el := elemVNN a p (w.alloc (.cells #[.pointer (some ⟨2, 117, none⟩), .pointer (some a), .int .u64 150] 146)) (by rw [World.cell?_alloc_lt _ _ a la]; exact ha)
  have st := setN p ⟨w.heap.size + 1, 0, none⟩ e old ((w.alloc (.cells #[.pointer (some ⟨2, 117, none⟩), .pointer (some a), .int .u64 150] 146)).alloc (.cells #[.int .i64 e] 69))
    (by rw [World.cell?_alloc_at _ _ _ _ (by simp)]; rfl)
    (by rw [World.cell?_alloc_lt _ _ p (by simp; omega), World.cell?_alloc_lt _ _ p lp]; exact hp)
    (by rw [frozen_alloc_old _ _ p (by simp; omega), frozen_alloc_old _ _ p lp]; exact hf)
  go_enter Tryz.func88, Tryz.ntmps88
  go_wp2
  go_loopg [0] n (fun k' v wr => ∃ t' x', v = .iface t' x' ∧ Leads w k' t' x' e ∧ wr = (w.alloc (.cells #[.pointer (some ⟨2, 117, none⟩), .pointer (some a), .int .u64 150] 146)))
  case atStart => exact ⟨t, x, rfl, h, rfl⟩
  case round =>
    obtain ⟨t', x', rfl, hl, rfl⟩ := hrel
    cases gk with
    | zero =>
      obtain ⟨rfl, rfl⟩ := hl
      go_wp2
      go_ret
      exact ⟨rfl, rfl⟩
    | succ gk =>
     rcases hl with ⟨rfl, g2, t2, x2, rfl, hc, hg, hl⟩ | ⟨rfl, g2, rfl, hl⟩
     · skip
       have HL := Lib.hid hl
       clear hl
       have hc2 : (w.alloc (.cells #[.pointer (some ⟨2, 117, none⟩), .pointer (some a), .int .u64 150] 146)).cell? ⟨g2, 1, none⟩ = some (.iface t2 x2) := by rw [World.cell?_alloc_lt _ _ ⟨g2, 1, none⟩ hg]; exact hc
       clear hc
       go_wp2_with (first | (go_at_call 167; refine (unwrapW _ _ _ _ hc2).mono ?_; rintro e w' ⟨rfl, rfl⟩))
       go_roundg gk
       case measure => omega
       case rel => exact ⟨t2, x2, rfl, HL.out, rfl⟩
     · have HL := Lib.hid hl
       clear hl
       go_wp2_with (first | (go_at_call 162; refine (unwrapP _ _).mono ?_; rintro e w' ⟨rfl, rfl⟩))
       go_roundg gk
       case measure => omega
       case rel => exact ⟨_, _, rfl, HL.out, rfl⟩
end Go.Proofs.YtopmmlcjlopmaaaGreatDoor
/- Layer 7: errors.as: in an error that ends in a text there is no number. -/
namespace Go.Proofs.YtopmmlcjlopmaaaGreatDoor
set_option linter.unusedVariables false
set_option linter.unusedSimpArgs false
open Go.RowKit Go.Extern.Stop Go.Stop Go.Extern

end Go.Proofs.YtopmmlcjlopmaaaGreatDoor
/- Layer 7: fault.Of and fault.Kind, by what errors.As and errors.Is answer. -/
namespace Go.Proofs.YtopmmlcjlopmaaaGreatDoor
set_option linter.unusedVariables false
set_option linter.unusedSimpArgs false
open Go.RowKit Go.Extern.Stop Go.Stop Go.Extern

theorem kind_idle (p : Addr) (w : World) :
    CallsD Tryz.prog 47 #[.pointer (some p)] .returning w fun e u' w' => e = .returned (.tuple #[]) ∧ u' = .returning ∧ w' = w := by
  refine callsD_of_wpS Tryz.func47 rfl fun c₀ cs hu => ?_
  apply wpS_seq
  apply wpS_region
  simp [wpOpsS, go_sem, recoverD, hu, Tryz.ntmps47, Exit.thenS]
  refine wpS_cond (t := false) (by simp [Act.eval, Array.replicate]) ?_
  simp only [Bool.false_eq_true, if_false]
  refine wpS_of_wp (wp_skip ?_)
  cases c₀
  simp_all [bodyPostS, results, Tryz.results47]

theorem of_idle (p q : Addr) (w : World) :
    CallsD Tryz.prog 41 #[.pointer (some p), .pointer (some q)] .returning w fun e u' w' => e = .returned (.tuple #[]) ∧ u' = .returning ∧ w' = w := by
  refine callsD_of_wpS Tryz.func41 rfl fun c₀ cs hu => ?_
  apply wpS_seq
  apply wpS_region
  simp [wpOpsS, go_sem, recoverD, hu, Tryz.ntmps41, Exit.thenS]
  refine wpS_cond (t := false) (by simp [Act.eval, Array.replicate]) ?_
  simp only [Bool.false_eq_true, if_false]
  refine wpS_of_wp (wp_skip ?_)
  cases c₀
  simp_all [bodyPostS, results, Tryz.results41]

/-- behind it the variable at p holds v; else nothing that was there has turned -/
def Put (w : World) (p : Addr) (v : Value) (w' : World) : Prop := ∃ u, Kept w u ∧ w' = u.setCell p v

theorem kept2 (w : World) (a b : Obj) : Kept w ((w.alloc a).alloc b) := Kept.step (kept_allocF _ _) (kept_allocF _ _)
theorem kept3 (w : World) (a b c : Obj) : Kept w (((w.alloc a).alloc b).alloc c) := Kept.step (kept_allocF _ _) (kept2 _ _ _)
theorem kept4 (w : World) (a b c d : Obj) : Kept w ((((w.alloc a).alloc b).alloc c).alloc d) := Kept.step (kept_allocF _ _) (kept3 _ _ _ _)
theorem kept_frozen {w w' : World} (h : Kept w w') {p : Addr} (hp : p.block < w.heap.size) : w'.frozen? p = w.frozen? p := Below.frozen h hp
theorem lt_of_cell {w : World} {p : Addr} {v : Value} (h : w.cell? p = some v) : p.block < w.heap.size := by
  rcases Nat.lt_or_ge p.block w.heap.size with h0 | h0
  · exact h0
  · simp [World.cell?, Array.getElem?_eq_none h0] at h

theorem kept_cell {w w' : World} (h : Kept w w') {p : Addr} {v : Value} (hc : w.cell? p = some v) : w'.cell? p = some v := h.cell hc (lt_of_cell hc)
theorem put_same {w u : World} {p : Addr} {v old : Value} (hk : Kept w u) (hp : w.cell? p = some old) : (u.setCell p v).cell? p = some v :=
  World.cell?_setCell_same' u p v (by rw [kept_cell hk hp]; rfl)
theorem put_far {w u : World} {p q : Addr} {v x : Value} (hk : Kept w u) (hq : w.cell? q = some x) (hne : p.block ≠ q.block) : (u.setCell p v).cell? q = some x :=
  (World.cell?_of_block (w := u) (Below.heap_setCell u p v q.block (fun e => hne e.symm))).trans (kept_cell hk hq)
theorem put_frozen {w u : World} {p q : Addr} {v : Value} (hk : Kept w u) (hq : q.block < w.heap.size) (hf : w.frozen? q = false) : (u.setCell p v).frozen? q = false := by
  rw [World.frozen?_setCell, kept_frozen hk hq]; exact hf

theorem As_page (n : Nat) (t : TypeId) (x : Value) (g : Nat) (p : Addr) (old : Value) (w : World) (hg : ErrT w) (h : Wraps w n t x 111 (.pointer (some ⟨g, 0, none⟩))) (hp : w.cell? p = some old) (hf : w.frozen? p = false) :
    Calls Tryz.prog 42 #[.iface t x, .iface 113 (.pointer (some p))] w fun r w' => ∃ b, r = .returned (.bool b) ∧ (b = true ∧ Put w p (.pointer (some ⟨g, 0, none⟩)) w') := by
  have lp := lt_of_cell hp
  refine As_pp t x p w (fun b w' => b = true ∧ Put w p (.pointer (some ⟨g, 0, none⟩)) w') hg ((as_page n t x g ⟨w.heap.size, 0, none⟩ p old _ (wraps_keep (kept2 _ _ _) h) ?_ ?_ ?_ ?_ ?_).mono ?_)
  · rw [World.cell?_alloc_lt _ _ ⟨w.heap.size, 0, none⟩ (by simp)]; simp
  · exact (kept2 _ _ _).cell hp lp
  · rw [kept_frozen (kept2 _ _ _) lp]; exact hf
  · simp; omega
  · simp; omega
  · rintro r w' ⟨rfl, rfl⟩
    exact ⟨true, rfl, rfl, _, kept4 _ _ _ _ _, rfl⟩

theorem As_nopage (n : Nat) (t : TypeId) (x : Value) (e : Int) (p : Addr) (w : World) (hg : ErrT w) (h : Wraps w n t x 69 (.int .i64 e)) :
    Calls Tryz.prog 42 #[.iface t x, .iface 113 (.pointer (some p))] w fun r w' => ∃ b, r = .returned (.bool b) ∧ (b = false ∧ Kept w w') := by
  refine As_pp t x p w (fun b w' => b = false ∧ Kept w w') hg ((as_nopage n t x e ⟨w.heap.size, 0, none⟩ p _ (wraps_keep (kept2 _ _ _) h)).mono ?_)
  rintro r w' ⟨rfl, rfl⟩
  exact ⟨false, rfl, rfl, kept3 _ _ _ _⟩

theorem As_num (n : Nat) (t : TypeId) (x : Value) (e : Int) (p : Addr) (old : Value) (w : World) (hg : ErrT w) (h : Leads w n t x e) (hp : w.cell? p = some old) (hf : w.frozen? p = false) :
    Calls Tryz.prog 42 #[.iface t x, .iface 117 (.pointer (some p))] w fun r w' => ∃ b, r = .returned (.bool b) ∧ (b = true ∧ Put w p (.int .i64 e) w') := by
  have lp := lt_of_cell hp
  refine As_nn t x p w (fun b w' => b = true ∧ Put w p (.int .i64 e) w') hg ((as_num n t x e ⟨w.heap.size, 0, none⟩ p old _ (leads_keep (kept2 _ _ _) h) ?_ ?_ ?_ ?_ ?_).mono ?_)
  · rw [World.cell?_alloc_lt _ _ ⟨w.heap.size, 0, none⟩ (by simp)]; simp
  · exact (kept2 _ _ _).cell hp lp
  · rw [kept_frozen (kept2 _ _ _) lp]; exact hf
  · simp; omega
  · simp; omega
  · rintro r w' ⟨rfl, rfl⟩
    exact ⟨true, rfl, rfl, _, kept4 _ _ _ _ _, rfl⟩

end Go.Proofs.YtopmmlcjlopmaaaGreatDoor
