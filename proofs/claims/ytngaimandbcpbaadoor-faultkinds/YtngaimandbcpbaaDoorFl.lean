/- Layer 7: errors.Join of two errors. -/
import Derived.Test.YtngaimandbcpbaaDoorL7
import Derived.Handy
import Derived.ArgAppend
import Derived.OwnWalk
namespace Go.Proofs.YtngaimandbcpbaaDoor
set_option linter.unusedVariables false
set_option linter.unusedSimpArgs false
open Go.RowKit Go.Extern.Stop Go.Stop Go.Extern

/-- the errors of a join, as far as they are laid: block j holds the slice of n, block b its two cells -/
def JoinAt (w W : World) (B j b n : Nat) (v0 v1 c0 c1 : Value) : Prop :=
  (W.cell? ⟨B, 0, none⟩ = some v0 ∧ W.cell? ⟨B, 1, none⟩ = some v1 ∧ W.cell? ⟨j, 0, none⟩ = some (.slice (some ⟨b, 0, none⟩) n 2) ∧ W.frozen? ⟨j, 0, none⟩ = false ∧
  W.cell? ⟨b, 0, none⟩ = some c0 ∧ W.cell? ⟨b, 1, none⟩ = some c1 ∧ W.frozen? ⟨b, 0, none⟩ = false ∧ W.frozen? ⟨b, 1, none⟩ = false) ∧ Kept w W ∧ B < w.heap.size ∧ w.heap.size ≤ b ∧ b < j ∧ j < W.heap.size

theorem cell_far {w : World} {p q : Addr} {v x : Value} (hq : w.cell? q = some x) (hne : p.block ≠ q.block) : (w.setCell p v).cell? q = some x :=
  (World.cell?_of_block (w := w) (Below.heap_setCell w p v q.block (fun e => hne e.symm))).trans hq

theorem join_step0 {w W : World} {B j b : Nat} {v0 v1 c0 c1 : Value} (o : Obj) (h : JoinAt w W B j b 0 v0 v1 c0 c1) :
    JoinAt w (((W.alloc o).setCell ⟨b, 0, none⟩ v0).setCell ⟨j, 0, none⟩ (.slice (some ⟨b, 0, none⟩) 1 2)) B j b 1 v0 v1 v0 c1 := by
  obtain ⟨⟨h1, h2, h3, h4, h5, h6, h7, h8⟩, hk, hB, hb, hbj, hj⟩ := h
  have ka := kept_alloc W o
  refine ⟨⟨cell_far (cell_far (kept_cell ka h1) (by simp; omega)) (by simp; omega), cell_far (cell_far (kept_cell ka h2) (by simp; omega)) (by simp; omega),
    put_same (w := (W.alloc o).setCell ⟨b, 0, none⟩ v0) (Below.refl _ _) (cell_far (kept_cell ka h3) (by simp; omega)), ?_,
    cell_far (put_same ka h5) (by simp; omega), cell_far ((World.cell?_setCell_other _ _ _ _ (by simp)).trans (kept_cell ka h6)) (by simp; omega), ?_, ?_⟩, ?_, hB, hb, hbj, ?_⟩
  · rw [World.frozen?_setCell, World.frozen?_setCell, frozen_alloc_old _ _ _ hj]; exact h4
  · rw [World.frozen?_setCell, World.frozen?_setCell, frozen_alloc_old _ _ _ (by simp; omega)]; exact h7
  · rw [World.frozen?_setCell, World.frozen?_setCell, frozen_alloc_old _ _ _ (by simp; omega)]; exact h8
  · exact kept_set (kept_set (Kept.step ka hk) hb _) (by simp; omega) _
  · simp; omega

theorem join_step1 {w W : World} {B j b : Nat} {v0 v1 c0 c1 : Value} (o : Obj) (h : JoinAt w W B j b 1 v0 v1 c0 c1) :
    JoinAt w (((W.alloc o).setCell ⟨b, 1, none⟩ v1).setCell ⟨j, 0, none⟩ (.slice (some ⟨b, 0, none⟩) 2 2)) B j b 2 v0 v1 c0 v1 := by
  obtain ⟨⟨h1, h2, h3, h4, h5, h6, h7, h8⟩, hk, hB, hb, hbj, hj⟩ := h
  have ka := kept_alloc W o
  refine ⟨⟨cell_far (cell_far (kept_cell ka h1) (by simp; omega)) (by simp; omega), cell_far (cell_far (kept_cell ka h2) (by simp; omega)) (by simp; omega),
    put_same (w := (W.alloc o).setCell ⟨b, 1, none⟩ v1) (Below.refl _ _) (cell_far (kept_cell ka h3) (by simp; omega)), ?_,
    cell_far ((World.cell?_setCell_other _ _ _ _ (by simp)).trans (kept_cell ka h5)) (by simp; omega), cell_far (put_same ka h6) (by simp; omega), ?_, ?_⟩, ?_, hB, hb, hbj, ?_⟩
  · rw [World.frozen?_setCell, World.frozen?_setCell, frozen_alloc_old _ _ _ hj]; exact h4
  · rw [World.frozen?_setCell, World.frozen?_setCell, frozen_alloc_old _ _ _ (by simp; omega)]; exact h7
  · rw [World.frozen?_setCell, World.frozen?_setCell, frozen_alloc_old _ _ _ (by simp; omega)]; exact h8
  · exact kept_set (kept_set (Kept.step ka hk) hb _) (by simp; omega) _
  · simp; omega

theorem infoE : ∃ i, Tryd.prog.info? 25 = some i ∧ i.size = 1 := by
  have h : (Tryd.prog.info? 25).map (·.size) = some 1 := by kernel_rfl
  obtain ⟨i, hi, hs⟩ := Option.map_eq_some_iff.1 h
  exact ⟨i, hi, hs⟩

theorem appE (W : World) (b k : Nat) (t : TypeId) (x c : Value) (ty : TypeId) (hk : k < 2) (hb : b < W.heap.size) (hc : W.cell? ⟨b, k, none⟩ = some c) (hf : W.frozen? ⟨b, k, none⟩ = false) :
    (Builtin.append_ #[64, 64] ty #[.slice (some ⟨b, 0, none⟩) k 2, .slice (some ⟨W.heap.size, 0, none⟩) 1 1]).run Tryd.prog (W.alloc (.cells #[.iface t x] 25)) = .ok (.slice (some ⟨b, 0, none⟩) (k + 1) 2) ((W.alloc (.cells #[.iface t x] 25)).setCell ⟨b, k, none⟩ (.iface t x)) := by
  obtain ⟨i, hi, hs⟩ := infoE
  have h := run_append_room_cells (P := Tryd.prog) (W.alloc (.cells #[.iface t x] 25)) 64 ty 25 i Tryd.underlying64 hi b 0 k 2 ⟨W.heap.size, 0, none⟩ 1 1 [.iface t x] (by simp [hs])
    (by intro j u hu; match j, hu with | 0, hu => simp at hu; subst hu; simp [Addr.add]) (by simp [Value.oneCell']) (by omega)
    (by intro j hj; have : j = 0 := by simpa using hj
        subst this
        simp only [hs, Nat.mul_one, Nat.zero_add, Nat.add_zero]
        rw [kept_cell (kept_alloc W _) hc]; rfl)
    (by intro j hj; have : j = 0 := by simpa using hj
        subst this
        simp only [hs, Nat.mul_one, Nat.zero_add, Nat.add_zero]
        rw [frozen_alloc_old _ _ _ hb]; exact hf)
  rw [hs] at h
  simpa [World.setCells] using h

theorem wpList_append_eq {P : Program} {ops : Array Oper} {rest : List Oper} {o : Oper} {a : Act} {Q : Exit → Act → World → Prop} {w : World} (hgd : o.guard = none) (sl x : Operand) (t u : TypeId)
    (ho : o.op = .call { callee := .builtin .append, args := #[sl, x], argTypes := #[t, u] }) (vs vx v : Value) (w' : World) (hs : a.eval sl = vs) (hx : a.eval x = vx)
    (hr : (Builtin.append_ #[t, u] o.type #[vs, vx]).run P w = .ok v w') (h : wpList P ops Q rest (a.put o.dst v) w') : wpList P ops Q (o :: rest) a w := by
  refine wpList_plain hgd fun K hK => ?_
  unfold Oper.wp execOp
  simp only [ho, resolve, invoke, builtin, Sem.run_bind, Sem.run_pure, Result.andThen_ok, List.map_toArray, List.map_cons, List.map_nil, hs, hx, hr]
  exact hK _ _ h

theorem makeE : ∀ w, (Instr.makeSlice 64 (.int .i64 0) (.int .i64 2)).run Tryd.prog w = .ok (.slice (some ⟨w.heap.size, 0, none⟩) 0 2) (w.alloc (.cells #[.nilIface, .nilIface] 25)) := fun _ => by kernel_rfl

set_option maxHeartbeats 1600000 in
set_option maxRecDepth 100000 in
theorem join_any (B : Nat) (t0 t1 : TypeId) (x0 x1 : Value) (w : World) (h0 : w.cell? ⟨B, 0, none⟩ = some (.iface t0 x0)) (h1 : w.cell? ⟨B, 1, none⟩ = some (.iface t1 x1)) :
    Calls Tryd.prog 19 #[.slice (some ⟨B, 0, none⟩) 2 2] w fun e w' => ∃ j b : Nat, e = .returned (.iface 65 (.pointer (some ⟨j, 0, none⟩))) ∧ w'.cell? ⟨j, 0, none⟩ = some (.slice (some ⟨b, 0, none⟩) 2 2) ∧
      w'.cell? ⟨b, 0, none⟩ = some (.iface t0 x0) ∧ w'.cell? ⟨b, 1, none⟩ = some (.iface t1 x1) ∧ Kept w w' := by
  have mk := makeE
  go_enter Tryd.func19, Tryd.ntmps19
  go_wp2_with fail
  refine wp_loop_rounds 3 ?_
  rw [rounds_succ]
  go_wp2_with fail
  rw [rounds_succ]
  go_wp2_with fail
  rw [rounds_succ]
  go_wp2_with fail
  have J0 : JoinAt w ((w.alloc (.cells #[.nilIface, .nilIface] 25)).alloc (.cells #[.slice (some ⟨w.heap.size, 0, none⟩) 0 2] 67)) B (w.heap.size + 1) w.heap.size 0 (.iface t0 x0) (.iface t1 x1) .nilIface .nilIface :=
    ⟨⟨kept_cell (kept2 _ _ _) h0, kept_cell (kept2 _ _ _) h1, by simp, by simp, by simp [go_sem], by simp [go_sem], by simp [go_sem], by simp [go_sem]⟩, kept2 _ _ _, lt_of_cell h0, Nat.le_refl _, by omega, by simp⟩
  generalize hW : ((w.alloc (.cells #[.nilIface, .nilIface] 25)).alloc (.cells #[.slice (some ⟨w.heap.size, 0, none⟩) 0 2] 67)) = W0 at *
  clear hW h0 h1
  have H0 := Lib.hid J0
  obtain ⟨⟨g1, g2, g3, g4, g5, g6, g7, g8⟩, hk, hB, hb, hbj, hj⟩ := J0
  have lj : w.heap.size + 1 < W0.heap.size := hj
  clear hk hb
  refine wp_loop_rounds 3 ?_
  rw [rounds_succ]
  go_wp2_with (at_builtin; refine wpList_append_eq rfl _ _ _ _ rfl _ _ _ _ rfl rfl (appE W0 w.heap.size 0 t0 x0 .nilIface 64 (by omega) (by omega) g5 g7) ?_)
  have J1 := join_step0 (.cells #[.iface t0 x0] 25) H0.out
  clear H0 g1 g2 g3 g4 g5 g6 g7 g8 lj hj
  generalize (((W0.alloc (.cells #[.iface t0 x0] 25)).setCell ⟨w.heap.size, 0, none⟩ (.iface t0 x0)).setCell ⟨w.heap.size + 1, 0, none⟩ (.slice (some ⟨w.heap.size, 0, none⟩) 1 2)) = W1 at *
  have H1 := Lib.hid J1
  obtain ⟨⟨g1, g2, g3, g4, g5, g6, g7, g8⟩, hk, _, hb, _, hj⟩ := J1
  have lj : w.heap.size + 1 < W1.heap.size := hj
  clear hk hb
  rw [rounds_succ]
  go_wp2_with (at_builtin; refine wpList_append_eq rfl _ _ _ _ rfl _ _ _ _ rfl rfl (appE W1 w.heap.size 1 t1 x1 .nilIface 64 (by omega) (by omega) g6 g8) ?_)
  have J2 := join_step1 (.cells #[.iface t1 x1] 25) H1.out
  clear H1 g1 g2 g3 g4 g5 g6 g7 g8 lj hj
  generalize (((W1.alloc (.cells #[.iface t1 x1] 25)).setCell ⟨w.heap.size, 1, none⟩ (.iface t1 x1)).setCell ⟨w.heap.size + 1, 0, none⟩ (.slice (some ⟨w.heap.size, 0, none⟩) 2 2)) = W2 at *
  have H2 := Lib.hid J2
  clear J2
  rw [rounds_succ]
  go_wp2_with fail
  go_ret
  obtain ⟨⟨g1, g2, g3, g4, g5, g6, g7, g8⟩, hk, _⟩ := H2.out
  exact ⟨_, _, rfl, g3, g5, g6, hk⟩
end Go.Proofs.YtngaimandbcpbaaDoor
