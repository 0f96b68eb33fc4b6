/- Several texts of ours in one: Cd, Ce, Cf. -/
import Derived.Test.YtefllfoilkbboaaGRjBxCc
import Derived.Deep.Cut
import Derived.Deep.RegionHeld3
import Derived.Deep.RegionLaw
import Derived.Lib.SmallJoins
import Derived.Deep.AppendSrc
import Derived.StillTailTactics
/- Contracts of package cache: New, Room, picked, Get. -/
namespace Go.Proofs.Ytefllfoilkbboaa
set_option linter.unusedVariables false
set_option linter.unusedSimpArgs false
open Go.ChangeShapes Go.WideShapes Go.ChangeAt Go.RowKit Go.Joins

section
variable {w : World} {b : Nat} {t : TypeId}
theorem Blk.cell {cs : Array Value} (h : Blk w b cs t) (i : Nat) {v : Value} (hv : cs[i]? = some v) : w.cell? ⟨b, i, none⟩ = some v := by
  unfold Blk at h; simp [World.cell?, h, hv]
theorem Blk.c2 {x0 x1 : Value} (h : Blk w b #[x0, x1] t) : w.cell? ⟨b, 0, none⟩ = some x0 ∧ w.cell? ⟨b, 1, none⟩ = some x1 := ⟨h.cell 0 rfl, h.cell 1 rfl⟩
theorem Blk.c3 {x0 x1 x2 : Value} (h : Blk w b #[x0, x1, x2] t) : w.cell? ⟨b, 0, none⟩ = some x0 ∧ w.cell? ⟨b, 1, none⟩ = some x1 ∧ w.cell? ⟨b, 2, none⟩ = some x2 := ⟨h.cell 0 rfl, h.cell 1 rfl, h.cell 2 rfl⟩
theorem Blk.c6 {x0 x1 x2 x3 x4 x5 : Value} (h : Blk w b #[x0, x1, x2, x3, x4, x5] t) : w.cell? ⟨b, 0, none⟩ = some x0 ∧ w.cell? ⟨b, 1, none⟩ = some x1 ∧ w.cell? ⟨b, 2, none⟩ = some x2 ∧ w.cell? ⟨b, 3, none⟩ = some x3 ∧ w.cell? ⟨b, 4, none⟩ = some x4 ∧ w.cell? ⟨b, 5, none⟩ = some x5 :=
  ⟨h.cell 0 rfl, h.cell 1 rfl, h.cell 2 rfl, h.cell 3 rfl, h.cell 4 rfl, h.cell 5 rfl⟩
theorem Blk.c9 {x0 x1 x2 x3 x4 x5 x6 x7 x8 : Value} (h : Blk w b #[x0, x1, x2, x3, x4, x5, x6, x7, x8] t) : w.cell? ⟨b, 0, none⟩ = some x0 ∧ w.cell? ⟨b, 1, none⟩ = some x1 ∧ w.cell? ⟨b, 2, none⟩ = some x2 ∧ w.cell? ⟨b, 3, none⟩ = some x3 ∧ w.cell? ⟨b, 4, none⟩ = some x4 ∧ w.cell? ⟨b, 5, none⟩ = some x5 ∧ w.cell? ⟨b, 6, none⟩ = some x6 ∧ w.cell? ⟨b, 7, none⟩ = some x7 ∧ w.cell? ⟨b, 8, none⟩ = some x8 :=
  ⟨h.cell 0 rfl, h.cell 1 rfl, h.cell 2 rfl, h.cell 3 rfl, h.cell 4 rfl, h.cell 5 rfl, h.cell 6 rfl, h.cell 7 rfl, h.cell 8 rfl⟩
theorem Blk.c11 {x0 x1 x2 x3 x4 x5 x6 x7 x8 x9 x10 : Value} (h : Blk w b #[x0, x1, x2, x3, x4, x5, x6, x7, x8, x9, x10] t) : w.cell? ⟨b, 0, none⟩ = some x0 ∧ w.cell? ⟨b, 1, none⟩ = some x1 ∧ w.cell? ⟨b, 2, none⟩ = some x2 ∧ w.cell? ⟨b, 3, none⟩ = some x3 ∧ w.cell? ⟨b, 4, none⟩ = some x4 ∧ w.cell? ⟨b, 5, none⟩ = some x5 ∧ w.cell? ⟨b, 6, none⟩ = some x6 ∧ w.cell? ⟨b, 7, none⟩ = some x7 ∧ w.cell? ⟨b, 8, none⟩ = some x8 ∧ w.cell? ⟨b, 9, none⟩ = some x9 ∧ w.cell? ⟨b, 10, none⟩ = some x10 :=
  ⟨h.cell 0 rfl, h.cell 1 rfl, h.cell 2 rfl, h.cell 3 rfl, h.cell 4 rfl, h.cell 5 rfl, h.cell 6 rfl, h.cell 7 rfl, h.cell 8 rfl, h.cell 9 rfl, h.cell 10 rfl⟩
end

/-- for how many there is room -/
def roomF (z : Int) : Nat := if z < 0 then 0 else if z ≤ 64 then z.toNat else 64
theorem roomF_le (z : Int) : roomF z ≤ 64 := by unfold roomF; split; (· omega); split <;> omega

theorem cch_new (w : World) (R : Nat) (h : R ≤ 64) : Cch ((w.alloc (.map #[] 0)).alloc (.cells #[.int .i64 R, .map (some w.heap.size), .slice none 0 0] 68)) (w.heap.size + 1) R [] w.heap.size (.slice none 0 0) := by
  have e1 : (w.alloc (.map #[] 0)).heap.size = w.heap.size + 1 := by simp
  refine ⟨?_, ?_, Or.inl ⟨rfl, rfl⟩, by simp [keysK], by simp [keysK], by simp, h⟩
  · have := Deep.blk_alloc_new (w.alloc (.map #[] 0)) (.cells #[.int .i64 R, .map (some w.heap.size), .slice none 0 0] 68)
    rwa [e1] at this
  · exact (MapAt.made w).same (Deep.blk_alloc_lt _ _ _ (by simp))

theorem newC_any (z : Int) (w : World) :
    Calls Try.prog 10 #[.int .i64 z] w fun e w' => e = .returned (.pointer (some ⟨w.heap.size + 1, 0, none⟩)) ∧ Cac w' (From w.heap.size) (w.heap.size + 1) (roomF z) [] ∧ Below w.heap.size w w' := by
  have hN := fun R h => cch_new w R h
  have fin : ∀ R : Nat, R ≤ 64 → Cac ((w.alloc (.map #[] 0)).alloc (.cells #[.int .i64 R, .map (some w.heap.size), .slice none 0 0] 68)) (From w.heap.size) (w.heap.size + 1) R [] := fun R h => by
    refine ⟨_, _, hN R h, ?_⟩
    rintro i (rfl | rfl | hv)
    · exact Nat.le_succ _
    · exact Nat.le_refl _
    · simp [Value.ownBlock] at hv
  have HF := Lib.hid fin
  clear hN fin
  have hmm := @run_makeMap Try.prog
  by_cases h0 : z < 0
  · have h1 : ¬ (0 < z) := by omega
    have HR : Hid (roomF z = 0) := Lib.hid (by unfold roomF; rw [if_pos h0])
    go_enter Try.func10, Try.ntmps10
    go_wp2
    go_ret
    rw [HR.out]
    exact ⟨by simp, HF.out 0 (by omega), ((Below.refl _ w).alloc (Nat.le_refl _) _).alloc (by simp) _⟩
  · have h1 : 0 ≤ z := by omega
    by_cases h2 : z ≤ 64
    · obtain ⟨n, rfl⟩ : ∃ n : Nat, z = n := ⟨z.toNat, by omega⟩
      have HR : Hid (roomF n = n) := Lib.hid (by unfold roomF; rw [if_neg h0, if_pos h2]; omega)
      have h3 : n ≤ 64 := by omega
      go_enter Try.func10, Try.ntmps10
      go_wp2
      go_ret
      rw [HR.out]
      exact ⟨by simp, HF.out n h3, ((Below.refl _ w).alloc (Nat.le_refl _) _).alloc (by simp) _⟩
    · have HR : Hid (roomF z = 64) := Lib.hid (by unfold roomF; rw [if_neg h0, if_neg h2])
      have h3 : 64 < z := by omega
      go_enter Try.func10, Try.ntmps10
      go_wp2
      go_ret
      rw [HR.out]
      exact ⟨by simp, HF.out 64 (by omega), ((Below.refl _ w).alloc (Nat.le_refl _) _).alloc (by simp) _⟩

theorem roomC_nil (w : World) : Calls Try.prog 17 #[.pointer none] w fun e w' => e = .returned (.int .i64 0) ∧ w = w' := by
  go_enter Try.func17, Try.ntmps17
  go_wp2
  go_ret
  exact ⟨rfl, rfl⟩

section
variable {w : World} {F : Nat → Prop} {c R : Nat} {L : List Pr}
theorem roomC_any (h : Cac w F c R L) : Calls Try.prog 17 #[.pointer (some ⟨c, 0, none⟩)] w fun e w' => e = .returned (.int .i64 R) ∧ w = w' := by
  obtain ⟨mb, v, h, _⟩ := h
  obtain ⟨c0, c1, c2, _⟩ := h.cells
  clear h
  go_enter Try.func17, Try.ntmps17
  go_wp2
  go_ret
  exact ⟨rfl, rfl⟩
end

theorem tmod_bd (a : Int) {n : Nat} (h : 0 < n) : (a.tmod n + n).tmod n = (pickF a n : Int) ∧ -(n : Int) < a.tmod n ∧ a.tmod n < n := by
  have h1 := Int.emod_nonneg a (b := (n : Int)) (by omega)
  have h2 := Int.emod_lt_of_pos a (b := (n : Int)) (by omega)
  have h3 := Int.tmod_lt_of_pos a (b := (n : Int)) (by omega)
  have h4 : -(n : Int) < a.tmod n := by
    have := Int.tmod_lt_of_pos (-a) (b := (n : Int)) (by omega)
    rw [Int.neg_tmod] at this
    omega
  refine ⟨?_, h4, h3⟩
  unfold pickF
  rw [Int.tmod_eq_emod_of_nonneg (by omega)]
  have : (a.tmod n + n) % (n : Int) = a % n := by
    rw [Int.add_emod_right, Int.tmod_eq_emod]
    split
    · simp
    · simp
  rw [this]
  omega

theorem pickedC_any (a : Int) (n : Nat) (w : World) (ha : I64 a) (hn : 0 < n) (hl : n ≤ 1000000) :
    Calls Try.prog 34 #[.int .i64 a, .int .i64 n] w fun e w' => e = .returned (.int .i64 (pickF a n)) ∧ w = w' := by
  obtain ⟨h1, h2, h3⟩ := tmod_bd a hn
  obtain ⟨h4, h5⟩ := ha
  have HP := Lib.hid h1
  have hp := pickF_lt a hn
  have e0 : IntKind.i64.wrap (a.tmod n) = a.tmod n := by rw [IntKind.wrap_i64]; omega
  have e1 : IntKind.i64.wrap (a.tmod n + n) = a.tmod n + n := by rw [IntKind.wrap_i64]; omega
  have e3 : ¬ ((n : Int) = 0) := by omega
  have e4 : ¬ (n = 0) := by omega
  clear h1 h2 h3 h4 h5 hp
  go_enter Try.func34, Try.ntmps34
  go_wp2
  go_ret
  exact ⟨by rw [← HP.out]; rfl, rfl⟩

set_option maxRecDepth 100000 in
theorem getC_nil (p q t : Int) (w : World) :
    Calls Try.prog 14 #[.pointer none, .agg #[.int .i64 p, .int .i64 q, .int .u64 t]] w fun e w' => e = .returned (.tuple #[.agg #[.int .u64 0, .bool false, .bool false, .bool false, .bool false, .int .u8 0], .bool false]) ∧ Below w.heap.size w w' := by
  go_enter Try.func14, Try.ntmps14
  go_wp2
  refine bodyPost_ret (v := .tuple #[.agg #[.int .u64 0, .bool false, .bool false, .bool false, .bool false, .int .u8 0], .bool false]) ?_ rfl ⟨rfl, ((Below.refl _ w).alloc (Nat.le_refl _) _).alloc (by simp) _⟩
  rw [results_cell_tmp rfl]; go_simp

section
variable {w : World} {F : Nat → Prop} {c R : Nat} {L : List Pr}
set_option maxRecDepth 100000 in
theorem getC_any (h : Cac w F c R L) (p q t f m : Int) (x1 x2 x3 x4 : Bool) (hk : OkK (p, q, t)) (hl : (getK L (p, q, t)).getD zL = (f, x1, x2, x3, x4, m)) (is : Bool) (his : (getK L (p, q, t)).isSome = is) :
    Calls Try.prog 14 #[.pointer (some ⟨c, 0, none⟩), .agg #[.int .i64 p, .int .i64 q, .int .u64 t]] w fun e w' => e = .returned (.tuple #[.agg #[.int .u64 f, .bool x1, .bool x2, .bool x3, .bool x4, .int .u8 m], .bool is]) ∧ Below w.heap.size w w' := by
  obtain ⟨mb, v, h, _⟩ := h
  have HC := Lib.hid h
  have HQ : Hid (∀ w', Below w.heap.size w w' → (Instr.lookup 66 (.map (some mb)) (.agg #[.int .i64 p, .int .i64 q, .int .u64 t]) true).run Try.prog w' = .ok (.tuple #[.agg #[.int .u64 f, .bool x1, .bool x2, .bool x3, .bool x4, .int .u8 m], .bool is]) w') := Lib.hid fun w' hb => by
    have := (h.map.same (hb.block _ h.map.lt)).look hk
    rw [hl, his] at this
    exact this
  have H0 := Lib.hid (((Mine.start w).new rfl #[.int .i64 p, .int .i64 q, .int .u64 t] 34).new rfl #[.int .u64 0, .bool false, .bool false, .bool false, .bool false, .int .u8 0] 38)
  clear h hl his hk
  go_enter Try.func14, Try.ntmps14
  go_upto_region 3 with fail
  generalize hw0 : (w.alloc _).alloc _ = w0
  have H1 := Lib.hid (H0.out.world hw0)
  clear hw0 H0
  obtain ⟨p0, p1, p2⟩ := (H1.out.at_ 1 rfl).c3
  obtain ⟨d0, d1, d2, _⟩ := (HC.out.same fun i hi => H1.out.below.block i (HC.out.own_lt hi)).cells
  have hlt := (H1.out.at_ 1 rfl).lt
  have hlc : c < w0.heap.size := World.block_lt_of_cell? _ _ d0
  have q1 := HQ.out w0.drew (below_drewN H1.out.below 1)
  have q2 := fun o => HQ.out (w0.alloc o).drew (below_drewN (H1.out.below.alloc H1.out.size o) 1)
  go_region
  generalize hw1 : (w0.alloc _).drew = w1
  have H2 := Lib.hid (((H1.out.new rfl #[.int .u64 f, .bool x1, .bool x2, .bool x3, .bool x4, .int .u8 m] 38).quiet (Kept.drew0 _)).world hw1)
  clear hw1 H1 p0 p1 p2 d0 d1 d2 hlt hlc q1 q2
  obtain ⟨r0, r1, r2, r3, r4, r5⟩ := (H2.out.at_ 0 rfl).c6
  obtain ⟨s0, s1, s2, s3, s4, s5⟩ := (H2.out.at_ 1 rfl).c6
  have g0 := (H2.out.at_ 1 rfl).fz 0; have g1 := (H2.out.at_ 1 rfl).fz 1; have g2 := (H2.out.at_ 1 rfl).fz 2; have g3 := (H2.out.at_ 1 rfl).fz 3; have g4 := (H2.out.at_ 1 rfl).fz 4; have g5 := (H2.out.at_ 1 rfl).fz 5
  have e1 : (w.alloc (.cells #[.int .i64 p, .int .i64 q, .int .u64 t] 34)).heap.size = w.heap.size + 1 := by simp
  rw [e1] at s0 s1 s2 s3 s4 s5 g0 g1 g2 g3 g4 g5
  go_wp2
  refine bodyPost_ret (v := .tuple #[.agg #[.int .u64 f, .bool x1, .bool x2, .bool x3, .bool x4, .int .u8 m], .bool is]) ?_ rfl ⟨rfl, ?_⟩
  · rw [results_cell_tmp rfl]; go_simp
  · have H3 := H2.out.put6 1 rfl (y0 := .int .u64 f) (y1 := .bool x1) (y2 := .bool x2) (y3 := .bool x3) (y4 := .bool x4) (y5 := .int .u8 m) rfl
    rw [e1] at H3
    exact H3.below
end
end Go.Proofs.Ytefllfoilkbboaa
/- Package cache: appends to a cache's order; slices.Index, slices.Clone at its keys. -/
namespace Go.Proofs.Ytefllfoilkbboaa
set_option linter.unusedVariables false
set_option linter.unusedSimpArgs false
open Go.ChangeShapes Go.WideShapes Go.ChangeAt Go.RowKit Go.Joins

theorem infoKey : (Try.prog.info? 34).map (fun i => (i.zero, i.size, i.bytes)) = some (some (.agg #[.int .i64 0, .int .i64 0, .int .u64 0]), 3, 24) := by kernel_rfl
theorem zc_size (z : Array Value) (n : Nat) : (Builtin.zeroCells z n).size = n * z.size := by simp [Builtin.zeroCells]

/-- an append in a region that draws, by any equation on its run -/
theorem step_append_eq {P : Program} {ops : Array Oper} {o : Oper} {a : Act} {w : World} {K : Act → World → Prop} {Q : Exit → Act → World → Prop} {E : Prop} (hgd : o.guard = none) (sl x : Operand) (t u : TypeId)
    (ho : o.op = .call { callee := .builtin .append, args := #[sl, x], argTypes := #[t, u] }) (vs vx v : Value) (w' : World) (hs : a.eval sl = vs) (hx : a.eval x = vx)
    (hr : (Builtin.append_ #[t, u] o.type #[vs, vx]).run P w = .ok v w') (h : K (a.put o.dst v) w') : if Region.wanted o (yielded ops a.tmps) = true then Oper.wp P o a w K Q else E := by
  have hw : Region.wanted o (yielded ops a.tmps) = true := by simp [Region.wanted, hgd]
  rw [if_pos hw]
  unfold Oper.wp execOp
  simp only [ho, resolve, invoke, builtin, Sem.run_bind, Sem.run_pure, Result.andThen_ok, List.map_toArray, List.map_cons, List.map_nil, hs, hx, hr]
  exact h
/-- the same at a list of operations; delete, clear -/
theorem list_append_eq {P : Program} {ops : Array Oper} {rest : List Oper} {o : Oper} {a : Act} {Q : Exit → Act → World → Prop} {w : World} (hgd : o.guard = none) (sl x : Operand) (t u : TypeId)
    (ho : o.op = .call { callee := .builtin .append, args := #[sl, x], argTypes := #[t, u] }) (vs vx v : Value) (w' : World) (hs : a.eval sl = vs) (hx : a.eval x = vx)
    (hr : (Builtin.append_ #[t, u] o.type #[vs, vx]).run P w = .ok v w') (h : wpList P ops Q rest (a.put o.dst v) w') : wpList P ops Q (o :: rest) a w := by
  refine wpList_plain hgd fun K hK => ?_
  unfold Oper.wp execOp
  simp only [ho, resolve, invoke, builtin, Sem.run_bind, Sem.run_pure, Result.andThen_ok, List.map_toArray, List.map_cons, List.map_nil, hs, hx, hr]
  exact hK _ _ h
theorem list_delete_eq {P : Program} {ops : Array Oper} {rest : List Oper} {o : Oper} {a : Act} {Q : Exit → Act → World → Prop} {w : World} (hgd : o.guard = none) (sl x : Operand) (t u : TypeId)
    (ho : o.op = .call { callee := .builtin .delete, args := #[sl, x], argTypes := #[t, u] }) (vs vx v : Value) (w' : World) (hs : a.eval sl = vs) (hx : a.eval x = vx)
    (hr : (Builtin.delete_ #[t, u] o.type #[vs, vx]).run P w = .ok v w') (h : wpList P ops Q rest (a.put o.dst v) w') : wpList P ops Q (o :: rest) a w := by
  refine wpList_plain hgd fun K hK => ?_
  unfold Oper.wp execOp
  simp only [ho, resolve, invoke, builtin, Sem.run_bind, Sem.run_pure, Result.andThen_ok, List.map_toArray, List.map_cons, List.map_nil, hs, hx, hr]
  exact hK _ _ h
section
variable {w : World} {v : Value} {ks : List Ky}

/-- a new row of keys, behind an append that grows -/
theorem ord_grown (w : World) (ks : List Ky) (cap : Nat) (hc : ks.length ≤ cap) : OrdIs (w.drew.alloc (.cells ((kcs ks).toArray ++ Builtin.zeroCells #[.int .i64 0, .int .i64 0, .int .u64 0] (cap - ks.length)) 34)) (.slice (some ⟨w.heap.size, 0, none⟩) ks.length cap) ks := by
  refine Or.inr ⟨w.heap.size, cap, _, rfl, heap_alloc_new w.drew _, hc, ?_, ?_⟩
  · rw [Array.size_append, zc_size, List.size_toArray, kcs_len]
    show cap * 3 ≤ ks.length * 3 + (cap - ks.length) * 3
    rw [← Nat.add_mul]
    exact Nat.mul_le_mul_right _ (by omega)
  · rw [Array.toList_append, List.toList_toArray, List.take_append, kcs_len, Nat.sub_self, List.take_zero, List.append_nil]
    exact List.take_of_length_le (by rw [kcs_len]; exact Nat.le_refl _)
theorem below_grown (w : World) (o : Obj) : Below w.heap.size w (w.drew.alloc o) := (Kept.drew0 w).alloc (Nat.le_refl _) o

theorem eraseIdx_eq {α : Type} (l : List α) (i : Nat) : l.eraseIdx i = l.take i ++ l.drop (i + 1) := List.eraseIdx_eq_take_drop_succ l i

/-- the append of cut: what is ahead of i, and what is behind it -/
theorem cut_append (h : OrdIs w v ks) {i : Nat} (hi : i < ks.length) (hl : ks.length ≤ 64) (ty : TypeId) :
    ∃ g cap v' w', v = .slice (some ⟨g, 0, none⟩) ks.length cap ∧ ks.length ≤ cap ∧ (Builtin.append_ #[41, 41] ty #[.slice (some ⟨g, 0, none⟩) i i, .slice (if cap = i + 1 then some ⟨g, 0, none⟩ else some ⟨g, (i + 1) * 3, none⟩) (ks.length - (i + 1)) (cap - (i + 1))]).run Try.prog w = .ok v' w' ∧
      OrdIs w' v' (ks.eraseIdx i) ∧ Below w.heap.size w w' ∧ (v'.ownBlock = some g ∨ v'.ownBlock = some w.heap.size) := by
  obtain ⟨i0, hi0, hz0, hz1, hz2⟩ := info_parts infoKey
  rcases h with ⟨_, rfl⟩ | ⟨g, cap, cur, rfl, hg, h1, h2, h3⟩
  · simp at hi
  have hc := ord_cells (n := ks.length) (cap := 0) hg h3 rfl
  have hel : (ks.eraseIdx i).length = ks.length - 1 := List.length_eraseIdx_of_lt hi
  by_cases hn : ks.length = i + 1
  · refine ⟨g, cap, .slice (some ⟨g, 0, none⟩) i i, w, rfl, h1, ?_, Or.inr ⟨g, i, cur, by rw [hel, hn]; rfl, hg, by omega, by omega, ?_⟩, Below.refl _ _, Or.inl rfl⟩
    · rw [hn, Nat.sub_self]
      split <;> simp [Builtin.append_, run_underlying Try.underlying41, sizeOf, typeInfo, hi0, hz1, Builtin.lenOf, Builtin.firstCells, loadCells, loadCellsFrom, storeCells]
    · rw [hel, hn, eraseIdx_eq, List.drop_of_length_le (by omega), List.append_nil]
      have := congrArg (List.take (i * 3)) h3
      rw [List.take_take, Nat.min_eq_left (by omega)] at this
      rw [show i + 1 - 1 = i by omega, this]
      exact flat_take kc_len ks i
  · have hne : cap ≠ i + 1 := by omega
    refine ⟨g, cap, ?_⟩
    rw [if_neg hne]
    have ht : (kcs (ks.take i)).length = i * 3 := by rw [kcs_len, List.length_take, Nat.min_eq_left (by omega)]
    have hd : (kcs (ks.drop (i + 1))).length = (ks.length - (i + 1)) * 3 := by rw [kcs_len, List.length_drop]
    have hold : (Builtin.firstCells i0.size i (.slice (some ⟨g, 0, none⟩) i i)).run Try.prog w.drew = .ok (kcs (ks.take i)).toArray w.drew := by
      rw [hz1]
      refine run_firstCells_some w.drew 3 i ⟨g, 0, none⟩ i i _ ht fun j u hj => ?_
      refine hc j u ?_
      rw [show kcs (ks.take i) = (kcs ks).take (i * 3) from (flat_take kc_len ks i).symm, List.getElem?_take] at hj
      split at hj
      · exact hj
      · cases hj
    have hsrc : Src Try.prog i0.size 41 (.slice (some ⟨g, (i + 1) * 3, none⟩) (ks.length - (i + 1)) (cap - (i + 1))) (ks.length - (i + 1)) (kcs (ks.drop (i + 1))) w := by
      rw [hz1]
      refine Src.ofSlice w Try.underlying41 _ _ _ _ hd (fun j u hj => ?_) (kcs_one _)
      rw [show kcs (ks.drop (i + 1)) = (kcs ks).drop ((i + 1) * 3) from (flat_drop kc_len ks (i + 1)).symm, List.getElem?_drop] at hj
      have := hc _ u hj
      rw [add2] at this
      rw [Addr.add_lit]
      exact this
    have hr := run_append_grow_src (P := Try.prog) w 41 41 ty 34 i0 _ Try.underlying41 hi0 hz0 (some ⟨g, 0, none⟩) i i (kcs (ks.take i)) hold _ _ _ hsrc (by omega) (by omega) (growslice_fits (by omega) (by rw [hz2]; omega))
    have hcat : kcs (ks.take i) ++ kcs (ks.drop (i + 1)) = kcs (ks.eraseIdx i) := by rw [eraseIdx_eq]; unfold kcs; rw [List.flatMap_append]
    have hlen : i + (ks.length - (i + 1)) = (ks.eraseIdx i).length := by rw [hel]; omega
    rw [hcat, hlen] at hr
    exact ⟨_, _, rfl, h1, hr, ord_grown w _ _ (grownCap_ge _ _ _ _), below_grown _ _, Or.inr rfl⟩

/-- the append of Put -/
theorem put_append (h : OrdIs w v ks) (hl : ks.length ≤ 64) (k : Ky) (a : Addr) (hk : ∀ j u, (kc k)[j]? = some u → w.cell? (a.add j) = some u) (ty : TypeId) :
    ∃ v' w', (Builtin.append_ #[41, 41] ty #[v, .slice (some a) 1 1]).run Try.prog w = .ok v' w' ∧ OrdIs w' v' (ks ++ [k]) ∧ Turn (fun i => v.ownBlock = some i) w w' ∧ (v'.ownBlock = v.ownBlock ∨ v'.ownBlock = some w.heap.size) := by
  obtain ⟨i0, hi0, hz0, hz1, hz2⟩ := info_parts infoKey
  have hsrc : Src Try.prog i0.size 41 (.slice (some a) 1 1) 1 (kc k) w := by
    rw [hz1]
    exact Src.ofSlice w Try.underlying41 _ _ _ _ rfl hk (kc_one k)
  have hcat : kcs ks ++ kc k = kcs (ks ++ [k]) := by unfold kcs; rw [List.flatMap_append]; simp
  have hlen : ks.length + 1 = (ks ++ [k]).length := by simp
  rcases h with ⟨rfl, rfl⟩ | ⟨g, cap, cur, rfl, hg, h1, h2, h3⟩
  · have hold : (Builtin.firstCells i0.size 0 (.slice none 0 0)).run Try.prog w.drew = .ok ([] : List Value).toArray w.drew := run_firstCells_none w.drew _ _ _ _
    have hr := run_append_grow_src (P := Try.prog) w 41 41 ty 34 i0 _ Try.underlying41 hi0 hz0 none 0 0 [] hold _ _ _ hsrc (by omega) (by omega) (growslice_fits (by omega) (by rw [hz2]; omega))
    rw [show [] ++ kc k = kcs ([] ++ [k]) by simp [kcs], show 0 + 1 = (([] : List Ky) ++ [k]).length from rfl] at hr
    exact ⟨_, _, hr, ord_grown w _ _ (grownCap_ge _ _ _ _), Turn.of_kept _ (below_grown _ _), Or.inr rfl⟩
  · by_cases hroom : ks.length + 1 ≤ cap
    · have hr := run_append_room (P := Try.prog) w 41 ty 34 i0 Try.underlying41 hi0 g ks.length cap cur hg a 1 1 (kc k) (by rw [hz1]; rfl) hk (kc_one k) hroom (by rw [hz1, kc_len]; omega)
      rw [hz1] at hr
      refine ⟨_, _, hr, Or.inr ⟨g, cap, _, by rw [← hlen], setRow_heap w g cur _ _ _ hg, by rw [← hlen]; exact hroom, ?_, ?_⟩, ⟨rfl, rfl, rfl, by simp, fun i _ hi => setRow_other w g i _ (fun e => hi (by rw [e]; rfl))⟩, Or.inl rfl⟩
      · simp only [List.size_toArray, List.length_append, List.length_take, List.length_drop, Array.length_toList, kc_len]
        omega
      · rw [← hlen, List.toList_toArray, h3, hcat]
        rw [List.take_append_of_le_length (by rw [kcs_len, ← hlen]; omega)]
        exact List.take_of_length_le (by rw [kcs_len, ← hlen]; omega)
    · have hc := ord_cells (n := ks.length) (cap := 0) hg h3 rfl
      have hold : (Builtin.firstCells i0.size ks.length (.slice (some ⟨g, 0, none⟩) ks.length cap)).run Try.prog w.drew = .ok (kcs ks).toArray w.drew := by
        rw [hz1]
        exact run_firstCells_some w.drew 3 _ ⟨g, 0, none⟩ _ _ _ (kcs_len ks) hc
      have hr := run_append_grow_src (P := Try.prog) w 41 41 ty 34 i0 _ Try.underlying41 hi0 hz0 (some ⟨g, 0, none⟩) ks.length cap (kcs ks) hold _ _ _ hsrc (by omega) (by omega) (growslice_fits (by omega) (by rw [hz2]; omega))
      rw [hcat, hlen] at hr
      exact ⟨_, _, hr, ord_grown w _ _ (grownCap_ge _ _ _ _), Turn.of_kept _ (below_grown _ _), Or.inr rfl⟩
end
end Go.Proofs.Ytefllfoilkbboaa
/- Package cache: slices.Index, slices.Clone at its keys; Keys. -/
namespace Go.Proofs.Ytefllfoilkbboaa
set_option linter.unusedVariables false
set_option linter.unusedSimpArgs false
open Go.ChangeShapes Go.WideShapes Go.ChangeAt Go.RowKit Go.Joins

theorem eqlK (p q t p' q' t' : Int) (w : World) : (binOp .eql 34 (.agg #[.int .i64 p, .int .i64 q, .int .u64 t]) (.agg #[.int .i64 p', .int .i64 q', .int .u64 t'])).run Try.prog w = .ok (.bool (decide ((p, q, t) = (p', q', t')))) w := by
  have e : (binOp .eql 34 (.agg #[.int .i64 p, .int .i64 q, .int .u64 t]) (.agg #[.int .i64 p', .int .i64 q', .int .u64 t'])).run Try.prog w = .ok (.bool (p == p' && (q == q' && t == t'))) w := by
    have hs : Try.prog.stoodInHeld 34 = false := by kernel_rfl
    simp only [binOp]
    simp [Op.equal, Op.maxDepth, run_equalIn_struct w 9999 34 _ _ (by simp [Program.fieldsOf, Try.underlying34]) hs, Program.fieldsOf, Try.underlying34, Op.eqFields, go_sem]
    by_cases h1 : p = p' <;> by_cases h2 : q = q' <;> by_cases h3 : t = t' <;> simp [h1, h2, h3]
  rw [e]
  congr 2
  by_cases h1 : p = p' <;> by_cases h2 : q = q' <;> by_cases h3 : t = t' <;> simp [h1, h2, h3]

set_option maxRecDepth 100000 in
theorem indexC_any (w : World) (v : Value) (ks : List Ky) (p q t : Int) (h : OrdIs w v ks) (hl : ks.length ≤ 64) :
    Calls Try.prog 32 #[v, .agg #[.int .i64 p, .int .i64 q, .int .u64 t]] w fun e w' => e = .returned (.int .i64 (posF (idxF ks (p, q, t)))) ∧ Below w.heap.size w w' := by
  obtain ⟨A, cap, rfl⟩ := h.form
  obtain ⟨n, hn⟩ : ∃ n, ks.length = n := ⟨_, rfl⟩
  rw [hn] at h hl ⊢
  have HO := Lib.hid h
  have HN := Lib.hid hn
  have H0 := Lib.hid ((Mine.start w).new rfl #[.int .i64 p, .int .i64 q, .int .u64 t] 34)
  clear h hn
  go_enter Try.func32, Try.ntmps32
  go_wp2
  generalize hw0 : w.alloc _ = w0
  have H1 := Lib.hid (H0.out.world hw0)
  clear hw0 H0
  go_loopw [8] (fun i wr => ∃ k : Nat, k ≤ n ∧ i = .int .i64 k ∧ Mine w wr [⟨w.heap.size, #[.int .i64 p, .int .i64 q, .int .u64 t], 34⟩] [] ∧ ∀ j, j < k → ks.getD j zK ≠ (p, q, t)) (fun i _ => (n - intOf i).toNat)
  case atStart => exact ⟨0, by omega, rfl, H1.out, fun j hj => by omega⟩
  case round =>
    obtain ⟨k, hk, rfl, hM, hnot⟩ := hrel
    have HM := Lib.hid hM
    have HX := Lib.hid hnot
    clear hM hnot H1
    by_cases hlt : k < n
    · obtain ⟨g, cap', e', c0, c1, c2⟩ := OrdIs.at_ (HO.out.same fun i hi => HM.out.below.block i (HO.out.lt hi)) (k := k) (by rw [HN.out]; exact hlt)
      rw [HN.out] at e'
      obtain ⟨rfl, rfl⟩ : A = some ⟨g, 0, none⟩ ∧ cap = cap' := by simpa using e'
      clear e'
      obtain ⟨b0, b1, b2⟩ := (HM.out.at_ 0 rfl).c3
      generalize hkk : ks.getD k zK = kk at *
      obtain ⟨p', q', t'⟩ := kk
      have HKK := Lib.hid hkk
      clear hkk
      by_cases he : (p, q, t) = (p', q', t')
      · have hq := fun w => (eqlK p q t p' q' t' w).trans (by rw [decide_eq_true he])
        go_wp2
        go_region
        go_wp2
        go_ret
        refine ⟨?_, (HM.out.quiet (Kept.drew0 _)).below⟩
        rw [idxF_some (i := k) (by rw [HN.out]; exact hlt) (HKK.out.trans he.symm) HX.out]
        rfl
      · have hq := fun w => (eqlK p q t p' q' t' w).trans (by rw [decide_eq_false he])
        have HE := Lib.hid he
        clear he
        go_wp2
        go_region
        go_wp2
        go_roundw
        case rel =>
          refine ⟨k + 1, by omega, by go_num, HM.out.quiet (Kept.drew0 _), fun j hj => ?_⟩
          rcases Nat.lt_or_ge j k with h1 | h1
          · exact HX.out j h1
          · obtain rfl : j = k := by omega
            rw [HKK.out]
            exact fun e => HE.out e.symm
        case measure => simp [intOf]; omega
    · obtain rfl : k = n := by omega
      go_wp2
      go_ret
      refine ⟨?_, HM.out.below⟩
      rw [idxF_none (fun i hi => HX.out i (by rw [HN.out] at hi; exact hi))]
      rfl

theorem own_formC {w : World} {B sz n : Nat} {e : TypeId} {v : Value} {xs : List Value} (h : w.ownsRow B e sz v n xs) : ∃ A c, v = .slice A n c := by
  rcases h.2 with ⟨rfl, hn⟩ | ⟨g, cap, cur, rfl, _⟩
  · exact ⟨none, 0, by rw [hn]⟩
  · exact ⟨_, _, rfl⟩
/-- v owns the keys ks, in a block from B on -/
def KeysOwn (w : World) (B : Nat) (v : Value) (ks : List Ky) : Prop := w.ownsRow B 34 3 v ks.length (kcs ks)

set_option maxRecDepth 100000 in
theorem cloneC_any (w : World) (v : Value) (ks : List Ky) (h : OrdIs w v ks) (hl : ks.length ≤ 64) :
    Calls Try.prog 31 #[v] w fun e w' => ∃ A c, e = .returned (.slice A ks.length c) ∧ KeysOwn w' w.heap.size (.slice A ks.length c) ks ∧ Below w.heap.size w w' := by
  have qS : ∀ (w : World) (a : Option Addr) (n c n' c' : Nat), (binOp .eql 41 (.slice a n c) (.slice none n' c')).run Try.prog w = .ok (.bool a.isNone) w := fun w a n c n' c' => Lib.run_eql_slice_nil w _ _ a n c n' c' Try.underlying41
  obtain ⟨i0, hi0, hz0, hz1, hz2⟩ := info_parts infoKey
  rcases h with ⟨rfl, rfl⟩ | ⟨g, cap, cur, rfl, hg, h1, h2, h3⟩
  · go_enter Try.func31, Try.ntmps31
    go_wp2
    go_ret
    exact ⟨none, 0, rfl, World.ownsRow_nil _ _ _ _, Below.refl _ _⟩
  · have hc := ord_cells (n := ks.length) (cap := 0) hg h3 rfl
    have HC : Hid (∀ (o : Obj) j u, (kcs ks)[j]? = some u → (w.alloc o).cell? ((⟨g, 0, none⟩ : Addr).add j) = some u) := Lib.hid fun o j u hj => Lib.cell?_alloc_some o (hc j u hj)
    have HL := Lib.hid (kcs_len ks)
    have HOne := Lib.hid (kcs_one ks)
    generalize hK : kcs ks = K at HC HL HOne
    have HK := Lib.hid hK
    generalize hN : ks.length = n at *
    have HN := Lib.hid hN
    clear hc hg h2 h3 hK hN
    go_enter Try.func31, Try.ntmps31
    go_wp2_with (at_builtin; refine wpList_append_own _ rfl (.tmp 5) (.tmp 6) 41 rfl w.heap.size 34 i0 _ 3 24 Try.underlying41 hi0 hz0 hz1 hz2 rfl (by decide) _ 0 [] rfl (World.ownsRow_made w #[] 0 (Nat.le_refl _) (Nat.zero_le _) rfl) ⟨g, 0, none⟩ n cap K rfl HL.out (HC.out _) HOne.out (by unfold maxLen; omega) (by omega) (by simp) ?_; intro v2 w3 hown2 hgrow2 hnil2; have HO2 := Lib.hid hown2; have HG2 := Lib.hid hgrow2; clear hown2 hgrow2 hnil2)
    have HO3 := HO2.out
    rw [Nat.zero_add, List.nil_append] at HO3
    obtain ⟨A2, c2, rfl⟩ := own_formC HO3
    go_ret
    refine ⟨A2, c2, rfl, ?_, app_step (Nat.le_refl _) HG2.out (fun k hk => ?_)⟩
    · unfold KeysOwn
      rw [HN.out, HK.out]; exact HO3
    · have e : some w.heap.size = some k := hk
      have := Option.some.inj e
      omega

theorem keysC_nil (w : World) : Calls Try.prog 13 #[.pointer none] w fun e w' => e = .returned (.slice none 0 0) ∧ w = w' := by
  go_enter Try.func13, Try.ntmps13
  go_wp2
  go_ret
  exact ⟨rfl, rfl⟩

section
variable {w : World} {F : Nat → Prop} {c R : Nat} {L : List Pr}
theorem keysC_any (h : Cac w F c R L) :
    Calls Try.prog 13 #[.pointer (some ⟨c, 0, none⟩)] w fun e w' => ∃ A d, e = .returned (.slice A L.length d) ∧ KeysOwn w' w.heap.size (.slice A L.length d) (keysK L) ∧ Below w.heap.size w w' := by
  obtain ⟨mb, v, h, _⟩ := h
  have h1 := h.len
  have h2 := h.room
  have HC := Lib.hid (cloneC_any w v (keysK L) h.ord (by rw [keysK_len]; omega))
  rw [keysK_len] at HC
  obtain ⟨c0, c1, c2, _⟩ := h.cells
  clear h h1 h2
  go_enter Try.func13, Try.ntmps13
  go_wp2_with (go_at_call 31; refine HC.out.mono ?_; rintro e w2 ⟨A, d, rfl, hk, hb⟩; have HK := Lib.hid hk; have HB := Lib.hid hb; clear hk hb)
  go_ret
  exact ⟨A, d, rfl, HK.out, HB.out⟩
end
end Go.Proofs.Ytefllfoilkbboaa
