/- Several texts of ours in one: Jd, Ce, Cf. -/
import Derived.Test.YtddbjbdhbeijjaaDoorGJbCdJc
import Derived.Deep.RegionHeld3
import Derived.Deep.AppendSrc
import Derived.StillTailTactics
/- Package psc: New. -/
namespace Go.Proofs.YtddbjbdhbeijjaaDoor
set_option linter.unusedVariables false
set_option linter.unusedSimpArgs false
open Go.ChangeShapes Go.WideShapes Go.ChangeAt Go.RowKit Go.Joins

section
variable {w wr : World} {F G0 G1 G2 : Nat → Prop} {c0 c1 c2 q R : Nat}
end

end Go.Proofs.YtddbjbdhbeijjaaDoor
/- Package cache: appends to a cache's order; slices.Index, slices.Clone at its keys. -/
namespace Go.Proofs.YtddbjbdhbeijjaaDoor
set_option linter.unusedVariables false
set_option linter.unusedSimpArgs false
open Go.ChangeShapes Go.WideShapes Go.ChangeAt Go.RowKit Go.Joins

theorem infoKey : (Tryd.prog.info? 88).map (fun i => (i.zero, i.size, i.bytes)) = some (some (.agg #[.int .i64 0, .int .i64 0, .int .u64 0]), 3, 24) := by kernel_rfl
theorem zc_size (z : Array Value) (n : Nat) : (Builtin.zeroCells z n).size = n * z.size := by simp [Builtin.zeroCells]

/-- an append in a region that draws, by any equation on its run -/
theorem step_append_eq {P : Program} {ops : Array Oper} {o : Oper} {a : Act} {w : World} {K : Act → World → Prop} {Q : Exit → Act → World → Prop} {E : Prop} (hgd : o.guard = none) (sl x : Operand) (t u : TypeId)
    (ho : o.op = .call { callee := .builtin .append, args := #[sl, x], argTypes := #[t, u] }) (vs vx v : Value) (w' : World) (hs : a.eval sl = vs) (hx : a.eval x = vx)
    (hr : (Builtin.append_ #[t, u] o.type #[vs, vx]).run P w = .ok v w') (h : K (a.put o.dst v) w') : if Region.wanted o (yielded ops a.tmps) = true then Oper.wp P o a w K Q else E := by
  have hw : Region.wanted o (yielded ops a.tmps) = true := by simp [Region.wanted, hgd]
  rw [if_pos hw]
  unfold Oper.wp execOp
  simp only [ho, resolve, invoke, builtin, Sem.run_bind, Sem.run_pure, Result.andThen_ok, List.map_toArray, List.map_cons, List.map_nil, hs, hx, hr]
  exact h
/-- the same at a list of operations; delete, clear -/
theorem list_append_eq {P : Program} {ops : Array Oper} {rest : List Oper} {o : Oper} {a : Act} {Q : Exit → Act → World → Prop} {w : World} (hgd : o.guard = none) (sl x : Operand) (t u : TypeId)
    (ho : o.op = .call { callee := .builtin .append, args := #[sl, x], argTypes := #[t, u] }) (vs vx v : Value) (w' : World) (hs : a.eval sl = vs) (hx : a.eval x = vx)
    (hr : (Builtin.append_ #[t, u] o.type #[vs, vx]).run P w = .ok v w') (h : wpList P ops Q rest (a.put o.dst v) w') : wpList P ops Q (o :: rest) a w := by
  refine wpList_plain hgd fun K hK => ?_
  unfold Oper.wp execOp
  simp only [ho, resolve, invoke, builtin, Sem.run_bind, Sem.run_pure, Result.andThen_ok, List.map_toArray, List.map_cons, List.map_nil, hs, hx, hr]
  exact hK _ _ h
theorem list_delete_eq {P : Program} {ops : Array Oper} {rest : List Oper} {o : Oper} {a : Act} {Q : Exit → Act → World → Prop} {w : World} (hgd : o.guard = none) (sl x : Operand) (t u : TypeId)
    (ho : o.op = .call { callee := .builtin .delete, args := #[sl, x], argTypes := #[t, u] }) (vs vx v : Value) (w' : World) (hs : a.eval sl = vs) (hx : a.eval x = vx)
    (hr : (Builtin.delete_ #[t, u] o.type #[vs, vx]).run P w = .ok v w') (h : wpList P ops Q rest (a.put o.dst v) w') : wpList P ops Q (o :: rest) a w := by
  refine wpList_plain hgd fun K hK => ?_
  unfold Oper.wp execOp
  simp only [ho, resolve, invoke, builtin, Sem.run_bind, Sem.run_pure, Result.andThen_ok, List.map_toArray, List.map_cons, List.map_nil, hs, hx, hr]
  exact hK _ _ h
section
variable {w : World} {v : Value} {ks : List Ky}

/-- a new row of keys, behind an append that grows -/
theorem ord_grown (w : World) (ks : List Ky) (cap : Nat) (hc : ks.length ≤ cap) : OrdIs (w.drew.alloc (.cells ((kcs ks).toArray ++ Builtin.zeroCells #[.int .i64 0, .int .i64 0, .int .u64 0] (cap - ks.length)) 88)) (.slice (some ⟨w.heap.size, 0, none⟩) ks.length cap) ks := by
  refine Or.inr ⟨w.heap.size, cap, _, rfl, heap_alloc_new w.drew _, hc, ?_, ?_⟩
  · rw [Array.size_append, zc_size, List.size_toArray, kcs_len]
    show cap * 3 ≤ ks.length * 3 + (cap - ks.length) * 3
    rw [← Nat.add_mul]
    exact Nat.mul_le_mul_right _ (by omega)
  · rw [Array.toList_append, List.toList_toArray, List.take_append, kcs_len, Nat.sub_self, List.take_zero, List.append_nil]
    exact List.take_of_length_le (by rw [kcs_len]; exact Nat.le_refl _)
theorem below_grown (w : World) (o : Obj) : Below w.heap.size w (w.drew.alloc o) := (Kept.drew0 w).alloc (Nat.le_refl _) o

theorem eraseIdx_eq {α : Type} (l : List α) (i : Nat) : l.eraseIdx i = l.take i ++ l.drop (i + 1) := List.eraseIdx_eq_take_drop_succ l i

/-- the append of cut: what is ahead of i, and what is behind it -/
theorem cut_append (h : OrdIs w v ks) {i : Nat} (hi : i < ks.length) (hl : ks.length ≤ 64) (ty : TypeId) :
    ∃ g cap v' w', v = .slice (some ⟨g, 0, none⟩) ks.length cap ∧ ks.length ≤ cap ∧ (Builtin.append_ #[84, 84] ty #[.slice (some ⟨g, 0, none⟩) i i, .slice (if cap = i + 1 then some ⟨g, 0, none⟩ else some ⟨g, (i + 1) * 3, none⟩) (ks.length - (i + 1)) (cap - (i + 1))]).run Tryd.prog w = .ok v' w' ∧
      OrdIs w' v' (ks.eraseIdx i) ∧ Below w.heap.size w w' ∧ (v'.ownBlock = some g ∨ v'.ownBlock = some w.heap.size) := by
  obtain ⟨i0, hi0, hz0, hz1, hz2⟩ := info_parts infoKey
  rcases h with ⟨_, rfl⟩ | ⟨g, cap, cur, rfl, hg, h1, h2, h3⟩
  · simp at hi
  have hc := ord_cells (n := ks.length) (cap := 0) hg h3 rfl
  have hel : (ks.eraseIdx i).length = ks.length - 1 := List.length_eraseIdx_of_lt hi
  by_cases hn : ks.length = i + 1
  · refine ⟨g, cap, .slice (some ⟨g, 0, none⟩) i i, w, rfl, h1, ?_, Or.inr ⟨g, i, cur, by rw [hel, hn]; rfl, hg, by omega, by omega, ?_⟩, Below.refl _ _, Or.inl rfl⟩
    · rw [hn, Nat.sub_self]
      split <;> simp [Builtin.append_, run_underlying Tryd.underlying84, sizeOf, typeInfo, hi0, hz1, Builtin.lenOf, Builtin.firstCells, loadCells, loadCellsFrom, storeCells]
    · rw [hel, hn, eraseIdx_eq, List.drop_of_length_le (by omega), List.append_nil]
      have := congrArg (List.take (i * 3)) h3
      rw [List.take_take, Nat.min_eq_left (by omega)] at this
      rw [show i + 1 - 1 = i by omega, this]
      exact flat_take kc_len ks i
  · have hne : cap ≠ i + 1 := by omega
    refine ⟨g, cap, ?_⟩
    rw [if_neg hne]
    have ht : (kcs (ks.take i)).length = i * 3 := by rw [kcs_len, List.length_take, Nat.min_eq_left (by omega)]
    have hd : (kcs (ks.drop (i + 1))).length = (ks.length - (i + 1)) * 3 := by rw [kcs_len, List.length_drop]
    have hold : (Builtin.firstCells i0.size i (.slice (some ⟨g, 0, none⟩) i i)).run Tryd.prog w.drew = .ok (kcs (ks.take i)).toArray w.drew := by
      rw [hz1]
      refine run_firstCells_some w.drew 3 i ⟨g, 0, none⟩ i i _ ht fun j u hj => ?_
      refine hc j u ?_
      rw [show kcs (ks.take i) = (kcs ks).take (i * 3) from (flat_take kc_len ks i).symm, List.getElem?_take] at hj
      split at hj
      · exact hj
      · cases hj
    have hsrc : Src Tryd.prog i0.size 84 (.slice (some ⟨g, (i + 1) * 3, none⟩) (ks.length - (i + 1)) (cap - (i + 1))) (ks.length - (i + 1)) (kcs (ks.drop (i + 1))) w := by
      rw [hz1]
      refine Src.ofSlice w Tryd.underlying84 _ _ _ _ hd (fun j u hj => ?_) (kcs_one _)
      rw [show kcs (ks.drop (i + 1)) = (kcs ks).drop ((i + 1) * 3) from (flat_drop kc_len ks (i + 1)).symm, List.getElem?_drop] at hj
      have := hc _ u hj
      rw [add2] at this
      rw [Addr.add_lit]
      exact this
    have hr := run_append_grow_src (P := Tryd.prog) w 84 84 ty 88 i0 _ Tryd.underlying84 hi0 hz0 (some ⟨g, 0, none⟩) i i (kcs (ks.take i)) hold _ _ _ hsrc (by omega) (by omega) (growslice_fits (by omega) (by rw [hz2]; omega))
    have hcat : kcs (ks.take i) ++ kcs (ks.drop (i + 1)) = kcs (ks.eraseIdx i) := by rw [eraseIdx_eq]; unfold kcs; rw [List.flatMap_append]
    have hlen : i + (ks.length - (i + 1)) = (ks.eraseIdx i).length := by rw [hel]; omega
    rw [hcat, hlen] at hr
    exact ⟨_, _, rfl, h1, hr, ord_grown w _ _ (grownCap_ge _ _ _ _), below_grown _ _, Or.inr rfl⟩

/-- the append of Put -/
theorem put_append (h : OrdIs w v ks) (hl : ks.length ≤ 64) (k : Ky) (a : Addr) (hk : ∀ j u, (kc k)[j]? = some u → w.cell? (a.add j) = some u) (ty : TypeId) :
    ∃ v' w', (Builtin.append_ #[84, 84] ty #[v, .slice (some a) 1 1]).run Tryd.prog w = .ok v' w' ∧ OrdIs w' v' (ks ++ [k]) ∧ Turn (fun i => v.ownBlock = some i) w w' ∧ (v'.ownBlock = v.ownBlock ∨ v'.ownBlock = some w.heap.size) := by
  obtain ⟨i0, hi0, hz0, hz1, hz2⟩ := info_parts infoKey
  have hsrc : Src Tryd.prog i0.size 84 (.slice (some a) 1 1) 1 (kc k) w := by
    rw [hz1]
    exact Src.ofSlice w Tryd.underlying84 _ _ _ _ rfl hk (kc_one k)
  have hcat : kcs ks ++ kc k = kcs (ks ++ [k]) := by unfold kcs; rw [List.flatMap_append]; simp
  have hlen : ks.length + 1 = (ks ++ [k]).length := by simp
  rcases h with ⟨rfl, rfl⟩ | ⟨g, cap, cur, rfl, hg, h1, h2, h3⟩
  · have hold : (Builtin.firstCells i0.size 0 (.slice none 0 0)).run Tryd.prog w.drew = .ok ([] : List Value).toArray w.drew := run_firstCells_none w.drew _ _ _ _
    have hr := run_append_grow_src (P := Tryd.prog) w 84 84 ty 88 i0 _ Tryd.underlying84 hi0 hz0 none 0 0 [] hold _ _ _ hsrc (by omega) (by omega) (growslice_fits (by omega) (by rw [hz2]; omega))
    rw [show [] ++ kc k = kcs ([] ++ [k]) by simp [kcs], show 0 + 1 = (([] : List Ky) ++ [k]).length from rfl] at hr
    exact ⟨_, _, hr, ord_grown w _ _ (grownCap_ge _ _ _ _), Turn.of_kept _ (below_grown _ _), Or.inr rfl⟩
  · by_cases hroom : ks.length + 1 ≤ cap
    · have hr := run_append_room (P := Tryd.prog) w 84 ty 88 i0 Tryd.underlying84 hi0 g ks.length cap cur hg a 1 1 (kc k) (by rw [hz1]; rfl) hk (kc_one k) hroom (by rw [hz1, kc_len]; omega)
      rw [hz1] at hr
      refine ⟨_, _, hr, Or.inr ⟨g, cap, _, by rw [← hlen], setRow_heap w g cur _ _ _ hg, by rw [← hlen]; exact hroom, ?_, ?_⟩, ⟨rfl, rfl, rfl, by simp, fun i _ hi => setRow_other w g i _ (fun e => hi (by rw [e]; rfl))⟩, Or.inl rfl⟩
      · simp only [List.size_toArray, List.length_append, List.length_take, List.length_drop, Array.length_toList, kc_len]
        omega
      · rw [← hlen, List.toList_toArray, h3, hcat]
        rw [List.take_append_of_le_length (by rw [kcs_len, ← hlen]; omega)]
        exact List.take_of_length_le (by rw [kcs_len, ← hlen]; omega)
    · have hc := ord_cells (n := ks.length) (cap := 0) hg h3 rfl
      have hold : (Builtin.firstCells i0.size ks.length (.slice (some ⟨g, 0, none⟩) ks.length cap)).run Tryd.prog w.drew = .ok (kcs ks).toArray w.drew := by
        rw [hz1]
        exact run_firstCells_some w.drew 3 _ ⟨g, 0, none⟩ _ _ _ (kcs_len ks) hc
      have hr := run_append_grow_src (P := Tryd.prog) w 84 84 ty 88 i0 _ Tryd.underlying84 hi0 hz0 (some ⟨g, 0, none⟩) ks.length cap (kcs ks) hold _ _ _ hsrc (by omega) (by omega) (growslice_fits (by omega) (by rw [hz2]; omega))
      rw [hcat, hlen] at hr
      exact ⟨_, _, hr, ord_grown w _ _ (grownCap_ge _ _ _ _), Turn.of_kept _ (below_grown _ _), Or.inr rfl⟩
end
end Go.Proofs.YtddbjbdhbeijjaaDoor
/- Package cache: slices.Index, slices.Clone at its keys; Keys. -/
namespace Go.Proofs.YtddbjbdhbeijjaaDoor
set_option linter.unusedVariables false
set_option linter.unusedSimpArgs false
open Go.ChangeShapes Go.WideShapes Go.ChangeAt Go.RowKit Go.Joins

set_option maxRecDepth 100000 in
theorem eqlK (p q t p' q' t' : Int) (w : World) : (binOp .eql 88 (.agg #[.int .i64 p, .int .i64 q, .int .u64 t]) (.agg #[.int .i64 p', .int .i64 q', .int .u64 t'])).run Tryd.prog w = .ok (.bool (decide ((p, q, t) = (p', q', t')))) w := by
  have e : (binOp .eql 88 (.agg #[.int .i64 p, .int .i64 q, .int .u64 t]) (.agg #[.int .i64 p', .int .i64 q', .int .u64 t'])).run Tryd.prog w = .ok (.bool (p == p' && (q == q' && t == t'))) w := by
    have hs : Tryd.prog.stoodInHeld 88 = false := by kernel_rfl
    simp only [binOp]
    simp [Op.equal, Op.maxDepth, run_equalIn_struct w 9999 88 _ _ (by simp [Program.fieldsOf, Tryd.underlying88]) hs, Program.fieldsOf, Tryd.underlying88, Op.eqFields, go_sem]
    by_cases h1 : p = p' <;> by_cases h2 : q = q' <;> by_cases h3 : t = t' <;> simp [h1, h2, h3]
  rw [e]
  congr 2
  by_cases h1 : p = p' <;> by_cases h2 : q = q' <;> by_cases h3 : t = t' <;> simp [h1, h2, h3]

set_option maxRecDepth 100000 in
theorem indexC_any (w : World) (v : Value) (ks : List Ky) (p q t : Int) (h : OrdIs w v ks) (hl : ks.length ≤ 64) :
    Calls Tryd.prog 68 #[v, .agg #[.int .i64 p, .int .i64 q, .int .u64 t]] w fun e w' => e = .returned (.int .i64 (posF (idxF ks (p, q, t)))) ∧ Below w.heap.size w w' := by
  obtain ⟨A, cap, rfl⟩ := h.form
  obtain ⟨n, hn⟩ : ∃ n, ks.length = n := ⟨_, rfl⟩
  rw [hn] at h hl ⊢
  have HO := Lib.hid h
  have HN := Lib.hid hn
  have H0 := Lib.hid ((Mine.start w).new rfl #[.int .i64 p, .int .i64 q, .int .u64 t] 88)
  clear h hn
  go_enter Tryd.func68, Tryd.ntmps68
  go_wp2
  generalize hw0 : w.alloc _ = w0
  have H1 := Lib.hid (H0.out.world hw0)
  clear hw0 H0
  go_loopw [8] (fun i wr => ∃ k : Nat, k ≤ n ∧ i = .int .i64 k ∧ Mine w wr [⟨w.heap.size, #[.int .i64 p, .int .i64 q, .int .u64 t], 88⟩] [] ∧ ∀ j, j < k → ks.getD j zK ≠ (p, q, t)) (fun i _ => (n - intOf i).toNat)
  case atStart => exact ⟨0, by omega, rfl, H1.out, fun j hj => by omega⟩
  case round =>
    obtain ⟨k, hk, rfl, hM, hnot⟩ := hrel
    have HM := Lib.hid hM
    have HX := Lib.hid hnot
    clear hM hnot H1
    by_cases hlt : k < n
    · obtain ⟨g, cap', e', c0, c1, c2⟩ := OrdIs.at_ (HO.out.same fun i hi => HM.out.below.block i (HO.out.lt hi)) (k := k) (by rw [HN.out]; exact hlt)
      rw [HN.out] at e'
      obtain ⟨rfl, rfl⟩ : A = some ⟨g, 0, none⟩ ∧ cap = cap' := by simpa using e'
      clear e'
      obtain ⟨b0, b1, b2⟩ := (HM.out.at_ 0 rfl).c3
      generalize hkk : ks.getD k zK = kk at *
      obtain ⟨p', q', t'⟩ := kk
      have HKK := Lib.hid hkk
      clear hkk
      by_cases he : (p, q, t) = (p', q', t')
      · have hq := fun w => (eqlK p q t p' q' t' w).trans (by rw [decide_eq_true he])
        go_wp2
        go_region
        go_wp2
        go_ret
        refine ⟨?_, (HM.out.quiet (Kept.drew0 _)).below⟩
        rw [idxF_some (i := k) (by rw [HN.out]; exact hlt) (HKK.out.trans he.symm) HX.out]
        rfl
      · have hq := fun w => (eqlK p q t p' q' t' w).trans (by rw [decide_eq_false he])
        have HE := Lib.hid he
        clear he
        go_wp2
        go_region
        go_wp2
        go_roundw
        case rel =>
          refine ⟨k + 1, by omega, by go_num, HM.out.quiet (Kept.drew0 _), fun j hj => ?_⟩
          rcases Nat.lt_or_ge j k with h1 | h1
          · exact HX.out j h1
          · obtain rfl : j = k := by omega
            rw [HKK.out]
            exact fun e => HE.out e.symm
        case measure => simp [intOf]; omega
    · obtain rfl : k = n := by omega
      go_wp2
      go_ret
      refine ⟨?_, HM.out.below⟩
      rw [idxF_none (fun i hi => HX.out i (by rw [HN.out] at hi; exact hi))]
      rfl

theorem own_formC {w : World} {B sz n : Nat} {e : TypeId} {v : Value} {xs : List Value} (h : w.ownsRow B e sz v n xs) : ∃ A c, v = .slice A n c := by
  rcases h.2 with ⟨rfl, hn⟩ | ⟨g, cap, cur, rfl, _⟩
  · exact ⟨none, 0, by rw [hn]⟩
  · exact ⟨_, _, rfl⟩
/-- v owns the keys ks, in a block from B on -/
def KeysOwn (w : World) (B : Nat) (v : Value) (ks : List Ky) : Prop := w.ownsRow B 88 3 v ks.length (kcs ks)

set_option maxRecDepth 100000 in
theorem cloneC_any (w : World) (v : Value) (ks : List Ky) (h : OrdIs w v ks) (hl : ks.length ≤ 64) :
    Calls Tryd.prog 63 #[v] w fun e w' => ∃ A c, e = .returned (.slice A ks.length c) ∧ KeysOwn w' w.heap.size (.slice A ks.length c) ks ∧ Below w.heap.size w w' := by
  have qS : ∀ (w : World) (a : Option Addr) (n c n' c' : Nat), (binOp .eql 84 (.slice a n c) (.slice none n' c')).run Tryd.prog w = .ok (.bool a.isNone) w := fun w a n c n' c' => Lib.run_eql_slice_nil w _ _ a n c n' c' Tryd.underlying84
  obtain ⟨i0, hi0, hz0, hz1, hz2⟩ := info_parts infoKey
  rcases h with ⟨rfl, rfl⟩ | ⟨g, cap, cur, rfl, hg, h1, h2, h3⟩
  · go_enter Tryd.func63, Tryd.ntmps63
    go_wp2
    go_ret
    exact ⟨none, 0, rfl, World.ownsRow_nil _ _ _ _, Below.refl _ _⟩
  · have hc := ord_cells (n := ks.length) (cap := 0) hg h3 rfl
    have HC : Hid (∀ (o : Obj) j u, (kcs ks)[j]? = some u → (w.alloc o).cell? ((⟨g, 0, none⟩ : Addr).add j) = some u) := Lib.hid fun o j u hj => Lib.cell?_alloc_some o (hc j u hj)
    have HL := Lib.hid (kcs_len ks)
    have HOne := Lib.hid (kcs_one ks)
    generalize hK : kcs ks = K at HC HL HOne
    have HK := Lib.hid hK
    generalize hN : ks.length = n at *
    have HN := Lib.hid hN
    clear hc hg h2 h3 hK hN
    go_enter Tryd.func63, Tryd.ntmps63
    go_wp2_with (at_builtin; refine wpList_append_own _ rfl (.tmp 5) (.tmp 6) 84 rfl w.heap.size 88 i0 _ 3 24 Tryd.underlying84 hi0 hz0 hz1 hz2 rfl (by decide) _ 0 [] rfl (World.ownsRow_made w #[] 0 (Nat.le_refl _) (Nat.zero_le _) rfl) ⟨g, 0, none⟩ n cap K rfl HL.out (HC.out _) HOne.out (by unfold maxLen; omega) (by omega) (by simp) ?_; intro v2 w3 hown2 hgrow2 hnil2; have HO2 := Lib.hid hown2; have HG2 := Lib.hid hgrow2; clear hown2 hgrow2 hnil2)
    have HO3 := HO2.out
    rw [Nat.zero_add, List.nil_append] at HO3
    obtain ⟨A2, c2, rfl⟩ := own_formC HO3
    go_ret
    refine ⟨A2, c2, rfl, ?_, app_step (Nat.le_refl _) HG2.out (fun k hk => ?_)⟩
    · unfold KeysOwn
      rw [HN.out, HK.out]; exact HO3
    · have e : some w.heap.size = some k := hk
      have := Option.some.inj e
      omega

theorem keysC_nil (w : World) : Calls Tryd.prog 42 #[.pointer none] w fun e w' => e = .returned (.slice none 0 0) ∧ w = w' := by
  go_enter Tryd.func42, Tryd.ntmps42
  go_wp2
  go_ret
  exact ⟨rfl, rfl⟩

section
variable {w : World} {F : Nat → Prop} {c R : Nat} {L : List Pr}
theorem keysC_any (h : Cac w F c R L) :
    Calls Tryd.prog 42 #[.pointer (some ⟨c, 0, none⟩)] w fun e w' => ∃ A d, e = .returned (.slice A L.length d) ∧ KeysOwn w' w.heap.size (.slice A L.length d) (keysK L) ∧ Below w.heap.size w w' := by
  obtain ⟨mb, v, h, _⟩ := h
  have h1 := h.len
  have h2 := h.room
  have HC := Lib.hid (cloneC_any w v (keysK L) h.ord (by rw [keysK_len]; omega))
  rw [keysK_len] at HC
  obtain ⟨c0, c1, c2, _⟩ := h.cells
  clear h h1 h2
  go_enter Tryd.func42, Tryd.ntmps42
  go_wp2_with (go_at_call 63; refine HC.out.mono ?_; rintro e w2 ⟨A, d, rfl, hk, hb⟩; have HK := Lib.hid hk; have HB := Lib.hid hb; clear hk hb)
  go_ret
  exact ⟨A, d, rfl, HK.out, HB.out⟩
end
end Go.Proofs.YtddbjbdhbeijjaaDoor
