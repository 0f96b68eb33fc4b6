/- Several texts of ours in one: Cg, Ch, Ci. -/
import Derived.Test.YtddbjbdhbeijjaaDoorGJdCeCf
/- Package cache: cut, Drop, Evict, Clear. -/
namespace Go.Proofs.YtddbjbdhbeijjaaDoor
set_option linter.unusedVariables false
set_option linter.unusedSimpArgs false
open Go.ChangeShapes Go.WideShapes Go.ChangeAt Go.RowKit Go.Joins

section
variable {w w1 w2 : World} {F : Nat → Prop} {c R mb i : Nat} {L : List Pr} {v : Value}

/-- what cut leaves: the key's entry is gone, the order is another one -/
theorem Cch.cut (h : Cch w c R L mb v) (hi : i < L.length) (hm : MapAt w1 mb (updG (getK L) (L.getD i zP).1 none)) (ht : Turn (fun k => k = mb) w w1) (hs : w1.heap.size = w.heap.size) {v' : Value} (ho : OrdIs w2 v' ((keysK L).eraseIdx i)) (hb : Below w1.heap.size w1 w2)
    (hv : v'.ownBlock = v.ownBlock ∨ v'.ownBlock = some w1.heap.size) :
    Cch (w2.setCell ⟨c, 2, none⟩ v') c R (L.eraseIdx i) mb v' ∧ ∀ k, OwnC c mb v' k → Since (OwnC c mb v) w k := by
  obtain ⟨a1, a2, a3⟩ := h.apart
  have hc : w2.heap[c]? = w.heap[c]? := by
    have hl := lt_of_block h.here
    rw [hb.block c (by omega), ht.block c hl a1]
  have hm2 := hm.same (hb.block mb hm.lt)
  refine ⟨⟨?_, ?_, ?_, nodupK_erase h.nodup i, ?_, ?_, h.room⟩, ?_⟩
  · simp [World.setCell, Array.getElem?_modify, hc, h.here]
  · rw [getK_erase h.nodup hi]
    exact hm2.same (Below.heap_setCell _ _ _ _ (Ne.symm a1))
  · rw [keysK_erase]
    refine ho.same fun k hk => Below.heap_setCell _ _ _ _ fun e => ?_
    obtain ⟨cur, hg⟩ := ho.type hk
    have e' : k = c := e
    rw [e', hc, h.here] at hg
    simp at hg
  · intro k hk
    rw [keysK_erase] at hk
    exact h.ok k ((List.eraseIdx_sublist _ _).subset hk)
  · rw [List.length_eraseIdx_of_lt hi]
    have := h.len
    omega
  · rintro k (rfl | rfl | hk)
    · exact Or.inl (Or.inl rfl)
    · exact Or.inl (Or.inr (Or.inl rfl))
    · rcases hv with e | e
      · exact Or.inl (Or.inr (Or.inr (by rw [← e]; exact hk)))
      · rw [e] at hk
        have := Option.some.inj hk
        exact Or.inr (by omega)

/-- rows of keys stay -/
def KeyKept (w w' : World) : Prop := ∀ (g : Nat) (cur : Array Value), w.heap[g]? = some (.cells cur 88 (0, 0)) → w'.heap[g]? = w.heap[g]?
theorem KeyKept.below (h : Below w.heap.size w w1) : KeyKept w w1 := fun g _ hg => h.block g (lt_of_block hg)
theorem KeyKept.trans (h : KeyKept w w1) (k : KeyKept w1 w2) : KeyKept w w2 := fun g cur hg => (k g cur ((h g cur hg).trans hg)).trans (h g cur hg)
theorem KeyKept.ord {ks : List Ky} (h : KeyKept w w1) (ho : OrdIs w v ks) : OrdIs w1 v ks := ho.same fun i hi => by
  obtain ⟨cur, hg⟩ := ho.type hi
  exact h i cur hg
theorem Cch.cut_keys (h : Cch w c R L mb v) (ht : Turn (fun k => k = mb) w w1) (hb : Below w1.heap.size w1 w2) (u : Value) : KeyKept w (w2.setCell ⟨c, 2, none⟩ u) := fun g cur hg => by
  have hl := lt_of_block hg
  have hgc : g ≠ c := fun e => by rw [e, h.here] at hg; simp at hg
  have hgm : g ≠ mb := fun e => by
    obtain ⟨es, clock, hm, _⟩ := h.map
    rw [e, hm] at hg; simp at hg
  have hs := ht.size
  exact (Below.heap_setCell _ _ _ _ hgc).trans ((hb.block g (by omega)).trans (ht.block g hl hgm))

theorem cut_turn (a1 : c ≠ mb) (ht : Turn (fun k => k = mb) w w1) (hb : Below w1.heap.size w1 w2) (v' : Value) (hF : ∀ k, OwnC c mb v k → F k) : Turn F w (w2.setCell ⟨c, 2, none⟩ v') := by
  have h1 : Turn F w w1 := ht.mono fun k _ hk => hF k (Or.inr (Or.inl hk))
  have h2 : Turn F w w2 := h1.and (Turn.of_kept _ hb)
  exact h2.and (Turn.setCell F _ _ _ (hF c (Or.inl rfl)))

set_option maxRecDepth 100000 in
set_option maxHeartbeats 1600000 in
theorem cutC_all (h : Cac w F c R L) (hi : i < L.length) :
    Calls Tryd.prog 69 #[.pointer (some ⟨c, 0, none⟩), .int .i64 i] w fun e w' => e = .returned (.tuple #[]) ∧ Cac w' (Since F w) c R (L.eraseIdx i) ∧ Turn F w w' ∧ KeyKept w w' := by
  obtain ⟨mb, v, h, hF⟩ := h
  have hlen := h.len
  have hroom := h.room
  have hki : i < (keysK L).length := by rw [keysK_len]; exact hi
  have hok : OkK (L.getD i zP).1 := by
    refine h.ok _ ?_
    rw [← keysK_getD, List.getD, List.getElem?_eq_getElem hki]
    exact List.getElem_mem _
  obtain ⟨g, cap, hv, c0, c1, c2⟩ := h.ord.at_ hki
  rw [keysK_getD] at c0 c1 c2
  rw [keysK_len] at hv
  subst hv
  obtain ⟨w1, hdel, hm1, ht1, hs1⟩ := MapAt.del (h.map.same (w' := w.drew) rfl) hok 0
  have hap := h.apart
  have ho1 : OrdIs w1.drew (.slice (some ⟨g, 0, none⟩) L.length cap) (keysK L) := h.ord.same fun k hk => ht1.block k (h.ord.lt hk) fun e => hap.2.2 (by rw [hk, e])
  obtain ⟨g', cap', v', w2, e', hcap, happ, ho2, hb2, hv2⟩ := cut_append ho1 hki (by rw [keysK_len]; omega) 84
  rw [keysK_len] at e' hcap happ
  obtain ⟨rfl, rfl⟩ : g = g' ∧ cap = cap' := by simpa using e'
  clear e' ho1
  have HB2 : Hid (Below w1.heap.size w1 w2) := Lib.hid (Below.trans (Kept.drew0 w1) hb2)
  obtain ⟨A', c', rfl⟩ := ho2.form
  have HO2 := Lib.hid ho2
  have HV2 := Lib.hid hv2
  have HA := Lib.hid happ
  have d6 : w1.frozen? ⟨c, 2, none⟩ = false := (World.frozen?_of_block (a := ⟨c, 2, none⟩) (ht1.block c (lt_of_block h.here) hap.1)).trans h.cells.2.2.2
  clear ho2 hb2 hv2 happ
  have HC := Lib.hid h
  have HF := Lib.hid hF
  have HD := Lib.hid hdel
  have d3 : w1.cell? ⟨c, 2, none⟩ = some (.slice (some ⟨g, 0, none⟩) L.length cap) := (World.cell?_of_block (a := ⟨c, 2, none⟩) (ht1.block c (lt_of_block h.here) hap.1)).trans h.cells.2.2.1
  have HM1 := Lib.hid hm1
  have HT1 : Hid (Turn (fun k => k = mb) w w1) := Lib.hid ((Turn.of_kept (fun k => k = mb) (Kept.drew0 w)).and ht1)
  have HS1 : Hid (w1.heap.size = w.heap.size) := Lib.hid hs1
  obtain ⟨d0, d1, d2, _⟩ := h.cells
  clear h hF hdel hm1 ht1 hs1 hok hlen hroom hki
  have hwi : IntKind.i64.wrap ((i : Int) + 1) = (i : Int) + 1 := by have := HC.out.len; have := HC.out.room; rw [IntKind.wrap_i64]; omega
  generalize hkk : (L.getD i zP).1 = kk at *
  obtain ⟨p, q, t⟩ := kk
  have HKK := Lib.hid hkk
  clear hkk
  go_enter Tryd.func69, Tryd.ntmps69
  go_wp2_with fail
  refine wp_region_still_tail 11 (by kernel_rfl) (by kernel_rfl) ?_
  simp only [List.take_succ_cons, List.take_zero, List.drop_succ_cons, List.drop_zero]
  repeat still_step
  refine wpStill_nil ?_
  refine list_delete_eq rfl (.tmp 7) (.tmp 14) _ _ rfl _ _ _ w1 rfl rfl HD.out ?_
  go_wp2
  have hp0 : (0 : Int) ≤ (i : Int) + 1 := by omega
  have hp1 : (i : Int) + 1 ≤ (L.length : Int) := by omega
  have hp2 : ((i : Int) + 1).toNat = i + 1 := by omega
  have hic : i ≤ cap := by omega
  generalize hN : L.length = n at *
  have HU := Lib.hid (HC.out.cut (by rw [hN]; exact hi) (by rw [HKK.out]; exact HM1.out) HT1.out HS1.out HO2.out HB2.out HV2.out)
  have HT := Lib.hid (cut_turn HC.out.apart.1 HT1.out HB2.out (.slice A' ((keysK L).eraseIdx i).length c') HF.out)
  have d4 : w2.cell? ⟨c, 2, none⟩ = some (.slice (some ⟨g, 0, none⟩) n cap) := (HB2.out.cell (World.block_lt_of_cell? _ _ d3)).trans d3
  have d5 : w2.frozen? ⟨c, 2, none⟩ = false := (HB2.out.frozen (p := ⟨c, 2, none⟩) (World.block_lt_of_cell? _ _ d3)).trans d6
  go_region_law (refine step_append_eq rfl (.tmp 22) (.tmp 29) _ _ rfl _ _ _ w2 (by simp [Act.eval, Act.put]) (by simp [Act.eval, Act.put]) HA.out ?_)
  all_goals
    go_end0
    exact ⟨rfl, ⟨mb, _, HU.out.1, fun k hk => (HU.out.2 k hk).imp (HF.out k) id⟩, HT.out, HC.out.cut_keys HT1.out HB2.out _⟩

theorem cutC_any (h : Cac w F c R L) (hi : i < L.length) :
    Calls Tryd.prog 69 #[.pointer (some ⟨c, 0, none⟩), .int .i64 i] w fun e w' => e = .returned (.tuple #[]) ∧ Cac w' (Since F w) c R (L.eraseIdx i) ∧ Turn F w w' :=
  (cutC_all h hi).mono fun _ _ ⟨e, h1, h2, _⟩ => ⟨e, h1, h2⟩

theorem dropC_nil (p q t : Int) (w : World) : Calls Tryd.prog 48 #[.pointer none, .agg #[.int .i64 p, .int .i64 q, .int .u64 t]] w fun e w' => e = .returned (.tuple #[]) ∧ Below w.heap.size w w' := by
  go_enter Tryd.func48, Tryd.ntmps48
  go_wp2
  refine bodyPost_ret (results_none rfl _ _ _) rfl ?_
  exact ⟨rfl, below_alloc1 _ _⟩
theorem clearC_nil (w : World) : Calls Tryd.prog 51 #[.pointer none] w fun e w' => e = .returned (.tuple #[]) ∧ w = w' := by
  go_enter Tryd.func51, Tryd.ntmps51
  go_wp2
  refine bodyPost_ret (results_none rfl _ _ _) rfl ?_
  exact ⟨rfl, rfl⟩
theorem evictC_nil (a : Int) (w : World) : Calls Tryd.prog 52 #[.pointer none, .int .i64 a] w fun e w' => e = .returned (.tuple #[]) ∧ w = w' := by
  go_enter Tryd.func52, Tryd.ntmps52
  go_wp2
  refine bodyPost_ret (results_none rfl _ _ _) rfl ?_
  exact ⟨rfl, rfl⟩

theorem Cac.since (h : Cac w F c R L) : Cac w (Since F w) c R L := h.mono fun _ h => Or.inl h

set_option maxRecDepth 100000 in
theorem evictC_any (h : Cac w F c R L) (a : Int) (ha : I64 a) :
    Calls Tryd.prog 52 #[.pointer (some ⟨c, 0, none⟩), .int .i64 a] w fun e w' => e = .returned (.tuple #[]) ∧ Cac w' (Since F w) c R (evK L a) ∧ Turn F w w' := by
  have HC := Lib.hid h
  have hroom := h.room
  have hlen := h.len
  obtain ⟨mb, v, h, hF⟩ := h
  obtain ⟨d0, d1, d2, _⟩ := h.cells
  obtain ⟨A, cap, rfl⟩ := h.ord.form
  rw [keysK_len] at d2
  clear h hF
  by_cases h0 : L.length = 0
  · have HE : Hid (evK L a = L) := Lib.hid (by unfold evK; rw [if_pos h0])
    rw [h0] at d2
    go_enter Tryd.func52, Tryd.ntmps52
    go_wp2
    refine bodyPost_ret (results_none rfl _ _ _) rfl ?_
    rw [HE.out]
    exact ⟨rfl, HC.out.since, Turn.refl _ _⟩
  · have HE : Hid (evK L a = L.eraseIdx (pickF a L.length)) := Lib.hid (by unfold evK; rw [if_neg h0])
    have HP := Lib.hid (pickF_lt a (n := L.length) (by omega))
    have HK := Lib.hid (cutC_any HC.out HP.out)
    have HQ := Lib.hid (pickedC_any a L.length w ha (by omega) (by omega))
    rw [← HE.out] at HK
    clear HE
    generalize hn : L.length = n at *
    have h1 : ((n : Int) == 0) = false := by simp; omega
    have h2 : ¬ ((n : Int) = 0) := by omega
    generalize hi : pickF a n = i at *
    clear hi hn
    go_enter Tryd.func52, Tryd.ntmps52
    go_wp2_with (first | (go_at_call 70; refine HQ.out.mono ?_; rintro e w' ⟨rfl, rfl⟩) | (go_at_call 69; refine HK.out.mono ?_; rintro e w2 ⟨rfl, hc2, ht2⟩))
    go_end0
    exact ⟨rfl, hc2, ht2⟩

/-- what the region keeps in which Drop looks for the key -/
abbrev DropS (w0 w' : World) (c b : Nat) (v : Value) (p q t : Int) : Prop :=
  w'.cell? ⟨c, 2, none⟩ = some v ∧ w'.cell? ⟨b, 0, none⟩ = some (.int .i64 p) ∧ w'.cell? ⟨b, 1, none⟩ = some (.int .i64 q) ∧ w'.cell? ⟨b, 2, none⟩ = some (.int .u64 t) ∧ Kept w0 w'
theorem dropS_step {w0 w1 w2 : World} {c b : Nat} {v : Value} {p q t : Int} (h : DropS w0 w1 c b v p q t) (hb : Below w1.heap.size w1 w2) : DropS w0 w2 c b v p q t := by
  obtain ⟨h0, h1, h2, h3, hk⟩ := h
  exact ⟨(hb.cell (World.block_lt_of_cell? _ _ h0)).trans h0, (hb.cell (World.block_lt_of_cell? _ _ h1)).trans h1, (hb.cell (World.block_lt_of_cell? _ _ h2)).trans h2, (hb.cell (World.block_lt_of_cell? _ _ h3)).trans h3, Below.trans hk (Below.mono hb (Below.size hk))⟩
theorem index_reg {w0 w1 : World} {c b : Nat} {v : Value} {p q t : Int} {ks : List Ky} (ho : OrdIs w0 v ks) (hl : ks.length ≤ 64) (h : DropS w0 w1 c b v p q t) :
    Calls Tryd.prog 68 #[v, .agg #[.int .i64 p, .int .i64 q, .int .u64 t]] w1 fun e w2 => e = .returned (.int .i64 (posF (idxF ks (p, q, t)))) ∧ DropS w0 w2 c b v p q t :=
  (indexC_any w1 v ks p q t (ho.same fun i hi => h.2.2.2.2.block i (ho.lt hi)) hl).mono fun _ _ ⟨e, hb⟩ => ⟨e, dropS_step h hb⟩

set_option maxRecDepth 100000 in
theorem dropC_all (h : Cac w F c R L) (p q t : Int) :
    Calls Tryd.prog 48 #[.pointer (some ⟨c, 0, none⟩), .agg #[.int .i64 p, .int .i64 q, .int .u64 t]] w fun e w' => e = .returned (.tuple #[]) ∧ Cac w' (Since F w) c R (dropK L (p, q, t)) ∧ Turn F w w' ∧ KeyKept w w' := by
  have H0 := Lib.hid ((LawC.start h).new rfl #[.int .i64 p, .int .i64 q, .int .u64 t] 88)
  have hroom := h.room
  have hlen := h.len
  have HD : Hid (∀ i, idxF (keysK L) (p, q, t) = some i → dropK L (p, q, t) = L.eraseIdx i ∧ i < L.length) := Lib.hid fun i hi => by
    refine ⟨by unfold dropK cutO; rw [hi], ?_⟩
    have := (idxF_of hi).1
    rwa [keysK_len] at this
  have HE : Hid (idxF (keysK L) (p, q, t) = none → dropK L (p, q, t) = L) := Lib.hid fun hi => by unfold dropK cutO; rw [hi]
  clear h
  go_enter Tryd.func48, Tryd.ntmps48
  go_upto_region 2 with fail
  generalize hw0 : w.alloc _ = w0
  have H1 := Lib.hid (H0.out.world hw0)
  have K0 : Hid (KeyKept w w0) := Lib.hid (by rw [← hw0]; exact KeyKept.below (below_alloc1 w _))
  clear hw0 H0
  obtain ⟨p0, p1, p2⟩ := (H1.out.at_ 0 rfl).c3
  obtain ⟨mb, v, hC, _⟩ := H1.out.wk.cac
  obtain ⟨d0, d1, d2, _⟩ := hC.cells
  have HO := Lib.hid hC.ord
  clear hC
  have HS : DropS w0 w0.drew c w.heap.size v p q t := ⟨d2, p0, p1, p2, Kept.drew0 _⟩
  have HL : Hid ((keysK L).length ≤ 64) := Lib.hid (by rw [keysK_len]; omega)
  have hY := fun w1 (h : DropS w0 w1 c w.heap.size v p q t) => index_reg HO.out HL.out h
  cases hx : idxF (keysK L) (p, q, t) with
  | none =>
    rw [hx] at hY
    have HY := Lib.hid hY
    have HE2 := Lib.hid (HE.out hx)
    clear hx HE HD hY
    go_region_held3 (fun w' => w'.cell? ⟨c, 2, none⟩ = some v ∧ w'.cell? ⟨w.heap.size, 0, none⟩ = some (.int .i64 p) ∧ w'.cell? ⟨w.heap.size, 1, none⟩ = some (.int .i64 q) ∧ w'.cell? ⟨w.heap.size, 2, none⟩ = some (.int .u64 t) ∧ Kept w0 w')
      (first | assumption | exact HS)
      (first | (go_at_call 68; refine (HY.out _ (by assumption)).mono ?_; rintro e w2 ⟨rfl, hS2⟩))
    rename_i hH
    have H2 := Lib.hid (H1.out.quiet hH.2.2.2.2)
    have e0 : posF none = -1 := rfl
    go_wp2
    go_end0
    rw [HE2.out]
    exact ⟨rfl, H2.out.out.1, H2.out.out.2, K0.out.trans (KeyKept.below hH.2.2.2.2)⟩
  | some i =>
    rw [hx] at hY
    have HY := Lib.hid hY
    have HE2 := Lib.hid (HD.out i hx)
    clear hx HE HD hY
    go_region_held3 (fun w' => w'.cell? ⟨c, 2, none⟩ = some v ∧ w'.cell? ⟨w.heap.size, 0, none⟩ = some (.int .i64 p) ∧ w'.cell? ⟨w.heap.size, 1, none⟩ = some (.int .i64 q) ∧ w'.cell? ⟨w.heap.size, 2, none⟩ = some (.int .u64 t) ∧ Kept w0 w')
      (first | assumption | exact HS)
      (first | (go_at_call 68; refine (HY.out _ (by assumption)).mono ?_; rintro e w2 ⟨rfl, hS2⟩))
    rename_i hH
    have H2 := Lib.hid (H1.out.quiet hH.2.2.2.2)
    have e0 : posF (some i) = (i : Int) := rfl
    go_wp2_with (go_at_call 69; refine (cutC_all H2.out.wk.cac HE2.out.2).mono ?_; rintro e w3 ⟨rfl, hc3, ht3, hk3⟩; have HK3 := Lib.hid hk3; have H3 := Lib.hid (H2.out.did hc3 ht3); clear hc3 ht3 hk3)
    go_end0
    rw [HE2.out.1]
    exact ⟨rfl, H3.out.out.1, H3.out.out.2, K0.out.trans ((KeyKept.below hH.2.2.2.2).trans HK3.out)⟩

theorem dropC_any (h : Cac w F c R L) (p q t : Int) :
    Calls Tryd.prog 48 #[.pointer (some ⟨c, 0, none⟩), .agg #[.int .i64 p, .int .i64 q, .int .u64 t]] w fun e w' => e = .returned (.tuple #[]) ∧ Cac w' (Since F w) c R (dropK L (p, q, t)) ∧ Turn F w w' :=
  (dropC_all h p q t).mono fun _ _ ⟨e, h1, h2, _⟩ => ⟨e, h1, h2⟩
end
end Go.Proofs.YtddbjbdhbeijjaaDoor
/- Package cache: Clear, Put. -/
namespace Go.Proofs.YtddbjbdhbeijjaaDoor
set_option linter.unusedVariables false
set_option linter.unusedSimpArgs false
open Go.ChangeShapes Go.WideShapes Go.ChangeAt Go.RowKit Go.Joins

section
variable {w w1 w2 w6 : World} {F G : Nat → Prop} {c R mb i : Nat} {L L' : List Pr} {v v' : Value} {ks : List Ky} {g : Ky → Option Ln}

theorem clearC_any (h : Cac w F c R L) :
    Calls Tryd.prog 51 #[.pointer (some ⟨c, 0, none⟩)] w fun e w' => e = .returned (.tuple #[]) ∧ Cac w' (Since F w) c R [] ∧ Turn F w w' := by
  obtain ⟨mb, v, h, hF⟩ := h
  obtain ⟨d0, d1, d2, d3⟩ := h.cells
  obtain ⟨w1, hrun, hm1, ht1, hs1⟩ := h.map.clear 0
  obtain ⟨a1, a2, a3⟩ := h.apart
  have hc : w1.heap[c]? = w.heap[c]? := ht1.block c (lt_of_block h.here) a1
  have e2 : w1.cell? ⟨c, 2, none⟩ = some v := (World.cell?_of_block (a := ⟨c, 2, none⟩) hc).trans d2
  have e3 : w1.frozen? ⟨c, 2, none⟩ = false := (World.frozen?_of_block (a := ⟨c, 2, none⟩) hc).trans d3
  have HR : Hid (Cac (w1.setCell ⟨c, 2, none⟩ (.slice none 0 0)) (Since F w) c R [] ∧ Turn F w (w1.setCell ⟨c, 2, none⟩ (.slice none 0 0))) := Lib.hid (by
    refine ⟨⟨mb, .slice none 0 0, ⟨?_, ?_, Or.inl ⟨rfl, rfl⟩, by simp [keysK], by simp [keysK], by simp, h.room⟩, ?_⟩, ?_⟩
    · simp [World.setCell, Array.getElem?_modify, hc, h.here]
    · exact hm1.same (Below.heap_setCell _ _ _ _ (Ne.symm a1))
    · rintro k (rfl | rfl | hk)
      · exact Or.inl (hF _ (Or.inl rfl))
      · exact Or.inl (hF _ (Or.inr (Or.inl rfl)))
      · simp [Value.ownBlock] at hk
    · exact Turn.and (ht1.mono fun k _ hk => hF k (Or.inr (Or.inl hk))) (Turn.setCell F _ _ _ (hF c (Or.inl rfl))))
  have HQ := Lib.hid hrun
  obtain ⟨A, n, rfl⟩ := h.ord.form
  clear h hF hrun hm1 ht1 hs1 hc
  go_enter Tryd.func51, Tryd.ntmps51
  have hq := HQ.out
  go_wp2
  go_end0
  exact ⟨rfl, HR.out.1, HR.out.2⟩

/-- a cache whose map and order may not agree: between two statements of Put -/
structure Cin (w : World) (c R : Nat) (g : Ky → Option Ln) (ks : List Ky) (mb : Nat) (v : Value) : Prop where
  here : w.heap[c]? = some (.cells #[.int .i64 R, .map (some mb), v] 94 (0, 0))
  map : MapAt w mb g
  ord : OrdIs w v ks

theorem Cch.cin (h : Cch w c R L mb v) : Cin w c R (getK L) (keysK L) mb v := ⟨h.here, h.map, h.ord⟩
theorem Cin.apart (h : Cin w c R g ks mb v) : c ≠ mb ∧ v.ownBlock ≠ some c ∧ v.ownBlock ≠ some mb := by
  refine ⟨fun e => ?_, fun e => ?_, fun e => ?_⟩
  · obtain ⟨es, clock, hm, _⟩ := h.map
    rw [← e, h.here] at hm; simp at hm
  · obtain ⟨cur, hg⟩ := h.ord.type e
    rw [h.here] at hg; simp at hg
  · obtain ⟨cur, hg⟩ := h.ord.type e
    obtain ⟨es, clock, hm, _⟩ := h.map
    rw [hm] at hg; simp at hg
theorem Cin.cells (h : Cin w c R g ks mb v) : w.cell? ⟨c, 0, none⟩ = some (.int .i64 R) ∧ w.cell? ⟨c, 1, none⟩ = some (.map (some mb)) ∧ w.cell? ⟨c, 2, none⟩ = some v ∧ w.frozen? ⟨c, 2, none⟩ = false := by
  simp [World.cell?, World.frozen?, h.here]
theorem Cin.full (h : Cin w c R g ks mb v) (hm : MapAt w6 mb (getK L')) (ht : Turn (fun k => k = mb) w w6) (hk : keysK L' = ks) (hn : ks.Nodup) (ho : ∀ k ∈ ks, OkK k) (hl : L'.length ≤ R) (hR : R ≤ 64) : Cch w6 c R L' mb v := by
  obtain ⟨a1, a2, a3⟩ := h.apart
  refine ⟨(ht.block c (lt_of_block h.here) a1).trans h.here, hm, ?_, by rw [hk]; exact hn, by rw [hk]; exact ho, hl, hR⟩
  rw [hk]
  exact h.ord.same fun k hk => ht.block k (h.ord.lt hk) fun e => a3 (by rw [hk, e])
/-- an order with a key more -/
theorem Cin.more {k : Ky} (h : Cin w c R g ks mb v) (ho : OrdIs w2 v' (ks ++ [k])) (ht : Turn (fun i => v.ownBlock = some i) w w2) : Cin (w2.setCell ⟨c, 2, none⟩ v') c R g (ks ++ [k]) mb v' := by
  obtain ⟨a1, a2, a3⟩ := h.apart
  have hc : w2.heap[c]? = w.heap[c]? := ht.block c (lt_of_block h.here) a2
  refine ⟨by simp [World.setCell, Array.getElem?_modify, hc, h.here], ?_, ?_⟩
  · exact (h.map.same (ht.block mb h.map.lt a3)).same (Below.heap_setCell _ _ _ _ (Ne.symm a1))
  · refine ho.same fun i hi => Below.heap_setCell _ _ _ _ fun e => ?_
    obtain ⟨cur, hg⟩ := ho.type hi
    have e' : i = c := e
    rw [e', hc, h.here] at hg
    simp at hg

/-- the append of Put, at a step of its region -/
theorem step_put {ops : Array Oper} {o : Oper} {a : Act} {K : Act → World → Prop} {Q : Exit → Act → World → Prop} {E : Prop} (hgd : o.guard = none) (sl x : Operand)
    (ho : o.op = .call { callee := .builtin .append, args := #[sl, x], argTypes := #[84, 84] }) (hs : a.eval sl = v) (ad : Addr) (hx : a.eval x = .slice (some ad) 1 1)
    (h : OrdIs w v ks) (n : Nat) (hn : ks.length = n) (hl : n ≤ 64) (k : Ky) (hk : ∀ j u, (kc k)[j]? = some u → w.cell? (ad.add j) = some u)
    (hK : ∀ A cap w', OrdIs w' (.slice A (n + 1) cap) (ks ++ [k]) → Turn (fun i => v.ownBlock = some i) w w' → ((Value.slice A (n + 1) cap).ownBlock = v.ownBlock ∨ (Value.slice A (n + 1) cap).ownBlock = some w.heap.size) → K (a.put o.dst (.slice A (n + 1) cap)) w') :
    if Region.wanted o (yielded ops a.tmps) = true then Oper.wp Tryd.prog o a w K Q else E := by
  subst hn
  obtain ⟨v', w', hr, h2, h3, h4⟩ := put_append h hl k ad hk o.type
  obtain ⟨A, cap, rfl⟩ := h2.form
  have e : (ks ++ [k]).length = ks.length + 1 := by simp
  rw [e] at hr h2 h4
  exact step_append_eq hgd sl x _ _ ho _ _ _ w' hs hx hr (hK A cap w' h2 h3 h4)

/-- what Put has behind its append and its store: the cache at w5, of which the map lacks the key's entry -/
structure Pst (w2 w5 : World) (G : Nat → Prop) (c R : Nat) (L : List Pr) (k : Ky) (mb : Nat) (v' : Value) : Prop where
  cin : Cin w5 c R (getK L) (keysK L ++ [k]) mb v'
  turn : Turn G w2 w5
  own : ∀ i, OwnC c mb v' i → Since G w2 i

theorem Pst.make {k : Ky} {o : Obj} {w4 : World} (h : Cch w2 c R L mb v) (hG : ∀ i, OwnC c mb v i → G i) (ho : OrdIs w4 v' (keysK L ++ [k])) (ht : Turn (fun i => v.ownBlock = some i) (w2.alloc o).drew w4)
    (hv : v'.ownBlock = v.ownBlock ∨ v'.ownBlock = some (w2.alloc o).drew.heap.size) :
    Pst w2 (w4.setCell ⟨c, 2, none⟩ v') G c R L k mb v' ∧ w4.cell? ⟨c, 2, none⟩ = some v ∧ w4.frozen? ⟨c, 2, none⟩ = false := by
  have hd : Below w2.heap.size w2 (w2.alloc o).drew := below_drewN (below_alloc1 w2 o) 1
  have t4 : Turn (fun i => v.ownBlock = some i) w2 w4 := (Turn.of_kept _ hd).and ht
  have hc : w4.heap[c]? = w2.heap[c]? := t4.block c (lt_of_block h.here) h.apart.2.1
  refine ⟨⟨h.cin.more ho t4, ?_, ?_⟩, (World.cell?_of_block (a := ⟨c, 2, none⟩) hc).trans h.cells.2.2.1, (World.frozen?_of_block (a := ⟨c, 2, none⟩) hc).trans h.cells.2.2.2⟩
  · exact (t4.mono fun i _ hi => hG i (Or.inr (Or.inr hi))).and (Turn.setCell G _ _ _ (hG c (Or.inl rfl)))
  · rintro i (rfl | rfl | hi)
    · exact Or.inl (hG _ (Or.inl rfl))
    · exact Or.inl (hG _ (Or.inr (Or.inl rfl)))
    · rcases hv with e | e
      · exact Or.inl (hG _ (Or.inr (Or.inr (by rw [← e]; exact hi))))
      · rw [e] at hi
        have := Option.some.inj hi
        exact Or.inr (by rw [← this]; exact hd.size)
theorem Pst.done {k : Ky} {l : Ln} {w5 : World} (h : Pst w2 w5 G c R L k mb v') (hm : MapAt w6 mb (updG (getK L) k (some l))) (ht : Turn (fun i => i = mb) w5 w6) (hn : (keysK L).Nodup) (hk : k ∉ keysK L) (ho : ∀ k ∈ keysK L, OkK k) (hok : OkK k) (hl : L.length < R) (hR : R ≤ 64) :
    Cac w6 (Since G w2) c R (L ++ [(k, l)]) ∧ Turn G w2 w6 := by
  have hp := nodup_push hn hk l
  rw [keysK_append] at hp
  have hc : Cch w6 c R (L ++ [(k, l)]) mb v' := by
    refine h.cin.full (by rw [getK_push hk]; exact hm) ht (keysK_append _ _) hp (fun x hx => ?_) (by rw [List.length_append]; exact hl) hR
    rcases List.mem_append.1 hx with hx | hx
    · exact ho x hx
    · rw [List.mem_singleton.1 hx]; exact hok
  exact ⟨⟨mb, v', hc, h.own⟩, h.turn.trans (ht.mono fun i _ hi => by
    rcases h.own i (Or.inr (Or.inl hi)) with h1 | h1
    · exact Or.inl h1
    · exact Or.inr h1)⟩

set_option maxRecDepth 100000 in
theorem putC_nil (p q t f m a : Int) (x1 x2 x3 x4 : Bool) (w : World) :
    Calls Tryd.prog 43 #[.pointer none, .agg #[.int .i64 p, .int .i64 q, .int .u64 t], .agg #[.int .u64 f, .bool x1, .bool x2, .bool x3, .bool x4, .int .u8 m], .int .i64 a] w fun e w' => e = .returned (.tuple #[]) ∧ Below w.heap.size w w' := by
  go_enter Tryd.func43, Tryd.ntmps43
  go_wp2
  refine bodyPost_ret (results_none rfl _ _ _) rfl ?_
  exact ⟨rfl, (below_alloc1 _ _).alloc (by simp) _⟩

set_option maxRecDepth 100000 in
theorem putC_none (h : Cac w F c 0 L) (p q t f m a : Int) (x1 x2 x3 x4 : Bool) :
    Calls Tryd.prog 43 #[.pointer (some ⟨c, 0, none⟩), .agg #[.int .i64 p, .int .i64 q, .int .u64 t], .agg #[.int .u64 f, .bool x1, .bool x2, .bool x3, .bool x4, .int .u8 m], .int .i64 a] w fun e w' => e = .returned (.tuple #[]) ∧ Cac w' (Since F w) c 0 L ∧ Turn F w w' := by
  have H0 := Lib.hid (((LawC.start h).new rfl #[.int .i64 p, .int .i64 q, .int .u64 t] 88).new rfl #[.int .u64 f, .bool x1, .bool x2, .bool x3, .bool x4, .int .u8 m] 35)
  obtain ⟨mb, v, h, _⟩ := h
  obtain ⟨d0, d1, d2, d3⟩ := h.cells
  have hlc := World.block_lt_of_cell? _ _ d0
  clear h
  go_enter Tryd.func43, Tryd.ntmps43
  go_wp2
  refine bodyPost_ret (results_none rfl _ _ _) rfl ?_
  exact ⟨rfl, H0.out.out⟩
end
end Go.Proofs.YtddbjbdhbeijjaaDoor
/- Package cache: Put, where there is room: the line is there; it is not, and there is a place; it is not, and one has to go. -/
namespace Go.Proofs.YtddbjbdhbeijjaaDoor
set_option linter.unusedVariables false
set_option linter.unusedSimpArgs false
open Go.ChangeShapes Go.WideShapes Go.ChangeAt Go.RowKit Go.Joins

section
variable {w : World} {F : Nat → Prop} {c R i : Nat} {L : List Pr}
set_option maxRecDepth 100000 in
set_option maxHeartbeats 1600000 in
theorem putC_found (h : Cac w F c R L) (hR : 0 < R) (p q t f m a : Int) (x1 x2 x3 x4 : Bool) (hk : OkK (p, q, t)) (hx : idxF (keysK L) (p, q, t) = some i) :
    Calls Tryd.prog 43 #[.pointer (some ⟨c, 0, none⟩), .agg #[.int .i64 p, .int .i64 q, .int .u64 t], .agg #[.int .u64 f, .bool x1, .bool x2, .bool x3, .bool x4, .int .u8 m], .int .i64 a] w fun e w' => e = .returned (.tuple #[]) ∧ Cac w' (Since F w) c R (putK R L (p, q, t) (f, x1, x2, x3, x4, m) a) ∧ Turn F w w' := by
  have H0 := Lib.hid (((LawC.start h).new (b := w.heap.size) rfl #[.int .i64 p, .int .i64 q, .int .u64 t] 88).new (b := w.heap.size + 1) (by simp) #[.int .u64 f, .bool x1, .bool x2, .bool x3, .bool x4, .int .u8 m] 35)
  have HK := Lib.hid hk
  have hroom := h.room
  have hlen := h.len
  obtain ⟨mb0, v0, hC0, hF0⟩ := h
  obtain ⟨⟨f', y1, y2, y3, y4, m'⟩, hy⟩ : ∃ y : Ln, (getK L (p, q, t)).getD zL = y := ⟨_, rfl⟩
  have HQ : Hid (∀ w', Below w.heap.size w w' → (Instr.lookup 92 (.map (some mb0)) (.agg #[.int .i64 p, .int .i64 q, .int .u64 t]) true).run Tryd.prog w' = .ok (.tuple #[.agg #[.int .u64 f', .bool y1, .bool y2, .bool y3, .bool y4, .int .u8 m'], .bool true]) w') := Lib.hid fun w' hb => by
    have h1 := (hC0.map.same (hb.block _ hC0.map.lt)).look hk
    have h2 : (getK L (p, q, t)).isSome = true := by rw [getK_idx, hx]; rfl
    rw [hy, h2] at h1
    exact h1
  have HC0 := Lib.hid hC0
  have HX := Lib.hid hx
  have hR0 : ¬ ((R : Int) = 0) := by omega
  have hR1 : ((R : Int) == 0) = false := by simp; omega
  clear hC0 hF0 hy hx hk
  go_enter Tryd.func43, Tryd.ntmps43
  obtain ⟨d0, d1, d2, _⟩ := (HC0.out.same fun i hi => (((Below.refl _ w).alloc (Nat.le_refl _) (.cells #[.int .i64 p, .int .i64 q, .int .u64 t] 88)).alloc (by simp) (.cells #[.int .u64 f, .bool x1, .bool x2, .bool x3, .bool x4, .int .u8 m] 35)).block i (HC0.out.own_lt hi)).cells
  go_upto_region 2 with fail
  have hb0 : Below w.heap.size w ((w.alloc (.cells #[.int .i64 p, .int .i64 q, .int .u64 t] 88)).alloc (.cells #[.int .u64 f, .bool x1, .bool x2, .bool x3, .bool x4, .int .u8 m] 35)) := ((Below.refl _ w).alloc (Nat.le_refl _) _).alloc (by simp) _
  generalize hw0 : (w.alloc _).alloc _ = w0 at *
  have H1 := H0
  clear hw0 H0
  obtain ⟨p0, p1, p2⟩ := (H1.out.at_ 1 rfl).c3
  have hlt := (H1.out.at_ 1 rfl).lt
  have hlc : c < w0.heap.size := World.block_lt_of_cell? _ _ d0
  have q1 := HQ.out w0.drew (below_drewN hb0 1)
  have q2 := fun o => HQ.out (w0.alloc o).drew (below_drewN (hb0.alloc hb0.size o) 1)
  go_region
  generalize hw1 : (w0.alloc _).drew = w1
  have H2 := Lib.hid (((H1.out.new rfl #[.int .u64 f', .bool y1, .bool y2, .bool y3, .bool y4, .int .u8 m'] 35).quiet (Kept.drew0 _)).world hw1)
  clear hw1 H1 p0 p1 p2 d0 d1 d2 hlt hlc q1 q2 hb0 HQ
  obtain ⟨mb, v, hC, hF⟩ := H2.out.wk.cac
  have HC := Lib.hid hC
  have HF := Lib.hid hF
  clear hC hF
  go_upto_region 7 with fail
  obtain ⟨w6, hu, hm6, ht6, hs6⟩ := MapAt.put (HC.out.map.same (w' := w1.drew) rfl) HK.out (f, x1, x2, x3, x4, m)
  have HU : Hid ((Instr.mapUpdate 92 (.map (some mb)) (.agg #[.int .i64 p, .int .i64 q, .int .u64 t]) (.agg #[.int .u64 f, .bool x1, .bool x2, .bool x3, .bool x4, .int .u8 m])).run Tryd.prog w1.drew = .ok () w6) := Lib.hid hu
  have HM6 := Lib.hid hm6
  have HT6 : Hid (Turn (fun k => k = mb) w1 w6) := Lib.hid ((Turn.of_kept (fun k => k = mb) (Kept.drew0 w1)).and ht6)
  clear hu hm6 ht6 hs6
  obtain ⟨p0, p1, p2⟩ := (H2.out.at_ 2 rfl).c3
  obtain ⟨r0, r1, r2, r3, r4, r5⟩ := (H2.out.at_ 1 rfl).c6
  have e1 := HC.out.cells.2.1
  have hu := HU.out
  refine wp_region_still_tail 6 (by kernel_rfl) (by kernel_rfl) ?_
  simp only [List.take_succ_cons, List.take_zero, List.drop_succ_cons, List.drop_zero]
  repeat still_step
  refine wpStill_nil ?_
  change wpList _ _ _ _ _ w1.drew
  go_wp2
  go_end0
  have hi := idxF_of HX.out
  have hil : i < L.length := by have := hi.1; rwa [keysK_len] at this
  have hC6 : Cch w6 c R (L.set i ((p, q, t), (f, x1, x2, x3, x4, m))) mb v := by
    refine HC.out.cin.full ?_ HT6.out (keysK_set hi.2 _) HC.out.nodup HC.out.ok (by rw [List.length_set]; exact HC.out.len) HC.out.room
    rw [getK_set HC.out.nodup hil hi.2]
    exact HM6.out
  have hp : putK R L (p, q, t) (f, x1, x2, x3, x4, m) a = L.set i ((p, q, t), (f, x1, x2, x3, x4, m)) := by unfold putK; rw [HX.out]
  have hT : Turn _ w1 w6 := HT6.out.mono fun k _ hk => HF.out k (Or.inr (Or.inl hk))
  have H6 := H2.out.did (L' := L.set i ((p, q, t), (f, x1, x2, x3, x4, m))) ⟨mb, v, hC6, fun k hk => Or.inl (HF.out k hk)⟩ hT
  rw [hp]
  exact ⟨rfl, H6.out⟩

set_option maxRecDepth 100000 in
set_option maxHeartbeats 1600000 in
theorem putC_push (h : Cac w F c R L) (hR : 0 < R) (p q t f m a : Int) (x1 x2 x3 x4 : Bool) (hk : OkK (p, q, t)) (hx : idxF (keysK L) (p, q, t) = none) (hr : L.length ≠ R) :
    Calls Tryd.prog 43 #[.pointer (some ⟨c, 0, none⟩), .agg #[.int .i64 p, .int .i64 q, .int .u64 t], .agg #[.int .u64 f, .bool x1, .bool x2, .bool x3, .bool x4, .int .u8 m], .int .i64 a] w fun e w' => e = .returned (.tuple #[]) ∧ Cac w' (Since F w) c R (putK R L (p, q, t) (f, x1, x2, x3, x4, m) a) ∧ Turn F w w' := by
  have H0 := Lib.hid (((LawC.start h).new (b := w.heap.size) rfl #[.int .i64 p, .int .i64 q, .int .u64 t] 88).new (b := w.heap.size + 1) (by simp) #[.int .u64 f, .bool x1, .bool x2, .bool x3, .bool x4, .int .u8 m] 35)
  have HK := Lib.hid hk
  have hroom := h.room
  have hlen := h.len
  obtain ⟨mb0, v0, hC0, hF0⟩ := h
  obtain ⟨⟨f', y1, y2, y3, y4, m'⟩, hy⟩ : ∃ y : Ln, (getK L (p, q, t)).getD zL = y := ⟨_, rfl⟩
  have HQ : Hid (∀ w', Below w.heap.size w w' → (Instr.lookup 92 (.map (some mb0)) (.agg #[.int .i64 p, .int .i64 q, .int .u64 t]) true).run Tryd.prog w' = .ok (.tuple #[.agg #[.int .u64 f', .bool y1, .bool y2, .bool y3, .bool y4, .int .u8 m'], .bool false]) w') := Lib.hid fun w' hb => by
    have h1 := (hC0.map.same (hb.block _ hC0.map.lt)).look hk
    have h2 : (getK L (p, q, t)).isSome = false := by rw [getK_idx, hx]; rfl
    rw [hy, h2] at h1
    exact h1
  have HC0 := Lib.hid hC0
  have HX := Lib.hid hx
  have hR0 : ¬ ((R : Int) = 0) := by omega
  have hR1 : ((R : Int) == 0) = false := by simp; omega
  clear hC0 hF0 hy hx hk
  go_enter Tryd.func43, Tryd.ntmps43
  obtain ⟨d0, d1, d2, _⟩ := (HC0.out.same fun i hi => (((Below.refl _ w).alloc (Nat.le_refl _) (.cells #[.int .i64 p, .int .i64 q, .int .u64 t] 88)).alloc (by simp) (.cells #[.int .u64 f, .bool x1, .bool x2, .bool x3, .bool x4, .int .u8 m] 35)).block i (HC0.out.own_lt hi)).cells
  go_upto_region 2 with fail
  have hb0 : Below w.heap.size w ((w.alloc (.cells #[.int .i64 p, .int .i64 q, .int .u64 t] 88)).alloc (.cells #[.int .u64 f, .bool x1, .bool x2, .bool x3, .bool x4, .int .u8 m] 35)) := ((Below.refl _ w).alloc (Nat.le_refl _) _).alloc (by simp) _
  generalize hw0 : (w.alloc _).alloc _ = w0 at *
  have H1 := H0
  clear hw0 H0
  obtain ⟨p0, p1, p2⟩ := (H1.out.at_ 1 rfl).c3
  have hlt := (H1.out.at_ 1 rfl).lt
  have hlc : c < w0.heap.size := World.block_lt_of_cell? _ _ d0
  have q1 := HQ.out w0.drew (below_drewN hb0 1)
  have q2 := fun o => HQ.out (w0.alloc o).drew (below_drewN (hb0.alloc hb0.size o) 1)
  go_region
  generalize hw1 : (w0.alloc _).drew = w1
  have H2 := Lib.hid (((H1.out.new rfl #[.int .u64 f', .bool y1, .bool y2, .bool y3, .bool y4, .int .u8 m'] 35).quiet (Kept.drew0 _)).world hw1)
  clear hw1 H1 p0 p1 p2 d0 d1 d2 hlt hlc q1 q2 hb0 HQ
  obtain ⟨mb1, v1, hC1, _⟩ := H2.out.wk.cac
  obtain ⟨A1, cap1, rfl⟩ := hC1.ord.form
  rw [keysK_len] at hC1
  obtain ⟨d0, d1, d2, _⟩ := hC1.cells
  obtain ⟨n, hn⟩ : ∃ n, L.length = n := ⟨_, rfl⟩
  rw [hn] at d2 hlen
  have HN := Lib.hid hn
  clear hC1 d1
  have hnR : ((n : Int) == (R : Int)) = false := by simp; omega
  have HLT : Hid (L.length < R) := Lib.hid (by omega)
  have HNK : Hid ((p, q, t) ∉ keysK L) := Lib.hid (idxF_no HX.out)
  have HPK : Hid (putK R L (p, q, t) (f, x1, x2, x3, x4, m) a = L ++ [((p, q, t), (f, x1, x2, x3, x4, m))]) := Lib.hid (by unfold putK; rw [HX.out]; show (if R = 0 then L else _) = _; rw [if_neg (by omega), if_neg (by omega)])
  clear hn hr
  go_upto_region 4 with fail
  go_quiet (fail)
  go_upto_region 6 with fail
  generalize hw2 : w1.drewN _ = w2
  have H3 := Lib.hid ((H2.out.quiet (below_drewN (Below.refl w1.heap.size w1) _)).world hw2)
  clear hw2 H2 d0 d2
  obtain ⟨mb, v, hC, hF⟩ := H3.out.wk.cac
  have HC := Lib.hid hC
  have HF := Lib.hid hF
  obtain ⟨A, cap, rfl⟩ := hC.ord.form
  rw [keysK_len] at HC HF hC
  obtain ⟨d0, d1, d2, _⟩ := hC.cells
  have hlc := World.block_lt_of_cell? _ _ d0
  have HO : Hid (∀ o, OrdIs (w2.alloc o).drew (.slice A (L).length cap) (keysK (L))) := Lib.hid fun o => hC.ord.same fun i hi => (below_drewN (below_alloc1 w2 o) 1).block i (hC.ord.lt hi)
  have HL : Hid ((keysK (L)).length = (L).length) := Lib.hid (keysK_len _)
  have HZ : Hid ((L).length ≤ 64) := Lib.hid (Nat.le_trans hC.len hC.room)
  have HE : Hid (∀ j u, (kc (p, q, t))[j]? = some u → (w2.alloc (.cells #[.int .i64 p, .int .i64 q, .int .u64 t] 88)).drew.cell? ((⟨w2.heap.size, 0, none⟩ : Addr).add j) = some u) := Lib.hid fun j u hj => three_cells w2 (.int .i64 p) (.int .i64 q) (.int .u64 t) 88 j u hj
  obtain ⟨p0, p1, p2⟩ := (H3.out.at_ 2 rfl).c3
  have hlt := (H3.out.at_ 2 rfl).lt
  have al2 : ∀ o, (w2.alloc o).cell? ⟨c, 2, none⟩ = some (.slice A (L).length cap) := fun o => ((below_alloc1 w2 o).cell (p := ⟨c, 2, none⟩) hlc).trans d2
  clear hC hF
  generalize (L).length = n3 at HC HF HO HL HZ d2 al2 ⊢
  go_region_law (refine step_put rfl (.tmp 47) (.tmp 49) rfl (by simp [Act.eval, Act.put]) ⟨w2.heap.size, 0, none⟩ (by simp [Act.eval, Act.put]) (HO.out _) n3 HL.out HZ.out (p, q, t) HE.out ?_; intro A4 cap4 w4 ho4 ht4 hv4; have HP := Lib.hid (Pst.make HC.out HF.out ho4 ht4 hv4); have g2 := HP.out.2.1; have g3 := HP.out.2.2; clear ho4 ht4 hv4 HO HE)
  all_goals
    go_upto_region 7 with fail
    obtain ⟨w5, hw5⟩ : ∃ w5, w4.setCell ⟨c, 2, none⟩ (.slice A4 (n3 + 1) cap4) = w5 := ⟨_, rfl⟩
    rw [hw5] at HP ⊢
    clear hw5 g2 g3 d0 d1 d2 p0 p1 p2 al2 hlt hlc
    obtain ⟨w6, hu, hm6, ht6, hs6⟩ := MapAt.put (HP.out.1.cin.map.same (w' := w5.drew) rfl) HK.out (f, x1, x2, x3, x4, m)
    have HU : Hid ((Instr.mapUpdate 92 (.map (some mb)) (.agg #[.int .i64 p, .int .i64 q, .int .u64 t]) (.agg #[.int .u64 f, .bool x1, .bool x2, .bool x3, .bool x4, .int .u8 m])).run Tryd.prog w5.drew = .ok () w6) := Lib.hid hu
    have HM6 := Lib.hid hm6
    have HT6 : Hid (Turn (fun k => k = mb) w5 w6) := Lib.hid ((Turn.of_kept (fun k => k = mb) (Kept.drew0 w5)).and ht6)
    clear hu hm6 ht6 hs6
    obtain ⟨p0, p1, p2⟩ := ((H3.out.at_ 2 rfl).turn HP.out.1.turn (H3.out.no 2 rfl)).c3
    obtain ⟨r0, r1, r2, r3, r4, r5⟩ := ((H3.out.at_ 1 rfl).turn HP.out.1.turn (H3.out.no 1 rfl)).c6
    have e1 := HP.out.1.cin.cells.2.1
    have hu := HU.out
    refine wp_region_still_tail 6 (by kernel_rfl) (by kernel_rfl) ?_
    simp only [List.take_succ_cons, List.take_zero, List.drop_succ_cons, List.drop_zero]
    repeat still_step
    refine wpStill_nil ?_
    change wpList _ _ _ _ _ w5.drew
    go_wp2
    go_end0
    have hD := HP.out.1.done (l := (f, x1, x2, x3, x4, m)) HM6.out HT6.out HC.out.nodup HNK.out HC.out.ok HK.out HLT.out HC.out.room
    have H6 := H3.out.did hD.1 hD.2
    rw [HPK.out]
    exact ⟨rfl, H6.out⟩

set_option maxRecDepth 100000 in
set_option maxHeartbeats 1600000 in
theorem putC_full (h : Cac w F c R L) (hR : 0 < R) (p q t f m a : Int) (x1 x2 x3 x4 : Bool) (hk : OkK (p, q, t)) (hx : idxF (keysK L) (p, q, t) = none) (hr : L.length = R) (ha : I64 a) :
    Calls Tryd.prog 43 #[.pointer (some ⟨c, 0, none⟩), .agg #[.int .i64 p, .int .i64 q, .int .u64 t], .agg #[.int .u64 f, .bool x1, .bool x2, .bool x3, .bool x4, .int .u8 m], .int .i64 a] w fun e w' => e = .returned (.tuple #[]) ∧ Cac w' (Since F w) c R (putK R L (p, q, t) (f, x1, x2, x3, x4, m) a) ∧ Turn F w w' := by
  have H0 := Lib.hid (((LawC.start h).new (b := w.heap.size) rfl #[.int .i64 p, .int .i64 q, .int .u64 t] 88).new (b := w.heap.size + 1) (by simp) #[.int .u64 f, .bool x1, .bool x2, .bool x3, .bool x4, .int .u8 m] 35)
  have HK := Lib.hid hk
  have hroom := h.room
  have hlen := h.len
  obtain ⟨mb0, v0, hC0, hF0⟩ := h
  obtain ⟨⟨f', y1, y2, y3, y4, m'⟩, hy⟩ : ∃ y : Ln, (getK L (p, q, t)).getD zL = y := ⟨_, rfl⟩
  have HQ : Hid (∀ w', Below w.heap.size w w' → (Instr.lookup 92 (.map (some mb0)) (.agg #[.int .i64 p, .int .i64 q, .int .u64 t]) true).run Tryd.prog w' = .ok (.tuple #[.agg #[.int .u64 f', .bool y1, .bool y2, .bool y3, .bool y4, .int .u8 m'], .bool false]) w') := Lib.hid fun w' hb => by
    have h1 := (hC0.map.same (hb.block _ hC0.map.lt)).look hk
    have h2 : (getK L (p, q, t)).isSome = false := by rw [getK_idx, hx]; rfl
    rw [hy, h2] at h1
    exact h1
  have HC0 := Lib.hid hC0
  have HX := Lib.hid hx
  have hR0 : ¬ ((R : Int) = 0) := by omega
  have hR1 : ((R : Int) == 0) = false := by simp; omega
  clear hC0 hF0 hy hx hk
  go_enter Tryd.func43, Tryd.ntmps43
  obtain ⟨d0, d1, d2, _⟩ := (HC0.out.same fun i hi => (((Below.refl _ w).alloc (Nat.le_refl _) (.cells #[.int .i64 p, .int .i64 q, .int .u64 t] 88)).alloc (by simp) (.cells #[.int .u64 f, .bool x1, .bool x2, .bool x3, .bool x4, .int .u8 m] 35)).block i (HC0.out.own_lt hi)).cells
  go_upto_region 2 with fail
  have hb0 : Below w.heap.size w ((w.alloc (.cells #[.int .i64 p, .int .i64 q, .int .u64 t] 88)).alloc (.cells #[.int .u64 f, .bool x1, .bool x2, .bool x3, .bool x4, .int .u8 m] 35)) := ((Below.refl _ w).alloc (Nat.le_refl _) _).alloc (by simp) _
  generalize hw0 : (w.alloc _).alloc _ = w0 at *
  have H1 := H0
  clear hw0 H0
  obtain ⟨p0, p1, p2⟩ := (H1.out.at_ 1 rfl).c3
  have hlt := (H1.out.at_ 1 rfl).lt
  have hlc : c < w0.heap.size := World.block_lt_of_cell? _ _ d0
  have q1 := HQ.out w0.drew (below_drewN hb0 1)
  have q2 := fun o => HQ.out (w0.alloc o).drew (below_drewN (hb0.alloc hb0.size o) 1)
  go_region
  generalize hw1 : (w0.alloc _).drew = w1
  have H2 := Lib.hid (((H1.out.new rfl #[.int .u64 f', .bool y1, .bool y2, .bool y3, .bool y4, .int .u8 m'] 35).quiet (Kept.drew0 _)).world hw1)
  clear hw1 H1 p0 p1 p2 d0 d1 d2 hlt hlc q1 q2 hb0 HQ
  obtain ⟨mb1, v1, hC1, _⟩ := H2.out.wk.cac
  obtain ⟨A1, cap1, rfl⟩ := hC1.ord.form
  rw [keysK_len] at hC1
  obtain ⟨d0, d1, d2, _⟩ := hC1.cells
  obtain ⟨n, hn⟩ : ∃ n, L.length = n := ⟨_, rfl⟩
  rw [hn] at d2 hlen
  have HN := Lib.hid hn
  clear hC1 d1
  have hnR : ((n : Int) == (R : Int)) = true := by simp; omega
  have hnR2 : n = R := by omega
  have HLT : Hid ((evK L a).length < R) := Lib.hid (by rw [evK_len]; omega)
  have HNK : Hid ((p, q, t) ∉ keysK (evK L a)) := Lib.hid fun h => idxF_no HX.out (((evK_sub L a).map (·.1)).subset h)
  have HPK : Hid (putK R L (p, q, t) (f, x1, x2, x3, x4, m) a = evK L a ++ [((p, q, t), (f, x1, x2, x3, x4, m))]) := Lib.hid (by unfold putK; rw [HX.out]; show (if R = 0 then L else _) = _; rw [if_neg (by omega), if_pos (by omega)])
  have HA := Lib.hid ha
  clear hn hr ha
  go_upto_region 4 with fail
  go_quiet (fail)
  go_upto_region 5 with fail
  generalize hw2 : w1.drewN _ = w2
  have H3 := Lib.hid ((H2.out.quiet (below_drewN (Below.refl w1.heap.size w1) _)).world hw2)
  clear hw2 H2 d0 d2 hnR2
  go_upto_region 6 with (go_at_call 52; refine (evictC_any H3.out.wk.cac _ HA.out).mono ?_; rintro e w3 ⟨rfl, hc3, ht3⟩; have H4 := Lib.hid (H3.out.did hc3 ht3); clear hc3 ht3 H3)
  obtain ⟨mb, v, hC, hF⟩ := H4.out.wk.cac
  have HC := Lib.hid hC
  have HF := Lib.hid hF
  obtain ⟨A, cap, rfl⟩ := hC.ord.form
  rw [keysK_len] at HC HF hC
  obtain ⟨d0, d1, d2, _⟩ := hC.cells
  have hlc := World.block_lt_of_cell? _ _ d0
  have HO : Hid (∀ o, OrdIs (w3.alloc o).drew (.slice A ((evK L a)).length cap) (keysK ((evK L a)))) := Lib.hid fun o => hC.ord.same fun i hi => (below_drewN (below_alloc1 w3 o) 1).block i (hC.ord.lt hi)
  have HL : Hid ((keysK ((evK L a))).length = ((evK L a)).length) := Lib.hid (keysK_len _)
  have HZ : Hid (((evK L a)).length ≤ 64) := Lib.hid (Nat.le_trans hC.len hC.room)
  have HE : Hid (∀ j u, (kc (p, q, t))[j]? = some u → (w3.alloc (.cells #[.int .i64 p, .int .i64 q, .int .u64 t] 88)).drew.cell? ((⟨w3.heap.size, 0, none⟩ : Addr).add j) = some u) := Lib.hid fun j u hj => three_cells w3 (.int .i64 p) (.int .i64 q) (.int .u64 t) 88 j u hj
  obtain ⟨p0, p1, p2⟩ := (H4.out.at_ 2 rfl).c3
  have hlt := (H4.out.at_ 2 rfl).lt
  have al2 : ∀ o, (w3.alloc o).cell? ⟨c, 2, none⟩ = some (.slice A ((evK L a)).length cap) := fun o => ((below_alloc1 w3 o).cell (p := ⟨c, 2, none⟩) hlc).trans d2
  clear hC hF
  generalize ((evK L a)).length = n3 at HC HF HO HL HZ d2 al2 ⊢
  go_region_law (refine step_put rfl (.tmp 47) (.tmp 49) rfl (by simp [Act.eval, Act.put]) ⟨w3.heap.size, 0, none⟩ (by simp [Act.eval, Act.put]) (HO.out _) n3 HL.out HZ.out (p, q, t) HE.out ?_; intro A4 cap4 w4 ho4 ht4 hv4; have HP := Lib.hid (Pst.make HC.out HF.out ho4 ht4 hv4); have g2 := HP.out.2.1; have g3 := HP.out.2.2; clear ho4 ht4 hv4 HO HE)
  all_goals
    go_upto_region 7 with fail
    obtain ⟨w5, hw5⟩ : ∃ w5, w4.setCell ⟨c, 2, none⟩ (.slice A4 (n3 + 1) cap4) = w5 := ⟨_, rfl⟩
    rw [hw5] at HP ⊢
    clear hw5 g2 g3 d0 d1 d2 p0 p1 p2 al2 hlt hlc
    obtain ⟨w6, hu, hm6, ht6, hs6⟩ := MapAt.put (HP.out.1.cin.map.same (w' := w5.drew) rfl) HK.out (f, x1, x2, x3, x4, m)
    have HU : Hid ((Instr.mapUpdate 92 (.map (some mb)) (.agg #[.int .i64 p, .int .i64 q, .int .u64 t]) (.agg #[.int .u64 f, .bool x1, .bool x2, .bool x3, .bool x4, .int .u8 m])).run Tryd.prog w5.drew = .ok () w6) := Lib.hid hu
    have HM6 := Lib.hid hm6
    have HT6 : Hid (Turn (fun k => k = mb) w5 w6) := Lib.hid ((Turn.of_kept (fun k => k = mb) (Kept.drew0 w5)).and ht6)
    clear hu hm6 ht6 hs6
    obtain ⟨p0, p1, p2⟩ := ((H4.out.at_ 2 rfl).turn HP.out.1.turn (H4.out.no 2 rfl)).c3
    obtain ⟨r0, r1, r2, r3, r4, r5⟩ := ((H4.out.at_ 1 rfl).turn HP.out.1.turn (H4.out.no 1 rfl)).c6
    have e1 := HP.out.1.cin.cells.2.1
    have hu := HU.out
    refine wp_region_still_tail 6 (by kernel_rfl) (by kernel_rfl) ?_
    simp only [List.take_succ_cons, List.take_zero, List.drop_succ_cons, List.drop_zero]
    repeat still_step
    refine wpStill_nil ?_
    change wpList _ _ _ _ _ w5.drew
    go_wp2
    go_end0
    have hD := HP.out.1.done (l := (f, x1, x2, x3, x4, m)) HM6.out HT6.out HC.out.nodup HNK.out HC.out.ok HK.out HLT.out HC.out.room
    have H6 := H4.out.did hD.1 hD.2
    rw [HPK.out]
    exact ⟨rfl, H6.out⟩

theorem putC_any (h : Cac w F c R L) (p q t f m a : Int) (x1 x2 x3 x4 : Bool) (hk : OkK (p, q, t)) (ha : I64 a) :
    Calls Tryd.prog 43 #[.pointer (some ⟨c, 0, none⟩), .agg #[.int .i64 p, .int .i64 q, .int .u64 t], .agg #[.int .u64 f, .bool x1, .bool x2, .bool x3, .bool x4, .int .u8 m], .int .i64 a] w fun e w' => e = .returned (.tuple #[]) ∧ Cac w' (Since F w) c R (putK R L (p, q, t) (f, x1, x2, x3, x4, m) a) ∧ Turn F w w' := by
  rcases Nat.eq_zero_or_pos R with rfl | hR
  · have hl : L = [] := List.eq_nil_of_length_eq_zero (by have := h.len; omega)
    have e : putK 0 L (p, q, t) (f, x1, x2, x3, x4, m) a = L := by subst hl; rfl
    rw [e]
    exact putC_none h p q t f m a x1 x2 x3 x4
  · cases hx : idxF (keysK L) (p, q, t) with
    | some i => exact putC_found h hR p q t f m a x1 x2 x3 x4 hk hx
    | none =>
      by_cases hr : L.length = R
      · exact putC_full h hR p q t f m a x1 x2 x3 x4 hk hx hr ha
      · exact putC_push h hR p q t f m a x1 x2 x3 x4 hk hx hr
end
end Go.Proofs.YtddbjbdhbeijjaaDoor
