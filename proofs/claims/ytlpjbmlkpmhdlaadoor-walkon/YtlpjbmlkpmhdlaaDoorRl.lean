/- Contracts of package dormerref04: Get, Load. -/
import Derived.Test.YtlpjbmlkpmhdlaaDoorRf
import Derived.Laws.AppendOwnNone
import Derived.Laws.ResultCell
namespace Go.Proofs.YtlpjbmlkpmhdlaaDoor
set_option linter.unusedVariables false
set_option linter.unusedSimpArgs false
open Go.ChangeShapes Go.WideShapes Go.ChangeAt Go.RowKit Go.Joins

theorem results_cell_tmp2 {fn : Func} {p u x : Tmp} {ty : TypeId} (h : fn.results = #[.cell p ty, .tmp u, .tmp x]) (tmps : Array Value) (P : Program) (w : World) :
    (results fn tmps).run P w =
      ((asAddr (tmps.getD p undef)).run P w).andThen fun a w₁ => ((loadVar ty a).run P w₁).andThen fun v w₂ => .ok (.tuple #[v, tmps.getD u undef, tmps.getD x undef]) w₂ := by
  simp only [results, h]
  simp [Sem.run_bind, Result.andThen]

theorem results_cell1 {fn : Func} {p : Tmp} {ty : TypeId} (h : fn.results = #[.cell p ty]) (tmps : Array Value) (P : Program) (w : World) :
    (results fn tmps).run P w = ((asAddr (tmps.getD p undef)).run P w).andThen fun a w₁ => (loadVar ty a).run P w₁ := by
  simp only [results, h]
  simp [Sem.run_bind]

/-- a block of three cells, as it was laid, in a later world -/
structure Three (w : World) (b : Nat) (x y z : Value) : Prop where
  c0 : w.cell? ⟨b, 0, none⟩ = some x
  c1 : w.cell? ⟨b, 1, none⟩ = some y
  c2 : w.cell? ⟨b, 2, none⟩ = some z
  f0 : w.frozen? ⟨b, 0, none⟩ = false
  f1 : w.frozen? ⟨b, 1, none⟩ = false
  f2 : w.frozen? ⟨b, 2, none⟩ = false

theorem three_of {w : World} {b : Nat} {x y z : Value} {t : TypeId} (h : w.heap[b]? = some (.cells #[x, y, z] t (0, 0))) : Three w b x y z := by
  constructor <;> simp [World.cell?, World.frozen?, h]
theorem three_block {w w' : World} {b : Nat} {x y z : Value} (h : Three w b x y z) (e : w'.heap[b]? = w.heap[b]?) : Three w' b x y z :=
  ⟨(World.cell?_of_block (a := ⟨b, 0, none⟩) e).trans h.c0, (World.cell?_of_block (a := ⟨b, 1, none⟩) e).trans h.c1, (World.cell?_of_block (a := ⟨b, 2, none⟩) e).trans h.c2, (World.frozen?_of_block (a := ⟨b, 0, none⟩) e).trans h.f0, (World.frozen?_of_block (a := ⟨b, 1, none⟩) e).trans h.f1, (World.frozen?_of_block (a := ⟨b, 2, none⟩) e).trans h.f2⟩
theorem three_below {w w' : World} {b B : Nat} {x y z : Value} (h : Three w b x y z) (hb : Below B w w') (hB : b < B) : Three w' b x y z := three_block h (hb.block b hB)
theorem three_new (w : World) (x y z : Value) (t : TypeId) : Three (w.alloc (.cells #[x, y, z] t)) w.heap.size x y z := three_of (Deep.blk_alloc_new _ _)
theorem three_alloc {w : World} {b : Nat} {x y z : Value} (h : Three w b x y z) (hb : b < w.heap.size) (o : Obj) : Three (w.alloc o) b x y z := three_block h (Deep.blk_alloc_lt _ _ _ hb)

/-- v' is v, or new behind w -/
def NewOr (w : World) (v v' : Value) : Prop := v' = v ∨ ∀ i, v'.ownBlock = some i → w.heap.size ≤ i

theorem words_set {w w1 : World} {v : Value} {tr : List Int} (hT : WordsOwn w v tr) (h1 : WordsOwn w1 v tr) {b : Nat} (hb : w.heap.size ≤ b) (i : Nat) (u : Value) : WordsOwn (w1.setCell ⟨b, i, none⟩ u) v tr :=
  ownsRow_setCell_other h1 (fun e => by have := (World.ownsRow.lt hT _ e).2; simp at this; omega) u
theorem app_step {w1 w2 : World} {B : Nat} {o : Obj} {row : Option Nat} (hz : B ≤ w1.heap.size) (hg : (w1.alloc o).grownBy w2 row) (hr : ∀ k, row = some k → B ≤ k) : Below B w1 w2 :=
  ((Below.refl _ w1).alloc hz o).grown hg (by simp; omega) hr
theorem row_set {w1 : World} {base : Nat} {e : TypeId} {size : Nat} {v : Value} {n : Nat} {xs : List Value} (h : w1.ownsRow base e size v n xs) {b : Nat} (hb : b < base) (i : Nat) (u : Value) : (w1.setCell ⟨b, i, none⟩ u).ownsRow base e size v n xs := ownsRow_setCell_below (a := ⟨b, i, none⟩) h hb u
theorem row_zero {w1 : World} {base : Nat} {e : TypeId} {size : Nat} {v : Value} {n : Nat} {xs : List Value} (h : w1.ownsRow base e size v n xs) : w1.ownsRow 0 e size v n xs := by
  refine ⟨h.1, ?_⟩
  rcases h.2 with hn | ⟨g, cap, cur, hv, _, r⟩
  · exact Or.inl hn
  · exact Or.inr ⟨g, cap, cur, hv, Nat.zero_le _, r⟩

theorem loadT_no {M : Int} {tr : List Int} {a : Int} (h : errS M a ≠ 0) : loadT M tr a = tr := if_neg h
theorem peekV_no {M : Int} {f : Int → Int} {a : Int} (h : errS M a ≠ 0) : peekV M f a = 0 := if_neg h

set_option maxRecDepth 100000 in
set_option maxHeartbeats 1000000 in
theorem rLoad_any (M : Int) (vs vt : Value) (L : List (Int × Int)) (tr : List Int) (f : Int → Int) (a : Int) (w : World) (hM : 14 ≤ M ∧ M ≤ 22) (hS : SlotsOwn w vs L) (hl : L.length < 1000000) (hT : WordsOwn w vt tr) (ht : tr.length < 1000000) (hf : Agree f L) (ha : W64 a) :
    Calls Tryd.prog 44 #[.agg #[.int .i64 M, vs, vt], .int .u64 a] w fun e w' => ∃ vt', e = .returned (.tuple #[.agg #[.int .i64 M, vs, vt'], .int .u64 (peekV M f a), .int .i64 (errS M a)]) ∧ WordsOwn w' vt' (loadT M tr a) ∧ NewOr w vt vt' ∧ Below w.heap.size w w' := by
  obtain ⟨A, c, rfl, _⟩ := hS.form
  obtain ⟨A', c', rfl⟩ := own_len hT
  have hne : ∀ (x y z : Value), Below w.heap.size w ((w.alloc (.cells #[.int .i64 M, .slice A L.length c, .slice A' tr.length c'] 34)).alloc (.cells #[x, y, z] 34)) := fun x y z => ((Below.refl _ w).alloc (Nat.le_refl _) _).alloc (by simp) _
  have cl : ∀ {x y z : Value} {w1 : World}, Below ((w.alloc (.cells #[.int .i64 M, .slice A L.length c, .slice A' tr.length c'] 34)).alloc (.cells #[x, y, z] 34)).heap.size ((w.alloc (.cells #[.int .i64 M, .slice A L.length c, .slice A' tr.length c'] 34)).alloc (.cells #[x, y, z] 34)) w1 →
      Three w1 w.heap.size (.int .i64 M) (.slice A L.length c) (.slice A' tr.length c') ∧ Three w1 (w.heap.size + 1) x y z ∧ Hid (Below w.heap.size w w1) ∧ Hid (SlotsOwn w1 (.slice A L.length c) L) ∧ Hid (WordsOwn w1 (.slice A' tr.length c') tr) ∧ Hid (w.heap.size + 2 ≤ w1.heap.size) := fun {x y z w1} hb => by
    have e1 : (w.alloc (.cells #[.int .i64 M, .slice A L.length c, .slice A' tr.length c'] 34)).heap.size = w.heap.size + 1 := by simp
    have h2 := three_new (w.alloc (.cells #[.int .i64 M, .slice A L.length c, .slice A' tr.length c'] 34)) x y z 34
    rw [e1] at h2
    have hs := hb.size
    simp at hs
    exact ⟨three_below (three_alloc (three_new _ _ _ _ _) (by simp) _) hb (by simp; omega), three_below h2 hb (by simp), (hne x y z).trans (hb.mono (by simp; omega)), own_below (own_alloc1 (own_alloc1 hS _) _) hb, own_below (World.ownsRow.alloc (World.ownsRow.alloc hT _) _) hb, show _ ≤ _ by omega⟩
  have HT0 := Lib.hid hT
  by_cases h1 : errS M a = 0
  · rw [show loadT M tr a = tr ++ [a] from if_pos h1]
    have HS : ∀ {x y z : Value}, Hid (SlotsOwn ((w.alloc (.cells #[.int .i64 M, .slice A L.length c, .slice A' tr.length c'] 34)).alloc (.cells #[x, y, z] 34)) (.slice A L.length c) L) := fun {x y z} => own_alloc1 (own_alloc1 hS _) _
    obtain ⟨i0, hi, hz0, hz1, hz2⟩ := info_parts info64
    rcases hT.2 with ⟨hv, hn⟩ | ⟨g, cap, cur, hv, _⟩
    · obtain ⟨rfl, _, rfl⟩ : A' = none ∧ tr.length = 0 ∧ c' = 0 := by simpa using hv
      have e : tr = [] := List.length_eq_zero_iff.1 hn
      subst e
      clear hv hT hn
      go_enter Tryd.func44, Tryd.ntmps44
      go_wp2_with (first | (go_at_call 63; refine (rPeek_any M _ _ L f a _ hM HS.out hl hf ha).mono ?_; rintro e w1 ⟨rfl, hb⟩; obtain ⟨⟨c0, c1, c2, f0, f1, f2⟩, ⟨d0, d1, d2, g0, g1, g2⟩, HW, HO, HT, HZ⟩ := cl hb; have HC := Lib.hid (cl hb); have cA := fun o => (three_alloc HC.out.1 (by have := HZ.out; omega) o).c2; clear hb) | (at_builtin; refine wpList_append_own_none rfl (.tmp 20) (.tmp 22) 32 rfl (w.heap.size + 2) 23 i0 1 Tryd.underlying32 hi _ 0 [] rfl (World.ownsRow_made w1 #[] 0 HZ.out (Nat.zero_le _) rfl) rfl ?_; have HO1 := Lib.hid (World.ownsRow_made (e := 23) (size := 1) (base := w.heap.size + 2) w1 #[] 0 HZ.out (Nat.zero_le _) rfl); have HB1 := Lib.hid ((Below.refl (w.heap.size + 2) w1).alloc HZ.out (.cells #[] 23)); obtain ⟨w2, hw2⟩ : ∃ w2, w1.alloc (.cells #[] 23) = w2 := ⟨_, rfl⟩; rw [hw2] at HO1 HB1 ⊢; clear hw2) | (at_builtin; refine wpList_append_own _ rfl (.tmp 24) (.tmp 26) 32 rfl (w.heap.size + 2) 23 i0 (.int .u64 0) 1 8 Tryd.underlying32 hi hz0 hz1 hz2 rfl (by decide) _ 0 [] rfl (World.ownsRow.alloc HO1.out _) ⟨w2.heap.size, 0, none⟩ 1 1 [.int .u64 a] rfl rfl (cell_one_new _ _ _) (ints_oneCell .u64 [a]) (by unfold maxLen; omega) (by omega) (by have := HZ.out; have := HB1.out.size; simp; omega) ?_; intro v2 w3 hown2 hgrow2 hnil2; obtain ⟨g3, cap3, rfl⟩ := ownsRow_form hown2 (by omega); have HO2 := Lib.hid hown2; have HB2 := Lib.hid (app_step (Nat.le_trans HZ.out HB1.out.size) hgrow2 (fun k hk => (World.ownsRow.lt HO1.out k hk).1)); clear hown2 hgrow2 hnil2; obtain ⟨k0, k1, k2, m0, m1, m2⟩ := three_below HC.out.1 (HB1.out.trans HB2.out) (by omega); obtain ⟨p0, p1, p2, q0, q1, q2⟩ := three_below HC.out.2.1 (HB1.out.trans HB2.out) (by omega)))
      refine bodyPost_ret (v := .tuple #[.agg #[.int .i64 M, .slice A L.length c, .slice (some ⟨g3, 0, none⟩) (1) cap3], .int .u64 (peekV M f a), .int .i64 0]) ?_ rfl ⟨_, by rw [h1], ?_, Or.inr ?_, ?_⟩
      · rw [results_cell_tmp2 rfl]; go_simp
      · have := row_zero (row_set (row_set (row_set (row_set HO2.out (b := w.heap.size) (by omega) 2 (.slice (some ⟨g3, 0, none⟩) (1) cap3)) (b := w.heap.size + 1) (by omega) 0 (.int .i64 M)) (b := w.heap.size + 1) (by omega) 1 (.slice A L.length c)) (b := w.heap.size + 1) (by omega) 2 (.slice (some ⟨g3, 0, none⟩) (1) cap3))
        simpa [WordsOwn] using this
      · intro i hi
        have := (World.ownsRow.lt HO2.out i (by simpa using hi)).1
        omega
      · exact ((((HW.out.trans ((HB1.out.trans HB2.out).mono (by omega))).setCell (by simp) _).setCell (by simp) _).setCell (by simp) _).setCell (by simp) _
    · obtain ⟨rfl, rfl⟩ : A' = some ⟨g, 0, none⟩ ∧ c' = cap := by simpa using hv
      clear hv hT
      go_enter Tryd.func44, Tryd.ntmps44
      go_wp2_with (first | (go_at_call 63; refine (rPeek_any M _ _ L f a _ hM HS.out hl hf ha).mono ?_; rintro e w1 ⟨rfl, hb⟩; obtain ⟨⟨c0, c1, c2, f0, f1, f2⟩, ⟨d0, d1, d2, g0, g1, g2⟩, HW, HO, HT, HZ⟩ := cl hb; have HC := Lib.hid (cl hb); have cA := fun o => (three_alloc HC.out.1 (by have := HZ.out; omega) o).c2; clear hb) | (at_builtin; refine wpList_append_own _ rfl (.tmp 20) (.tmp 22) 32 rfl (w.heap.size + 2) 23 i0 (.int .u64 0) 1 8 Tryd.underlying32 hi hz0 hz1 hz2 rfl (by decide) _ 0 [] rfl (World.ownsRow_made w1 #[] 0 HZ.out (Nat.zero_le _) rfl) ⟨g, 0, none⟩ tr.length c' (tr.map (Value.int .u64)) rfl (by simp) (fun j u hj => (World.ownsRow.alloc HT.out _).cells rfl j u hj) (ints_oneCell .u64 tr) (by unfold maxLen; omega) (by omega) (by have := HZ.out; simp; omega) ?_; intro v1 w2 hown1 hgrow1 hnil1; have HO1 := Lib.hid hown1; have HB1 := Lib.hid (app_step HZ.out hgrow1 (fun k hk => by have e : w1.heap.size = k := Option.some.inj hk; have := HZ.out; omega)); clear hown1 hgrow1 hnil1) | (at_builtin; refine wpList_append_own _ rfl (.tmp 24) (.tmp 26) 32 rfl (w.heap.size + 2) 23 i0 (.int .u64 0) 1 8 Tryd.underlying32 hi hz0 hz1 hz2 rfl (by decide) v1 _ _ rfl (World.ownsRow.alloc HO1.out _) ⟨w2.heap.size, 0, none⟩ 1 1 [.int .u64 a] rfl rfl (cell_one_new _ _ _) (ints_oneCell .u64 [a]) (by unfold maxLen; omega) (by omega) (by have := HZ.out; have := HB1.out.size; simp; omega) ?_; intro v2 w3 hown2 hgrow2 hnil2; obtain ⟨g3, cap3, rfl⟩ := ownsRow_form hown2 (by omega); have HO2 := Lib.hid hown2; have HB2 := Lib.hid (app_step (Nat.le_trans HZ.out HB1.out.size) hgrow2 (fun k hk => (World.ownsRow.lt HO1.out k hk).1)); clear hown2 hgrow2 hnil2; obtain ⟨k0, k1, k2, m0, m1, m2⟩ := three_below HC.out.1 (HB1.out.trans HB2.out) (by omega); obtain ⟨p0, p1, p2, q0, q1, q2⟩ := three_below HC.out.2.1 (HB1.out.trans HB2.out) (by omega)))
      refine bodyPost_ret (v := .tuple #[.agg #[.int .i64 M, .slice A L.length c, .slice (some ⟨g3, 0, none⟩) (tr.length + 1) cap3], .int .u64 (peekV M f a), .int .i64 0]) ?_ rfl ⟨_, by rw [h1], ?_, Or.inr ?_, ?_⟩
      · rw [results_cell_tmp2 rfl]; go_simp
      · have := row_zero (row_set (row_set (row_set (row_set HO2.out (b := w.heap.size) (by omega) 2 (.slice (some ⟨g3, 0, none⟩) (tr.length + 1) cap3)) (b := w.heap.size + 1) (by omega) 0 (.int .i64 M)) (b := w.heap.size + 1) (by omega) 1 (.slice A L.length c)) (b := w.heap.size + 1) (by omega) 2 (.slice (some ⟨g3, 0, none⟩) (tr.length + 1) cap3))
        simpa [WordsOwn] using this
      · intro i hi
        have := (World.ownsRow.lt HO2.out i (by simpa using hi)).1
        omega
      · exact ((((HW.out.trans ((HB1.out.trans HB2.out).mono (by omega))).setCell (by simp) _).setCell (by simp) _).setCell (by simp) _).setCell (by simp) _
  · rw [loadT_no h1, peekV_no h1]
    have b1 : (errS M a != 0) = true := by simpa using h1
    have HS : ∀ {x y z : Value}, Hid (SlotsOwn ((w.alloc (.cells #[.int .i64 M, .slice A L.length c, .slice A' tr.length c'] 34)).alloc (.cells #[x, y, z] 34)) (.slice A L.length c) L) := fun {x y z} => own_alloc1 (own_alloc1 hS _) _
    clear h1
    go_enter Tryd.func44, Tryd.ntmps44
    go_wp2_with (go_at_call 63; refine (rPeek_any M _ _ L f a _ hM HS.out hl hf ha).mono ?_; rintro e w1 ⟨rfl, hb⟩; obtain ⟨⟨c0, c1, c2, f0, f1, f2⟩, ⟨d0, d1, d2, g0, g1, g2⟩, HW, HO, HT, HZ⟩ := cl hb; clear hb)
    refine bodyPost_ret (v := .tuple #[.agg #[.int .i64 M, .slice A L.length c, .slice A' tr.length c'], .int .u64 0, .int .i64 (errS M a)]) ?_ rfl ⟨_, rfl, ?_, Or.inl rfl, ?_⟩
    · rw [results_cell_tmp2 rfl]; go_simp
    · exact words_set HT0.out (words_set HT0.out (words_set HT0.out HT.out (by omega) _ _) (by omega) _ _) (by omega) _ _
    · exact ((HW.out.setCell (by simp) _).setCell (by simp) _).setCell (by simp) _

end Go.Proofs.YtlpjbmlkpmhdlaaDoor
