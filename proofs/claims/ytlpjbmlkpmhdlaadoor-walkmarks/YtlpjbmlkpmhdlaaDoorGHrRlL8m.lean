/- Several texts of ours in one: Hr, Rl, L8m. -/
import Derived.Test.YtlpjbmlkpmhdlaaDoorGHuSoSh
import Derived.Test.YtlpjbmlkpmhdlaaDoorGL4wL4bL4c
import Derived.Test.YtlpjbmlkpmhdlaaDoorGRfSmHe
import Derived.Laws.AppendOwnNone
import Derived.Laws.ResultCell
import Derived.Deep.Cut
/- Two memories beside each other. -/
namespace Go.Proofs.YtlpjbmlkpmhdlaaDoor
set_option linter.unusedVariables false
set_option linter.unusedSimpArgs false
open Go.ChangeShapes Go.WideShapes Go.ChangeAt Go.RowKit Go.Joins

/-- a memory beside another one, of which the blocks are G -/
structure Bes (wr : World) (G H : Nat → Prop) (m : Nat) (f : Int → Int) (tr : List Int) (n : Nat) : Prop where
  mem : Mem wr H m 16 f tr n
  lt : ∀ i, H i → i < wr.heap.size
  free : ∀ i, H i → ¬ G i

section
variable {w wr w3 w4 : World} {F G G' H : Nat → Prop} {m m' : Nat} {M : Int} {f f' : Int → Int} {tr tr' : List Int} {n n' : Nat}
theorem Bes.quiet (h : Bes wr G H m f tr n) (hb : Below wr.heap.size wr w3) : Bes w3 G H m f tr n := ⟨h.mem.kept hb, fun i hi => Nat.lt_of_lt_of_le (h.lt i hi) hb.size, h.free⟩
theorem Bes.step (h : Bes wr G H m f tr n) (k : Wk wr w4 G m' M f' tr' n' G') : Bes w4 G' H m f tr n :=
  ⟨h.mem.turned k.turn (fun i _ hi hg => h.free i hi hg), fun i hi => Nat.lt_of_lt_of_le (h.lt i hi) k.turn.size, fun i hi => k.free (h.free i hi) (h.lt i hi)⟩
theorem Bes.new (hw : Wk w wr F m' M f' tr' n' G) (h : Mem w3 (From wr.heap.size) m 16 f tr n) : Bes w3 G (Foot wr.heap.size w3.heap.size) m f tr n :=
  ⟨h.foot, fun i hi => hi.2, fun i hi hg => by have := (hw.foot i hg).1; have := hi.1; omega⟩
end

theorem Mem.all {w : World} {F : Nat → Prop} {m : Nat} {M : Int} {f : Int → Int} {tr : List Int} {n : Nat} (h : Mem w F m M f tr n) : Mem w (fun _ => True) m M f tr n := h.mono fun _ _ => trivial

/-- both memories, the copy, the path and the list of what differs -/
structure Mks (w wr : World) (b : Nat) (v : Value) (P : Pth) (m m0 m1 : Nat) (f g : Int → Int) (tr : List Int) (n : Nat) (vd : Value) (ds : List Int) : Prop where
  box : Blk wr b (pathCells v P) 38
  steps : StepsIn wr v P.steps
  mem : Mem wr (fun _ => True) m 16 g tr n
  was : Mem wr (fun _ => True) m0 16 f [] 100
  once : Mem wr (fun _ => True) m1 16 g [] n
  dif : WordsOwn wr vd ds
  below : Below w.heap.size w wr

theorem Mks.quiet {w wr w3 : World} {b : Nat} {v : Value} {P : Pth} {m m0 m1 : Nat} {f g : Int → Int} {tr : List Int} {n : Nat} {vd : Value} {ds : List Int} (h : Mks w wr b v P m m0 m1 f g tr n vd ds) (hb : Below wr.heap.size wr w3) : Mks w w3 b v P m m0 m1 f g tr n vd ds :=
  ⟨h.box.below hb, h.steps.below hb, h.mem.kept hb, h.was.kept hb, h.once.kept hb, own_below h.dif hb, h.below.trans (hb.mono h.below.size)⟩

theorem dif_len {f g : Int → Int} {ds : List Int} (h : IsDif f g ds) (hb : ∀ x, Dif f g x → 0 ≤ x ∧ x < 65536) : ds.length ≤ 65536 :=
  nodup_len 65536 ds (h.1.imp (fun h => by omega)) (fun x hx => hb x ((h.2 x).1 hx))
end Go.Proofs.YtlpjbmlkpmhdlaaDoor
/- Contracts of package dormerref04: Get, Load. -/
namespace Go.Proofs.YtlpjbmlkpmhdlaaDoor
set_option linter.unusedVariables false
set_option linter.unusedSimpArgs false
open Go.ChangeShapes Go.WideShapes Go.ChangeAt Go.RowKit Go.Joins

theorem results_cell_tmp2 {fn : Func} {p u x : Tmp} {ty : TypeId} (h : fn.results = #[.cell p ty, .tmp u, .tmp x]) (tmps : Array Value) (P : Program) (w : World) :
    (results fn tmps).run P w =
      ((asAddr (tmps.getD p undef)).run P w).andThen fun a w₁ => ((loadVar ty a).run P w₁).andThen fun v w₂ => .ok (.tuple #[v, tmps.getD u undef, tmps.getD x undef]) w₂ := by
  simp only [results, h]
  simp [Sem.run_bind, Result.andThen]

theorem results_cell1 {fn : Func} {p : Tmp} {ty : TypeId} (h : fn.results = #[.cell p ty]) (tmps : Array Value) (P : Program) (w : World) :
    (results fn tmps).run P w = ((asAddr (tmps.getD p undef)).run P w).andThen fun a w₁ => (loadVar ty a).run P w₁ := by
  simp only [results, h]
  simp [Sem.run_bind]

/-- a block of three cells, as it was laid, in a later world -/
structure Three (w : World) (b : Nat) (x y z : Value) : Prop where
  c0 : w.cell? ⟨b, 0, none⟩ = some x
  c1 : w.cell? ⟨b, 1, none⟩ = some y
  c2 : w.cell? ⟨b, 2, none⟩ = some z
  f0 : w.frozen? ⟨b, 0, none⟩ = false
  f1 : w.frozen? ⟨b, 1, none⟩ = false
  f2 : w.frozen? ⟨b, 2, none⟩ = false

theorem three_of {w : World} {b : Nat} {x y z : Value} {t : TypeId} (h : w.heap[b]? = some (.cells #[x, y, z] t (0, 0))) : Three w b x y z := by
  constructor <;> simp [World.cell?, World.frozen?, h]
theorem three_block {w w' : World} {b : Nat} {x y z : Value} (h : Three w b x y z) (e : w'.heap[b]? = w.heap[b]?) : Three w' b x y z :=
  ⟨(World.cell?_of_block (a := ⟨b, 0, none⟩) e).trans h.c0, (World.cell?_of_block (a := ⟨b, 1, none⟩) e).trans h.c1, (World.cell?_of_block (a := ⟨b, 2, none⟩) e).trans h.c2, (World.frozen?_of_block (a := ⟨b, 0, none⟩) e).trans h.f0, (World.frozen?_of_block (a := ⟨b, 1, none⟩) e).trans h.f1, (World.frozen?_of_block (a := ⟨b, 2, none⟩) e).trans h.f2⟩
theorem three_below {w w' : World} {b B : Nat} {x y z : Value} (h : Three w b x y z) (hb : Below B w w') (hB : b < B) : Three w' b x y z := three_block h (hb.block b hB)
theorem three_new (w : World) (x y z : Value) (t : TypeId) : Three (w.alloc (.cells #[x, y, z] t)) w.heap.size x y z := three_of (Deep.blk_alloc_new _ _)
theorem three_alloc {w : World} {b : Nat} {x y z : Value} (h : Three w b x y z) (hb : b < w.heap.size) (o : Obj) : Three (w.alloc o) b x y z := three_block h (Deep.blk_alloc_lt _ _ _ hb)

/-- v' is v, or new behind w -/
def NewOr (w : World) (v v' : Value) : Prop := v' = v ∨ ∀ i, v'.ownBlock = some i → w.heap.size ≤ i

theorem words_set {w w1 : World} {v : Value} {tr : List Int} (hT : WordsOwn w v tr) (h1 : WordsOwn w1 v tr) {b : Nat} (hb : w.heap.size ≤ b) (i : Nat) (u : Value) : WordsOwn (w1.setCell ⟨b, i, none⟩ u) v tr :=
  ownsRow_setCell_other h1 (fun e => by have := (World.ownsRow.lt hT _ e).2; simp at this; omega) u
theorem app_step {w1 w2 : World} {B : Nat} {o : Obj} {row : Option Nat} (hz : B ≤ w1.heap.size) (hg : (w1.alloc o).grownBy w2 row) (hr : ∀ k, row = some k → B ≤ k) : Below B w1 w2 :=
  ((Below.refl _ w1).alloc hz o).grown hg (by simp; omega) hr
theorem row_set {w1 : World} {base : Nat} {e : TypeId} {size : Nat} {v : Value} {n : Nat} {xs : List Value} (h : w1.ownsRow base e size v n xs) {b : Nat} (hb : b < base) (i : Nat) (u : Value) : (w1.setCell ⟨b, i, none⟩ u).ownsRow base e size v n xs := ownsRow_setCell_below (a := ⟨b, i, none⟩) h hb u
theorem row_zero {w1 : World} {base : Nat} {e : TypeId} {size : Nat} {v : Value} {n : Nat} {xs : List Value} (h : w1.ownsRow base e size v n xs) : w1.ownsRow 0 e size v n xs := by
  refine ⟨h.1, ?_⟩
  rcases h.2 with hn | ⟨g, cap, cur, hv, _, r⟩
  · exact Or.inl hn
  · exact Or.inr ⟨g, cap, cur, hv, Nat.zero_le _, r⟩

theorem loadT_no {M : Int} {tr : List Int} {a : Int} (h : errS M a ≠ 0) : loadT M tr a = tr := if_neg h
theorem peekV_no {M : Int} {f : Int → Int} {a : Int} (h : errS M a ≠ 0) : peekV M f a = 0 := if_neg h

set_option maxRecDepth 100000 in
set_option maxHeartbeats 1000000 in
theorem rLoad_any (M : Int) (vs vt : Value) (L : List (Int × Int)) (tr : List Int) (f : Int → Int) (a : Int) (w : World) (hM : 14 ≤ M ∧ M ≤ 22) (hS : SlotsOwn w vs L) (hl : L.length < 1000000) (hT : WordsOwn w vt tr) (ht : tr.length < 1000000) (hf : Agree f L) (ha : W64 a) :
    Calls Tryd.prog 44 #[.agg #[.int .i64 M, vs, vt], .int .u64 a] w fun e w' => ∃ vt', e = .returned (.tuple #[.agg #[.int .i64 M, vs, vt'], .int .u64 (peekV M f a), .int .i64 (errS M a)]) ∧ WordsOwn w' vt' (loadT M tr a) ∧ NewOr w vt vt' ∧ Below w.heap.size w w' := by
  obtain ⟨A, c, rfl, _⟩ := hS.form
  obtain ⟨A', c', rfl⟩ := own_len hT
  have hne : ∀ (x y z : Value), Below w.heap.size w ((w.alloc (.cells #[.int .i64 M, .slice A L.length c, .slice A' tr.length c'] 34)).alloc (.cells #[x, y, z] 34)) := fun x y z => ((Below.refl _ w).alloc (Nat.le_refl _) _).alloc (by simp) _
  have cl : ∀ {x y z : Value} {w1 : World}, Below ((w.alloc (.cells #[.int .i64 M, .slice A L.length c, .slice A' tr.length c'] 34)).alloc (.cells #[x, y, z] 34)).heap.size ((w.alloc (.cells #[.int .i64 M, .slice A L.length c, .slice A' tr.length c'] 34)).alloc (.cells #[x, y, z] 34)) w1 →
      Three w1 w.heap.size (.int .i64 M) (.slice A L.length c) (.slice A' tr.length c') ∧ Three w1 (w.heap.size + 1) x y z ∧ Hid (Below w.heap.size w w1) ∧ Hid (SlotsOwn w1 (.slice A L.length c) L) ∧ Hid (WordsOwn w1 (.slice A' tr.length c') tr) ∧ Hid (w.heap.size + 2 ≤ w1.heap.size) := fun {x y z w1} hb => by
    have e1 : (w.alloc (.cells #[.int .i64 M, .slice A L.length c, .slice A' tr.length c'] 34)).heap.size = w.heap.size + 1 := by simp
    have h2 := three_new (w.alloc (.cells #[.int .i64 M, .slice A L.length c, .slice A' tr.length c'] 34)) x y z 34
    rw [e1] at h2
    have hs := hb.size
    simp at hs
    exact ⟨three_below (three_alloc (three_new _ _ _ _ _) (by simp) _) hb (by simp; omega), three_below h2 hb (by simp), (hne x y z).trans (hb.mono (by simp; omega)), own_below (own_alloc1 (own_alloc1 hS _) _) hb, own_below (World.ownsRow.alloc (World.ownsRow.alloc hT _) _) hb, show _ ≤ _ by omega⟩
  have HT0 := Lib.hid hT
  by_cases h1 : errS M a = 0
  · rw [show loadT M tr a = tr ++ [a] from if_pos h1]
    have HS : ∀ {x y z : Value}, Hid (SlotsOwn ((w.alloc (.cells #[.int .i64 M, .slice A L.length c, .slice A' tr.length c'] 34)).alloc (.cells #[x, y, z] 34)) (.slice A L.length c) L) := fun {x y z} => own_alloc1 (own_alloc1 hS _) _
    obtain ⟨i0, hi, hz0, hz1, hz2⟩ := info_parts info64
    rcases hT.2 with ⟨hv, hn⟩ | ⟨g, cap, cur, hv, _⟩
    · obtain ⟨rfl, _, rfl⟩ : A' = none ∧ tr.length = 0 ∧ c' = 0 := by simpa using hv
      have e : tr = [] := List.length_eq_zero_iff.1 hn
      subst e
      clear hv hT hn
      go_enter Tryd.func44, Tryd.ntmps44
      go_wp2_with (first | (go_at_call 63; refine (rPeek_any M _ _ L f a _ hM HS.out hl hf ha).mono ?_; rintro e w1 ⟨rfl, hb⟩; obtain ⟨⟨c0, c1, c2, f0, f1, f2⟩, ⟨d0, d1, d2, g0, g1, g2⟩, HW, HO, HT, HZ⟩ := cl hb; have HC := Lib.hid (cl hb); have cA := fun o => (three_alloc HC.out.1 (by have := HZ.out; omega) o).c2; clear hb) | (at_builtin; refine wpList_append_own_none rfl (.tmp 20) (.tmp 22) 32 rfl (w.heap.size + 2) 23 i0 1 Tryd.underlying32 hi _ 0 [] rfl (World.ownsRow_made w1 #[] 0 HZ.out (Nat.zero_le _) rfl) rfl ?_; have HO1 := Lib.hid (World.ownsRow_made (e := 23) (size := 1) (base := w.heap.size + 2) w1 #[] 0 HZ.out (Nat.zero_le _) rfl); have HB1 := Lib.hid ((Below.refl (w.heap.size + 2) w1).alloc HZ.out (.cells #[] 23)); obtain ⟨w2, hw2⟩ : ∃ w2, w1.alloc (.cells #[] 23) = w2 := ⟨_, rfl⟩; rw [hw2] at HO1 HB1 ⊢; clear hw2) | (at_builtin; refine wpList_append_own _ rfl (.tmp 24) (.tmp 26) 32 rfl (w.heap.size + 2) 23 i0 (.int .u64 0) 1 8 Tryd.underlying32 hi hz0 hz1 hz2 rfl (by decide) _ 0 [] rfl (World.ownsRow.alloc HO1.out _) ⟨w2.heap.size, 0, none⟩ 1 1 [.int .u64 a] rfl rfl (cell_one_new _ _ _) (ints_oneCell .u64 [a]) (by unfold maxLen; omega) (by omega) (by have := HZ.out; have := HB1.out.size; simp; omega) ?_; intro v2 w3 hown2 hgrow2 hnil2; obtain ⟨g3, cap3, rfl⟩ := ownsRow_form hown2 (by omega); have HO2 := Lib.hid hown2; have HB2 := Lib.hid (app_step (Nat.le_trans HZ.out HB1.out.size) hgrow2 (fun k hk => (World.ownsRow.lt HO1.out k hk).1)); clear hown2 hgrow2 hnil2; obtain ⟨k0, k1, k2, m0, m1, m2⟩ := three_below HC.out.1 (HB1.out.trans HB2.out) (by omega); obtain ⟨p0, p1, p2, q0, q1, q2⟩ := three_below HC.out.2.1 (HB1.out.trans HB2.out) (by omega)))
      refine bodyPost_ret (v := .tuple #[.agg #[.int .i64 M, .slice A L.length c, .slice (some ⟨g3, 0, none⟩) (1) cap3], .int .u64 (peekV M f a), .int .i64 0]) ?_ rfl ⟨_, by rw [h1], ?_, Or.inr ?_, ?_⟩
      · rw [results_cell_tmp2 rfl]; go_simp
      · have := row_zero (row_set (row_set (row_set (row_set HO2.out (b := w.heap.size) (by omega) 2 (.slice (some ⟨g3, 0, none⟩) (1) cap3)) (b := w.heap.size + 1) (by omega) 0 (.int .i64 M)) (b := w.heap.size + 1) (by omega) 1 (.slice A L.length c)) (b := w.heap.size + 1) (by omega) 2 (.slice (some ⟨g3, 0, none⟩) (1) cap3))
        simpa [WordsOwn] using this
      · intro i hi
        have := (World.ownsRow.lt HO2.out i (by simpa using hi)).1
        omega
      · exact ((((HW.out.trans ((HB1.out.trans HB2.out).mono (by omega))).setCell (by simp) _).setCell (by simp) _).setCell (by simp) _).setCell (by simp) _
    · obtain ⟨rfl, rfl⟩ : A' = some ⟨g, 0, none⟩ ∧ c' = cap := by simpa using hv
      clear hv hT
      go_enter Tryd.func44, Tryd.ntmps44
      go_wp2_with (first | (go_at_call 63; refine (rPeek_any M _ _ L f a _ hM HS.out hl hf ha).mono ?_; rintro e w1 ⟨rfl, hb⟩; obtain ⟨⟨c0, c1, c2, f0, f1, f2⟩, ⟨d0, d1, d2, g0, g1, g2⟩, HW, HO, HT, HZ⟩ := cl hb; have HC := Lib.hid (cl hb); have cA := fun o => (three_alloc HC.out.1 (by have := HZ.out; omega) o).c2; clear hb) | (at_builtin; refine wpList_append_own _ rfl (.tmp 20) (.tmp 22) 32 rfl (w.heap.size + 2) 23 i0 (.int .u64 0) 1 8 Tryd.underlying32 hi hz0 hz1 hz2 rfl (by decide) _ 0 [] rfl (World.ownsRow_made w1 #[] 0 HZ.out (Nat.zero_le _) rfl) ⟨g, 0, none⟩ tr.length c' (tr.map (Value.int .u64)) rfl (by simp) (fun j u hj => (World.ownsRow.alloc HT.out _).cells rfl j u hj) (ints_oneCell .u64 tr) (by unfold maxLen; omega) (by omega) (by have := HZ.out; simp; omega) ?_; intro v1 w2 hown1 hgrow1 hnil1; have HO1 := Lib.hid hown1; have HB1 := Lib.hid (app_step HZ.out hgrow1 (fun k hk => by have e : w1.heap.size = k := Option.some.inj hk; have := HZ.out; omega)); clear hown1 hgrow1 hnil1) | (at_builtin; refine wpList_append_own _ rfl (.tmp 24) (.tmp 26) 32 rfl (w.heap.size + 2) 23 i0 (.int .u64 0) 1 8 Tryd.underlying32 hi hz0 hz1 hz2 rfl (by decide) v1 _ _ rfl (World.ownsRow.alloc HO1.out _) ⟨w2.heap.size, 0, none⟩ 1 1 [.int .u64 a] rfl rfl (cell_one_new _ _ _) (ints_oneCell .u64 [a]) (by unfold maxLen; omega) (by omega) (by have := HZ.out; have := HB1.out.size; simp; omega) ?_; intro v2 w3 hown2 hgrow2 hnil2; obtain ⟨g3, cap3, rfl⟩ := ownsRow_form hown2 (by omega); have HO2 := Lib.hid hown2; have HB2 := Lib.hid (app_step (Nat.le_trans HZ.out HB1.out.size) hgrow2 (fun k hk => (World.ownsRow.lt HO1.out k hk).1)); clear hown2 hgrow2 hnil2; obtain ⟨k0, k1, k2, m0, m1, m2⟩ := three_below HC.out.1 (HB1.out.trans HB2.out) (by omega); obtain ⟨p0, p1, p2, q0, q1, q2⟩ := three_below HC.out.2.1 (HB1.out.trans HB2.out) (by omega)))
      refine bodyPost_ret (v := .tuple #[.agg #[.int .i64 M, .slice A L.length c, .slice (some ⟨g3, 0, none⟩) (tr.length + 1) cap3], .int .u64 (peekV M f a), .int .i64 0]) ?_ rfl ⟨_, by rw [h1], ?_, Or.inr ?_, ?_⟩
      · rw [results_cell_tmp2 rfl]; go_simp
      · have := row_zero (row_set (row_set (row_set (row_set HO2.out (b := w.heap.size) (by omega) 2 (.slice (some ⟨g3, 0, none⟩) (tr.length + 1) cap3)) (b := w.heap.size + 1) (by omega) 0 (.int .i64 M)) (b := w.heap.size + 1) (by omega) 1 (.slice A L.length c)) (b := w.heap.size + 1) (by omega) 2 (.slice (some ⟨g3, 0, none⟩) (tr.length + 1) cap3))
        simpa [WordsOwn] using this
      · intro i hi
        have := (World.ownsRow.lt HO2.out i (by simpa using hi)).1
        omega
      · exact ((((HW.out.trans ((HB1.out.trans HB2.out).mono (by omega))).setCell (by simp) _).setCell (by simp) _).setCell (by simp) _).setCell (by simp) _
  · rw [loadT_no h1, peekV_no h1]
    have b1 : (errS M a != 0) = true := by simpa using h1
    have HS : ∀ {x y z : Value}, Hid (SlotsOwn ((w.alloc (.cells #[.int .i64 M, .slice A L.length c, .slice A' tr.length c'] 34)).alloc (.cells #[x, y, z] 34)) (.slice A L.length c) L) := fun {x y z} => own_alloc1 (own_alloc1 hS _) _
    clear h1
    go_enter Tryd.func44, Tryd.ntmps44
    go_wp2_with (go_at_call 63; refine (rPeek_any M _ _ L f a _ hM HS.out hl hf ha).mono ?_; rintro e w1 ⟨rfl, hb⟩; obtain ⟨⟨c0, c1, c2, f0, f1, f2⟩, ⟨d0, d1, d2, g0, g1, g2⟩, HW, HO, HT, HZ⟩ := cl hb; clear hb)
    refine bodyPost_ret (v := .tuple #[.agg #[.int .i64 M, .slice A L.length c, .slice A' tr.length c'], .int .u64 0, .int .i64 (errS M a)]) ?_ rfl ⟨_, rfl, ?_, Or.inl rfl, ?_⟩
    · rw [results_cell_tmp2 rfl]; go_simp
    · exact words_set HT0.out (words_set HT0.out (words_set HT0.out HT.out (by omega) _ _) (by omega) _ _) (by omega) _ _
    · exact ((HW.out.setCell (by simp) _).setCell (by simp) _).setCell (by simp) _

end Go.Proofs.YtlpjbmlkpmhdlaaDoor
/- The walk of WalkMarks. -/
namespace Go.Proofs.YtlpjbmlkpmhdlaaDoor
set_option linter.unusedVariables false
set_option linter.unusedSimpArgs false
open Go.ChangeShapes Go.WideShapes Go.ChangeAt Go.RowKit Go.Joins

theorem drewN_below8 (v : World) (n : Nat) {B : Nat} : Below B v (v.drewN n) := ⟨rfl, rfl, rfl, Nat.le_refl _, fun _ _ => rfl⟩

theorem getD_mem8 {l : List Int} {j : Nat} (h : j < l.length) : l.getD j 0 ∈ l := by
  rw [show l.getD j 0 = l[j] by simp [List.getD, h]]
  exact List.getElem_mem h

/-- what the list of what differs holds -/
theorem dif_step {f : Int → Int} {P : Pth} {full : Bool} (hP : Snd f 4 P) (hw : ∀ s, W64 (f s)) {x : Int} (hx : Dif f (markN 16 f P.steps full P.steps.length) x) :
    ∃ i, i < P.steps.length ∧ (stepAt P.steps i).2.1 = x ∧ errS 16 x = 0 ∧ 0 ≤ x ∧ x < 65536 := by
  obtain ⟨i, hi, he, hj⟩ := mark_own (M := 16) (S := P.steps) (full := full) P.steps.length (fun e => hx.2 e.symm)
  have h1 := (errS_in he).2
  have h2 := hx.1
  have e : (stepAt P.steps i).2.1 = x := by omega
  have h3 := (errS_in he).1
  have h4 : sizeM 16 = 65536 := by decide
  have h5 := (hP.at_ i hi).2.2
  exact ⟨i, hi, e, e ▸ he, by omega, by omega⟩

set_option maxRecDepth 100000 in
set_option maxHeartbeats 1600000 in
theorem walkMarks_walk (A : Option Addr) (c : Nat) (ds : List (Int × Int × Int × Int)) (n : Int) (dirty : Bool) (w : World) (hs : Shifts w) (hl : ds.length ≤ maxLen) (hd : PutsIn w A ds) (hok : PutsOk ds) (n0 : 0 ≤ n) (n1 : n < 4294967296) :
    Calls Tryd.prog 8 #[.slice A ds.length c, .int .u32 n, .bool dirty] w fun e w' => e = .returned (.bool true) ∧ Below w.heap.size w w' := by
  have HS := Lib.hid hs
  have hz := size_shifts hs
  have HD := Lib.hid hd
  have HN := Lib.hid (⟨n0, n1⟩ : 0 ≤ n ∧ n < 4294967296)
  clear hs hd n0 n1
  obtain ⟨f, hf⟩ : ∃ f, putSt ds (mostP ds) = f := ⟨_, rfl⟩
  have HB := Lib.hid (fun w1 hb => built_any w1 A c ds hl (puts_below HD.out hb) hok)
  rw [hf] at HB
  clear hf hok HD
  go_enter Tryd.func8, Tryd.ntmps8
  go_upto_region 7 with (first | (go_at_call 9; refine (awake8_any _ HS.out).mono ?_; rintro e w1 ⟨rfl, hB1⟩; have HB1 := Lib.hid hB1; clear hB1) | (go_at_call 10; refine (HB.out _ HB1.out).mono ?_; rintro e w2 ⟨rfl, hM2, hB2⟩; have HW2 := Lib.hid (Wk.made hM2 (HB1.out.trans (hB2.mono HB1.out.size)) HB1.out.size); have HS2 := Lib.hid (shifts_under HS.out (HB1.out.trans (hB2.mono HB1.out.size)) hz); clear hM2 hB2 HB) | (go_at_call 30; refine (copy_mem HW2.out.mem (by decide)).mono ?_; rintro e w9 ⟨rfl, hC9, hB9⟩; have HC9 := Lib.hid (Bes.new HW2.out hC9); have HW9 := Lib.hid (HW2.out.quiet hB9); have HS9 := Lib.hid (shifts_under HS2.out hB9 (size_shifts HS2.out)); clear hC9 hB9 HW2 HS2) | (go_at_call 26; refine (near_any _ _ HN.out.1 HN.out.2).mono ?_; rintro e w' ⟨rfl, rfl⟩) | (go_at_call 19; refine (top_any _ _ w0).mono ?_; rintro e w3 ⟨rfl, hB3⟩; have HW3 := Lib.hid (HW9.out.quiet hB3); have HC3 := Lib.hid (HC9.out.quiet hB3); have HS3 := Lib.hid (shifts_under HS9.out hB3 (size_shifts HS9.out)); clear hB3) | (go_at_call 12; refine (from_any HW3.out.mem (by decide) (HW3.out.no0 hz) HS3.out 4 (tableF 0) (nearF n) true true true true (w64_table _) (near_w n)).mono ?_; obtain ⟨P, hP⟩ : ∃ P, walkZ 16 f (nearF n) true 4 (tableF 0) true true true = P := ⟨_, rfl⟩; have HP1 := Lib.hid (walk_snd f HW3.out.mem.words (nearF n) true 4 (by decide) (tableF 0) true true true); have HWd := Lib.hid HW3.out.mem.words; rw [show ((4 : Nat) : Int) = 4 from rfl] at HP1; rw [hP] at HP1 ⊢; clear hP; rintro e w4 ⟨v, G, rfl, hW4, hS4, hn4, hsh4⟩; obtain ⟨A4, c4, rfl⟩ := hS4.form; have HW4 := Lib.hid (HW3.out.join hW4); have HC4 := Lib.hid (HC3.out.step hW4); have HS4 := Lib.hid (hS4.down (Nat.le_trans HW3.out.turn.size (Nat.le_add_right _ 3))); have HN4 := Lib.hid hn4; clear hW4 hS4 hn4 hsh4))
  have HSW := Lib.hid (Scn.new HW4.out HS4.out HN4.out)
  have HCn := Lib.hid (HC4.out.quiet (below_alloc1 w4 (.cells (pathCells (.slice A4 P.steps.length c4) P) 38)))
  generalize hb4 : w4.heap.size = b at *
  clear hb4
  generalize hw5 : w4.alloc _ = w5
  have HSc5 : Hid (Scn w w5 b (.slice A4 P.steps.length c4) P G) := Lib.hid (by rw [← hw5]; exact HSW.out.1)
  have HW5 : Hid (Wk w w5 (From w.heap.size) (w1.heap.size + 1) 16 f ([] ++ slotsP P.steps) (100 + 5) G) := Lib.hid (by rw [← hw5]; exact HSW.out.2)
  have HC5 : Hid (Bes w5 G (Foot w2.heap.size w9.heap.size) (w2.heap.size + 1) f [] 100) := Lib.hid (by rw [← hw5]; exact HCn.out)
  clear hw5 HSW HCn HW4 HS4 HC4 HN4 HW3 HC3 HS3 HW9 HC9 HS9 HB1 HS
  have hlen := HP1.out.len
  obtain ⟨L, hL⟩ : ∃ L, P.steps.length = L := ⟨_, rfl⟩
  rw [hL] at HSc5 hlen
  have HL := Lib.hid hL
  have HWs : Hid (∀ k, k < L → W64 (stepAt P.steps k).2.1) := Lib.hid (fun k hk => slot_w8 (HP1.out.at_ k (by rw [hL]; exact hk)).1 (HP1.out.at_ k (by rw [hL]; exact hk)).2.2)
  try rw [hL]
  clear hL
  obtain ⟨m, hm⟩ : ∃ m, w1.heap.size + 1 = m := ⟨_, rfl⟩
  obtain ⟨m0, hm0⟩ : ∃ m0, w2.heap.size + 1 = m0 := ⟨_, rfl⟩
  obtain ⟨H0, hH0⟩ : ∃ H0, Foot w2.heap.size w9.heap.size = H0 := ⟨_, rfl⟩
  rw [hm] at HW5
  rw [hm0, hH0] at HC5
  rw [hm, hm0]
  clear hm hm0 hH0
  obtain ⟨p0, p1, p2, p3, p4, p5, p6⟩ := HSc5.out.box.seven
  obtain ⟨g, hg⟩ : ∃ g, markN 16 f P.steps (dirty && decide (P.why = 0)) L = g := ⟨_, rfl⟩
  have HG := Lib.hid hg
  go_upto_region 8 with (first | (go_at_call 17; refine (mark_any HW5.out.mem A4 L c4 P.steps HL.out (HSc5.out.own.down (Nat.zero_le _)) HSc5.out.nv (by omega) (by decide) HWs.out P.why P.W P.U P.X P.lev P.fr dirty).mono ?_; rw [hg]; rintro e w6 ⟨rfl, G6, hW6⟩; have HW6 := Lib.hid (HW5.out.join hW6); have HC6 := Lib.hid (HC5.out.step hW6); have HSc6 := Lib.hid (HSc5.out.step hW6); clear hW6 HW5 HC5 HSc5 p0 p1 p2 p3 p4 p5 p6))
  go_upto_region 9 with (first | (go_at_call 30; refine (copy_mem HW6.out.mem (by omega)).mono ?_; rintro e w7 ⟨rfl, hC7, hB7⟩; have HD7 := Lib.hid (Bes.new HW6.out hC7); have HC7 := Lib.hid (HC6.out.quiet hB7); have HW7 := Lib.hid (HW6.out.quiet hB7); have HSc7 := Lib.hid (HSc6.out.quiet hB7); clear hC7 hB7 HW6 HC6 HSc6))
  obtain ⟨m1, hm1⟩ : ∃ m1, w6.heap.size + 1 = m1 := ⟨_, rfl⟩
  obtain ⟨H1, hH1⟩ : ∃ H1, Foot w6.heap.size w7.heap.size = H1 := ⟨_, rfl⟩
  rw [hm1, hH1] at HD7
  rw [hm1]
  clear hm1 hH1
  have HT : Hid (markN 16 g P.steps (dirty && decide (P.why = 0)) L = g) := Lib.hid (by rw [← HG.out, ← HL.out]; exact mark_twice HWd.out)
  clear hg
  obtain ⟨p0, p1, p2, p3, p4, p5, p6⟩ := HSc7.out.box.seven
  go_upto_region 10 with (first | (go_at_call 17; refine (mark_any HW7.out.mem A4 L c4 P.steps HL.out (HSc7.out.own.down (Nat.zero_le _)) HSc7.out.nv (by omega) (by omega) HWs.out P.why P.W P.U P.X P.lev P.fr dirty).mono ?_; rw [HT.out]; rintro e w8 ⟨rfl, G8, hW8⟩; have HW8 := Lib.hid (HW7.out.join hW8); have HC8 := Lib.hid (HC7.out.step hW8); have HD8 := Lib.hid (HD7.out.step hW8); have HSc8 := Lib.hid (HSc7.out.step hW8); clear hW8 HW7 HC7 HD7 HSc7 p0 p1 p2 p3 p4 p5 p6 HT))
  go_upto_region 11 with (first | (go_at_call 31; refine (diff_mem HC8.out.mem HW8.out.mem (by decide) (by omega)).mono ?_; rintro e w10 ⟨Ad, cd, es, rfl, hLs, hI, hBd⟩; have HI := Lib.hid hI; have HM : Hid (Mks w w10 b (.slice A4 L c4) P m m0 m1 f g ([] ++ slotsP P.steps) (100 + 5 + L + L) (.slice Ad es.length cd) es) := Lib.hid ⟨HSc8.out.box.below hBd, HSc8.out.own.into.below hBd, HW8.out.mem.all.kept hBd, HC8.out.mem.all.kept hBd, (HD8.out.mem.all.kept hBd).more (by omega), row_zero hLs, HW8.out.belowW.trans (hBd.mono HW8.out.belowW.size)⟩; clear hI hLs hBd HW8 HC8 HD8 HSc8))
  have HDf : Hid (∀ x, Dif f g x → ∃ i, i < L ∧ (stepAt P.steps i).2.1 = x ∧ errS 16 x = 0 ∧ 0 ≤ x ∧ x < 65536) := Lib.hid (by
    intro x hx
    rw [← HG.out, ← HL.out] at hx
    rw [← HL.out]
    exact dif_step HP1.out HWd.out hx)
  have hel : es.length ≤ 65536 := dif_len HI.out (fun x hx => by obtain ⟨i, _, _, _, h⟩ := HDf.out x hx; exact h)
  have HU : Hid (Up f g) := Lib.hid (by rw [← HG.out]; exact mark_up HWd.out _)
  have HH : Hid (∀ k, k < L → errS 16 (stepAt P.steps k).2.1 = 0 ∧ (bits .and .u64 (g ((stepAt P.steps k).2.1 / 8)) 32 == 0) = false ∧ ((dirty && decide (P.why = 0)) = true → k + 1 = L → (bits .and .u64 (g ((stepAt P.steps k).2.1 / 8)) 64 == 0) = false)) := Lib.hid (by
    intro k hk
    have he := (HP1.out.at_ k (by rw [HL.out]; exact hk)).1
    have hh := mark_has (full := dirty && decide (P.why = 0)) HWd.out hk he
    rw [HG.out, HL.out] at hh
    exact ⟨he, and_not0 (HU.out.w _) hh.1, fun h1 h2 => and_not1 (HU.out.w _) (hh.2 h1 h2)⟩)
  clear HG
  go_wp2
  go_loopw [13] (fun i wr => ∃ j : Nat, j ≤ es.length ∧ i = .int .i64 j ∧ Mks w wr b (.slice A4 L c4) P m m0 m1 f g ([] ++ slotsP P.steps) (100 + 5 + L + L) (.slice Ad es.length cd) es) (fun i _ => (es.length - intOf i).toNat)
  case atStart => exact ⟨0, by omega, rfl, HM.out⟩
  case round =>
    obtain ⟨j, hj, rfl, hM⟩ := hrel
    clear HM
    have HM := Lib.hid hM
    clear hM
    by_cases hlt : j < es.length
    · have hx := (HI.out.2 (es.getD j 0)).1 (getD_mem8 hlt)
      obtain ⟨x, hxe⟩ : ∃ x, es.getD j 0 = x := ⟨_, rfl⟩
      rw [hxe] at hx
      have HXe := Lib.hid hxe
      obtain ⟨i, hiL, his, he, hx0, hx1⟩ := HDf.out x hx
      have HO := Lib.hid (own_yes (S := P.steps) his L hiL)
      have HXw : Hid (W64 x) := Lib.hid ⟨hx0, by omega⟩
      have hb1 := up_bare HU.out HWd.out (x / 8)
      have hb2 := up_sub HU.out HWd.out (x / 8)
      have ep0 : peekV 16 f x = f (x / 8) := if_pos he
      have ep1 : peekV 16 g x = g (x / 8) := if_pos he
      have HE := Lib.hid he
      have HE0 := Lib.hid ep0
      have HE1 := Lib.hid ep1
      clear hx his hiL hx0 hx1 he ep0 ep1 hxe
      go_wp2
      go_loopw [14, 15] (fun u t wr2 => ∃ k : Nat, k ≤ L ∧ u = .bool (ownN P.steps x k) ∧ t = .int .i64 k ∧ Mks w wr2 b (.slice A4 L c4) P m m0 m1 f g ([] ++ slotsP P.steps) (100 + 5 + L + L) (.slice Ad es.length cd) es) (fun _ t _ => (L - intOf t).toNat)
      case atStart => exact ⟨0, by omega, rfl, rfl, HM.out⟩
      case round =>
        obtain ⟨k, hk, rfl, rfl, hM⟩ := hrel
        clear HM
        have HM := Lib.hid hM
        clear hM
        obtain ⟨p0, p1, p2, p3, p4, p5, p6⟩ := HM.out.box.seven
        obtain ⟨Ae, ce, hve, hce⟩ := HM.out.dif.form
        obtain ⟨ge, hAe, t0⟩ := hce j hlt
        obtain ⟨rfl, _⟩ : Ad = Ae ∧ True := by simp at hve; exact ⟨hve.1, trivial⟩
        subst hAe
        rw [HXe.out] at t0
        clear hve hce
        by_cases hkl : k < L
        · obtain ⟨A', c', hv, hc⟩ := HM.out.steps
          obtain ⟨ad, hA, d0, d1, d2⟩ := hc k (by rw [HL.out]; exact hkl)
          obtain ⟨rfl, _⟩ : A4 = A' ∧ True := by simp at hv; exact ⟨hv.1, trivial⟩
          subst hA
          have d1' : wr.cell? ⟨(ad.add (k * 3)).block, (ad.add (k * 3)).off + 1, none⟩ = some (.int .u64 (stepAt P.steps k).2.1) := d1
          have HR : Hid (ownN P.steps x (k + 1) = (ownN P.steps x k || ((stepAt P.steps k).2.1 == x))) := Lib.hid rfl
          have HN2 : ∀ nq, Hid (Mks w (wr.drewN nq) b (.slice (some ad) L c4) P m m0 m1 f g ([] ++ slotsP P.steps) (100 + 5 + L + L) (.slice (some ⟨ge, 0, none⟩) es.length cd) es) := fun nq => Lib.hid (HM.out.quiet (drewN_below8 _ _))
          clear hv hc d0 d1 d2 HM
          generalize (stepAt P.steps k).2.1 = s at *
          generalize hq : ownN P.steps x k = q at *
          clear hq
          cases q
          · go_wp2
            go_quiet (fail)
            go_wp2
            go_roundw
            case rel => exact ⟨k + 1, by omega, by rw [HR.out]; rfl, by go_num, (HN2 _).out⟩
            case measure => simp [intOf]; omega
          · go_wp2
            go_quiet (fail)
            go_wp2
            go_roundw
            case rel => exact ⟨k + 1, by omega, by rw [HR.out]; rfl, by go_num, (HN2 _).out⟩
            case measure => simp [intOf]; omega
        · have hkl2 : L ≤ k := by omega
          obtain rfl : k = L := by omega
          rw [HO.out]
          clear hk hkl
          have C0 := mpeek_any HM.out.was x HXw.out
          have C1 := mpeek_any HM.out.mem x HXw.out
          rw [HE.out, HE0.out] at C0
          rw [HE.out, HE1.out] at C1
          generalize f (x / 8) = X at *
          generalize g (x / 8) = Y at *
          go_upto_region 20 with (first | (go_at_call 24; ((with_reducible refine C0.mono ?_)); rintro e w' ⟨rfl, rfl⟩))
          clear C0
          go_upto_region 21 with (first | (go_at_call 24; ((with_reducible refine C1.mono ?_)); rintro e w' ⟨rfl, rfl⟩))
          clear C1
          go_wp2
          go_roundw
          case rel => exact ⟨j + 1, by omega, by go_num, HM.out⟩
          case measure => simp [intOf]; omega
    · have hle : decide (j < es.length) = false := by simp; omega
      clear hj hlt HDf HI HU
      go_wp2
      go_loopw [20] (fun t wr2 => ∃ k : Nat, k ≤ L ∧ t = .int .i64 k ∧ Mks w wr2 b (.slice A4 L c4) P m m0 m1 f g ([] ++ slotsP P.steps) (100 + 5 + L + L) (.slice Ad es.length cd) es) (fun t _ => (L - intOf t).toNat)
      case atStart => exact ⟨0, by omega, rfl, HM.out⟩
      case round =>
        obtain ⟨k, hk, rfl, hM⟩ := hrel
        clear HM hle
        have HM := Lib.hid hM
        clear hM
        obtain ⟨p0, p1, p2, p3, p4, p5, p6⟩ := HM.out.box.seven
        have e6 : IntKind.i64.wrap ((L : Int) - 1) = (L : Int) - 1 := i64_wrap (by omega) (by omega)
        by_cases hkl : k < L
        · obtain ⟨A', c', hv, hc⟩ := HM.out.steps
          obtain ⟨ad, hA, d0, d1, d2⟩ := hc k (by rw [HL.out]; exact hkl)
          obtain ⟨rfl, _⟩ : A4 = A' ∧ True := by simp at hv; exact ⟨hv.1, trivial⟩
          subst hA
          have d1' : wr.cell? ⟨(ad.add (k * 3)).block, (ad.add (k * 3)).off + 1, none⟩ = some (.int .u64 (stepAt P.steps k).2.1) := d1
          obtain ⟨he, h5, h6⟩ := HH.out k hkl
          have H6 := Lib.hid h6
          have C1 := mpeek_any HM.out.mem (stepAt P.steps k).2.1 (HWs.out k hkl)
          rw [he, show peekV 16 g (stepAt P.steps k).2.1 = g ((stepAt P.steps k).2.1 / 8) from if_pos he] at C1
          clear hv hc d0 d1 d2 h6 he
          generalize g ((stepAt P.steps k).2.1 / 8) = Y at *
          generalize (stepAt P.steps k).2.1 = s at *
          by_cases hla : k + 1 = L
          · have hl2 : ((k : Int) == (L : Int) - 1) = true := by simp; omega
            cases dirty
            · clear hla H6
              go_wp2_with (first | (go_at_call 24; ((with_reducible refine C1.mono ?_)); rintro e w' ⟨rfl, rfl⟩))
              go_roundw
              case rel => exact ⟨k + 1, by omega, by go_num, HM.out⟩
              case measure => simp [intOf]; omega
            · by_cases hy : P.why = 0
              · have h6 := H6.out (by simp [hy]) hla
                rw [hy] at p1
                clear hla H6 hy
                go_wp2_with (first | (go_at_call 24; ((with_reducible refine C1.mono ?_)); rintro e w' ⟨rfl, rfl⟩))
                go_roundw
                case rel => exact ⟨k + 1, by omega, by go_num, HM.out⟩
                case measure => simp [intOf]; omega
              · have hy2 : (P.why == 0) = false := by simpa using hy
                clear hla H6 hy
                go_wp2_with (first | (go_at_call 24; ((with_reducible refine C1.mono ?_)); rintro e w' ⟨rfl, rfl⟩))
                go_roundw
                case rel => exact ⟨k + 1, by omega, by go_num, HM.out⟩
                case measure => simp [intOf]; omega
          · have hl2 : ((k : Int) == (L : Int) - 1) = false := by simp; omega
            clear hla H6
            go_wp2_with (first | (go_at_call 24; ((with_reducible refine C1.mono ?_)); rintro e w' ⟨rfl, rfl⟩))
            go_roundw
            case rel => exact ⟨k + 1, by omega, by go_num, HM.out⟩
            case measure => simp [intOf]; omega
        · clear HH hk
          have hkl2 : L ≤ k := by omega
          clear hkl
          go_wp2_with (first | (go_at_call 31; refine (diff_mem HM.out.once HM.out.mem (by omega) (by omega)).mono ?_; rintro e w11 ⟨Ae, ce, e2, rfl, _, hI2, hB2⟩; obtain rfl := hI2.none; have HB2 := Lib.hid (HM.out.below.trans (hB2.mono HM.out.below.size)); clear hB2 hI2))
          go_ret
          exact ⟨rfl, HB2.out⟩
end Go.Proofs.YtlpjbmlkpmhdlaaDoor
