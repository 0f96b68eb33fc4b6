/- want: the document's memory behind a deed. -/
import Derived.Test.YtfakfmefjfemhaaRp
namespace Go.Proofs.Ytfakfmefjfemhaa
set_option linter.unusedVariables false
set_option linter.unusedSimpArgs false
open Go.ChangeShapes Go.WideShapes Go.ChangeAt Go.RowKit Go.Joins

def pairL (M : Int) (f : Int → Int) (L : List (Int × Int)) (k a x : Int) : List (Int × Int) := if k = 2 then putL M f L a (x % 256) else if k = 5 then storeL M L a x else L

theorem agree_pair {M : Int} {f : Int → Int} {L : List (Int × Int)} (h : Agree f L) (k a x : Int) : Agree (pairF M f k a x) (pairL M f L k a x) := by
  unfold pairF pairL
  by_cases k2 : k = 2
  · rw [if_pos k2, if_pos k2]; exact agree_put h _ _
  · rw [if_neg k2, if_neg k2]
    by_cases k5 : k = 5
    · rw [if_pos k5, if_pos k5]; exact agree_store h _ _
    · rw [if_neg k5, if_neg k5]; exact h
theorem pairL_len (M : Int) (f : Int → Int) (L : List (Int × Int)) (k a x : Int) : (pairL M f L k a x).length ≤ L.length + 1 := by
  unfold pairL
  split
  · exact putL_len _ _ _ _ _
  · split
    · exact storeL_len _ _ _ _
    · omega

/-- a boxed memory, a boxed deed, and a variable for the result, laid one behind the other, in a later world -/
structure Boxw (w w1 : World) (x0 x1 x2 y0 y1 y2 : Value) : Prop where
  box : Three w1 w.heap.size x0 x1 x2
  res : Three w1 (w.heap.size + 1 + 1) y0 y1 y2
  below : Below w.heap.size w w1
  size : w.heap.size + 3 ≤ w1.heap.size

theorem boxw_start (w : World) (x0 x1 x2 z0 z1 z2 y0 y1 y2 : Value) (t s u : TypeId) : Boxw w (((w.alloc (.cells #[x0, x1, x2] t)).alloc (.cells #[z0, z1, z2] s)).alloc (.cells #[y0, y1, y2] u)) x0 x1 x2 y0 y1 y2 := by
  have e1 : ((w.alloc (.cells #[x0, x1, x2] t)).alloc (.cells #[z0, z1, z2] s)).heap.size = w.heap.size + 1 + 1 := by simp
  have h2 := three_new ((w.alloc (.cells #[x0, x1, x2] t)).alloc (.cells #[z0, z1, z2] s)) y0 y1 y2 u
  rw [e1] at h2
  exact ⟨three_alloc (three_alloc (three_new _ _ _ _ _) (by simp) _) (by simp; omega) _, h2, (((Below.refl _ w).alloc (Nat.le_refl _) _).alloc (by simp) _).alloc (by simp; omega) _, by simp⟩
theorem Boxw.step {w w1 w2 : World} {x0 x1 x2 y0 y1 y2 : Value} (h : Boxw w w1 x0 x1 x2 y0 y1 y2) (hb : Below w1.heap.size w1 w2) : Boxw w w2 x0 x1 x2 y0 y1 y2 :=
  ⟨three_below h.box hb (by have := h.size; omega), three_below h.res hb (by have := h.size; omega), h.below.trans (hb.mono h.below.size), Nat.le_trans h.size hb.size⟩
/-- .. and behind one more block -/
theorem Boxw.alloc {w w1 : World} {x0 x1 x2 y0 y1 y2 : Value} (h : Boxw w w1 x0 x1 x2 y0 y1 y2) (o : Obj) : Boxw w (w1.alloc o) x0 x1 x2 y0 y1 y2 :=
  h.step ((Below.refl _ w1).alloc (Nat.le_refl _) o)

theorem newOr_later {w w1 : World} {v v' : Value} (h : NewOr w1 v v') (hs : w.heap.size ≤ w1.heap.size) : NewOr w v v' := h.imp id (fun h i hi => Nat.le_trans hs (h i hi))

theorem slots_res {w w1 : World} {v v' : Value} {L : List (Int × Int)} {b : Nat} (h : SlotsOwn w1 v' L) (hn : v'.ownBlock ≠ some b) (u0 u1 u2 : Value) : SlotsOwn (((w1.setCell ⟨b, 0, none⟩ u0).setCell ⟨b, 1, none⟩ u1).setCell ⟨b, 2, none⟩ u2) v' L :=
  slots_new (w := w) (slots_new (w := w) (slots_new (w := w) h hn _ _) hn _ _) hn _ _
theorem words_res {w1 : World} {v' : Value} {tr : List Int} {b : Nat} (h : WordsOwn w1 v' tr) (hn : v'.ownBlock ≠ some b) (u0 u1 u2 : Value) : WordsOwn (((w1.setCell ⟨b, 0, none⟩ u0).setCell ⟨b, 1, none⟩ u1).setCell ⟨b, 2, none⟩ u2) v' tr :=
  ownsRow_setCell_other (a := ⟨b, 2, none⟩) (ownsRow_setCell_other (a := ⟨b, 1, none⟩) (ownsRow_setCell_other (a := ⟨b, 0, none⟩) h hn u0) hn u1) hn u2

/-- a block of v' isn't b: it is v's, which was there ahead of w, or new behind w1 -/
theorem not_res {w w1 : World} {v v' : Value} {b : Nat} (hv : ∀ i, v.ownBlock = some i → i < w.heap.size) (hn : NewOr w1 v v') (h1 : w.heap.size ≤ b) (h2 : b < w1.heap.size) : v'.ownBlock ≠ some b := fun e => by
  rcases hn with rfl | hn
  · have := hv _ e; omega
  · have := hn _ e; omega

/-- what stands behind Put's and Store's arms: the new memory lies in a variable of its own, then in the result's -/
theorem want_end {w w1 w0 : World} {M p q : Int} {A A2 A' : Option Addr} {c cc n2 c' : Nat} {L L2 : List (Int × Int)} {tr : List Int} {y0 y1 y2 x0 x1 x2 r0 r1 r2 : Value} {o : Obj} (hB : Boxw w w1 x0 x1 x2 r0 r1 r2) (h0 : SlotsOwn w (.slice A L.length c) L) (hT : WordsOwn w (.slice A' tr.length c') tr)
    (hs : SlotsOwn w1 (.slice A2 n2 cc) L2) (hn : NewOr w0 (.slice A L.length c) (.slice A2 n2 cc)) (hw0 : w.heap.size + 3 ≤ w0.heap.size) (hw1 : w0.heap.size ≤ w1.heap.size) :
    ∃ vs' vt', Ending.returned (.tuple #[.agg #[.int .i64 M, .slice A2 n2 cc, .slice A' tr.length c'], .int .u64 p, .int .i64 q]) = Ending.returned (.tuple #[.agg #[.int .i64 M, vs', vt'], .int .u64 p, .int .i64 q]) ∧
      SlotsOwn ((((w1.alloc o).setCell ⟨w.heap.size + 1 + 1, 0, none⟩ y0).setCell ⟨w.heap.size + 1 + 1, 1, none⟩ y1).setCell ⟨w.heap.size + 1 + 1, 2, none⟩ y2) vs' L2 ∧
      WordsOwn ((((w1.alloc o).setCell ⟨w.heap.size + 1 + 1, 0, none⟩ y0).setCell ⟨w.heap.size + 1 + 1, 1, none⟩ y1).setCell ⟨w.heap.size + 1 + 1, 2, none⟩ y2) vt' tr ∧
      NewOr w (.slice A L.length c) vs' ∧ NewOr w (.slice A' tr.length c') vt' ∧ Below w.heap.size w ((((w1.alloc o).setCell ⟨w.heap.size + 1 + 1, 0, none⟩ y0).setCell ⟨w.heap.size + 1 + 1, 1, none⟩ y1).setCell ⟨w.heap.size + 1 + 1, 2, none⟩ y2) := by
  have hsz := hB.size
  have hbel : Below w.heap.size w ((((w1.alloc o).setCell ⟨w.heap.size + 1 + 1, 0, none⟩ y0).setCell ⟨w.heap.size + 1 + 1, 1, none⟩ y1).setCell ⟨w.heap.size + 1 + 1, 2, none⟩ y2) :=
    res3 (by omega) (hB.below.alloc (by omega) o) y0 y1 y2
  refine ⟨_, _, rfl, ?_, own_below hT hbel, newOr_later hn (by omega), Or.inl rfl, hbel⟩
  have hlt : ∀ i, (Value.slice A2 n2 cc).ownBlock = some i → i < w1.heap.size := fun i hi => (World.ownsRow.lt hs i hi).2
  refine slots_res (w := w) (v := .slice A L.length c) (World.ownsRow.alloc hs o) ?_ y0 y1 y2
  exact not_res (fun i hi => (World.ownsRow.lt h0 i hi).2) hn (by omega) (by omega)

set_option maxRecDepth 100000 in
set_option maxHeartbeats 4000000 in
theorem want_any (M : Int) (vs vt : Value) (L : List (Int × Int)) (tr : List Int) (f : Int → Int) (k a x : Int) (w : World) (hM : 14 ≤ M ∧ M ≤ 22) (hS : SlotsOwn w vs L) (hl : L.length < 100000) (hT : WordsOwn w vt tr) (ht : tr.length < 1000000) (hf : Agree f L) (hw : ∀ s, W64 (f s)) (ha : W64 a) (hx : W64 x) :
    Calls Try.prog 12 #[.agg #[.int .i64 M, vs, vt], .agg #[.int .i64 k, .int .u64 a, .int .u64 x]] w fun e w' => ∃ vs' vt', e = .returned (.tuple #[.agg #[.int .i64 M, vs', vt'], .int .u64 (pairV M f k a), .int .i64 (pairE M k a)]) ∧ SlotsOwn w' vs' (pairL M f L k a x) ∧ WordsOwn w' vt' (pairT M tr k a) ∧ NewOr w vs vs' ∧ NewOr w vt vt' ∧ Below w.heap.size w w' := by
  obtain ⟨A, c, rfl, _⟩ := hS.form
  obtain ⟨A', c', rfl⟩ := own_len hT
  have HS0 := Lib.hid hS
  have HT0 := Lib.hid hT
  have HVS := Lib.hid (fun i hi => (World.ownsRow.lt hS i hi).2)
  have HVT := Lib.hid (fun i hi => (World.ownsRow.lt hT i hi).2)
  have HX := Lib.hid (boxw_start w (.int .i64 M) (.slice A L.length c) (.slice A' tr.length c') (.int .i64 k) (.int .u64 a) (.int .u64 x) (.int .i64 0) (.slice none 0 0) (.slice none 0 0) 29 34 29)
  clear hS hT
  by_cases k1 : k = 1
  · subst k1
    have hg : IntKind.u64.wrap (getV M f a) = getV M f a := wrap_in (getV_bd hw a).1 (by have := (getV_bd (M := M) hw a).2; omega)
    go_enter Try.func12, Try.ntmps12
    go_wp2_with (go_at_call 28; refine (rGet_any M _ _ L f a _ hM (slots_keep HS0.out HX.out.below) (by omega) hf hw ha).mono ?_; rintro e w1 ⟨rfl, hb⟩; have HB1 := Lib.hid (HX.out.step hb); clear hb; obtain ⟨c0, c1, c2, f0, f1, f2⟩ := HB1.out.box; obtain ⟨d0, d1, d2, g0, g1, g2⟩ := HB1.out.res)
    refine bodyPost_ret (v := .tuple #[.agg #[.int .i64 M, .slice A L.length c, .slice A' tr.length c'], .int .u64 (getV M f a), .int .i64 (getE M a)]) ?_ rfl ⟨_, _, rfl, slots_keep HS0.out (res3 (by omega) HB1.out.below _ _ _), own_below HT0.out (res3 (by omega) HB1.out.below _ _ _), Or.inl rfl, Or.inl rfl, res3 (by omega) HB1.out.below _ _ _⟩
    rw [results_cell_tmp2 rfl]; go_simp
  by_cases k4 : k = 4
  · subst k4
    go_enter Try.func12, Try.ntmps12
    go_wp2_with (go_at_call 31; refine (rPeek_any M _ _ L f a _ hM (slots_keep HS0.out HX.out.below) (by omega) hf ha).mono ?_; rintro e w1 ⟨rfl, hb⟩; have HB1 := Lib.hid (HX.out.step hb); clear hb; obtain ⟨c0, c1, c2, f0, f1, f2⟩ := HB1.out.box; obtain ⟨d0, d1, d2, g0, g1, g2⟩ := HB1.out.res)
    refine bodyPost_ret (v := .tuple #[.agg #[.int .i64 M, .slice A L.length c, .slice A' tr.length c'], .int .u64 (peekV M f a), .int .i64 (errS M a)]) ?_ rfl ⟨_, _, rfl, slots_keep HS0.out (res3 (by omega) HB1.out.below _ _ _), own_below HT0.out (res3 (by omega) HB1.out.below _ _ _), Or.inl rfl, Or.inl rfl, res3 (by omega) HB1.out.below _ _ _⟩
    rw [results_cell_tmp2 rfl]; go_simp
  by_cases k3 : k = 3
  · subst k3
    go_enter Try.func12, Try.ntmps12
    go_wp2_with (go_at_call 30; refine (rLoad_any M _ _ L tr f a _ hM (slots_keep HS0.out HX.out.below) (by omega) (own_below HT0.out HX.out.below) ht hf ha).mono ?_; rintro e w1 ⟨vt', rfl, ht1, hn1, hb⟩; have HB1 := Lib.hid (HX.out.step hb); clear hb; obtain ⟨A2, cc, rfl⟩ := own_len ht1; have HT1 := Lib.hid ht1; have HN1 := Lib.hid hn1; clear ht1 hn1; obtain ⟨c0, c1, c2, f0, f1, f2⟩ := HB1.out.box; obtain ⟨d0, d1, d2, g0, g1, g2⟩ := HB1.out.res)
    refine bodyPost_ret (v := .tuple #[.agg #[.int .i64 M, .slice A L.length c, .slice A2 (loadT M tr a).length cc], .int .u64 (peekV M f a), .int .i64 (errS M a)]) ?_ rfl ⟨_, _, rfl, slots_keep HS0.out (res3 (by omega) HB1.out.below _ _ _), words_res HT1.out (not_res HVT.out HN1.out (by omega) (by simp)) _ _ _, Or.inl rfl, newOr_later HN1.out (by simp; omega), res3 (by omega) HB1.out.below _ _ _⟩
    rw [results_cell_tmp2 rfl]; go_simp
  by_cases k2 : k = 2
  · subst k2
    obtain ⟨y, hy, y0, y1, e6⟩ : ∃ y : Int, x.tmod 256 = y ∧ 0 ≤ y ∧ y < 256 ∧ x % 256 = y := ⟨x % 256, Int.tmod_eq_emod_of_nonneg hx.1, by omega, by omega, rfl⟩
    have hy2 : IntKind.u64.wrap y = y := wrap_in (by omega) (by omega)
    rw [show pairL M f L 2 a x = putL M f L a y by rw [← e6]; rfl]
    clear e6
    go_enter Try.func12, Try.ntmps12
    go_wp2_with (go_at_call 29; refine (rPut_any M _ _ L tr f a _ _ hM (slots_keep HS0.out HX.out.below) hl (own_below HT0.out HX.out.below) hf hw ha y0 y1).mono ?_; rintro e w1 ⟨vs', rfl, hs1, hn1, hb⟩; have HB1 := Lib.hid (HX.out.step hb); have HW3 := Lib.hid HX.out.size; have HW4 := Lib.hid hb.size; clear hb; obtain ⟨A2, cc, rfl, _⟩ := hs1.form; have HS1 := Lib.hid hs1; have HN1 := Lib.hid hn1; clear hs1 hn1; obtain ⟨c0, c1, c2, f0, f1, f2⟩ := HB1.out.box; have d0 := fun o => (HB1.out.alloc o).res.c0; have d1 := fun o => (HB1.out.alloc o).res.c1; have d2 := fun o => (HB1.out.alloc o).res.c2; have g0 := fun o => (HB1.out.alloc o).res.f0; have g1 := fun o => (HB1.out.alloc o).res.f1; have g2 := fun o => (HB1.out.alloc o).res.f2; have n1 : ¬ (w.heap.size + 1 + 1 = w1.heap.size) := (by have := HB1.out.size; omega); have n2 : ¬ (w1.heap.size = w.heap.size + 1 + 1) := (by have := HB1.out.size; omega))
    refine bodyPost_ret (v := .tuple #[.agg #[.int .i64 M, .slice A2 (putL M f L a y).length cc, .slice A' tr.length c'], .int .u64 0, .int .i64 (getE M a)]) ?_ rfl (want_end HB1.out HS0.out HT0.out HS1.out HN1.out HW3.out HW4.out)
    rw [results_cell_tmp2 rfl]; go_simp
  by_cases k5 : k = 5
  · subst k5
    go_enter Try.func12, Try.ntmps12
    go_wp2_with (go_at_call 32; refine (rStore_any M _ _ L tr f a x _ hM (slots_keep HS0.out HX.out.below) hl (own_below HT0.out HX.out.below) hf ha).mono ?_; rintro e w1 ⟨vs', rfl, hs1, hn1, hb⟩; have HB1 := Lib.hid (HX.out.step hb); have HW3 := Lib.hid HX.out.size; have HW4 := Lib.hid hb.size; clear hb; obtain ⟨A2, cc, rfl, _⟩ := hs1.form; have HS1 := Lib.hid hs1; have HN1 := Lib.hid hn1; clear hs1 hn1; obtain ⟨c0, c1, c2, f0, f1, f2⟩ := HB1.out.box; have d0 := fun o => (HB1.out.alloc o).res.c0; have d1 := fun o => (HB1.out.alloc o).res.c1; have d2 := fun o => (HB1.out.alloc o).res.c2; have g0 := fun o => (HB1.out.alloc o).res.f0; have g1 := fun o => (HB1.out.alloc o).res.f1; have g2 := fun o => (HB1.out.alloc o).res.f2; have n1 : ¬ (w.heap.size + 1 + 1 = w1.heap.size) := (by have := HB1.out.size; omega); have n2 : ¬ (w1.heap.size = w.heap.size + 1 + 1) := (by have := HB1.out.size; omega))
    refine bodyPost_ret (v := .tuple #[.agg #[.int .i64 M, .slice A2 (storeL M L a x).length cc, .slice A' tr.length c'], .int .u64 0, .int .i64 (errS M a)]) ?_ rfl (want_end HB1.out HS0.out HT0.out HS1.out HN1.out HW3.out HW4.out)
    rw [results_cell_tmp2 rfl]; go_simp
  rw [show pairV M f k a = 0 by unfold pairV; rw [if_neg k1, if_neg k3, if_neg k4], show pairE M k a = 0 by unfold pairE; rw [if_neg k1, if_neg k2, if_neg k3, if_neg k4, if_neg k5],
    show pairL M f L k a x = L by unfold pairL; rw [if_neg k2, if_neg k5], show pairT M tr k a = [] by unfold pairT; rw [if_neg k1, if_neg k2, if_neg k3, if_neg k4, if_neg k5]]
  have b1 : (k == 1) = false := by simpa using k1
  have b2 : (k == 2) = false := by simpa using k2
  have b3 : (k == 3) = false := by simpa using k3
  have b4 : (k == 4) = false := by simpa using k4
  have b5 : (k == 5) = false := by simpa using k5
  clear k1 k2 k3 k4 k5
  go_enter Try.func12, Try.ntmps12
  go_wp2
  have HF := Lib.hid (boxw_start w (.int .i64 M) (.slice A L.length c) (.slice none 0 0) (.int .i64 k) (.int .u64 a) (.int .u64 x) (.int .i64 M) (.slice A L.length c) (.slice none 0 0) 29 34 29).below
  refine bodyPost_ret (v := .tuple #[.agg #[.int .i64 M, .slice A L.length c, .slice none 0 0], .int .u64 0, .int .i64 0]) ?_ rfl ⟨_, _, rfl, slots_keep HS0.out HF.out, World.ownsRow_nil _ _ _ _, Or.inl rfl, Or.inr (by simp [Value.ownBlock]), HF.out⟩
  rw [results_cell_tmp2 rfl]; go_simp

end Go.Proofs.Ytfakfmefjfemhaa
