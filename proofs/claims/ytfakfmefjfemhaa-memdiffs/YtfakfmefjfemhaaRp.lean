/- Contracts of package dormerref04: Store, Put. -/
import Derived.Test.YtfakfmefjfemhaaRs
import Derived.Test.YtfakfmefjfemhaaRg
import Derived.Test.YtfakfmefjfemhaaKp
import Derived.Deep.RegionHeld3
namespace Go.Proofs.Ytfakfmefjfemhaa
set_option linter.unusedVariables false
set_option linter.unusedSimpArgs false
open Go.ChangeShapes Go.WideShapes Go.ChangeAt Go.RowKit Go.Joins

def storeL (M : Int) (L : List (Int × Int)) (a x : Int) : List (Int × Int) := if errS M a = 0 then setL L a x else L
theorem agree_store {M : Int} {f : Int → Int} {L : List (Int × Int)} (h : Agree f L) (a x : Int) : Agree (storeS M f a x) (storeL M L a x) := by
  unfold storeS storeL
  by_cases e : errS M a = 0
  · rw [if_pos e, if_pos e]
    have := agree_set h (a / 8) x
    rwa [aligned (errS_in e).2] at this
  · rw [if_neg e, if_neg e]; exact h
theorem storeL_len (M : Int) (L : List (Int × Int)) (a x : Int) : (storeL M L a x).length ≤ L.length + 1 := by
  unfold storeL
  split
  · exact setL_len L a x
  · omega

/-- a boxed memory and a variable for the result, laid one behind the other, in a later world -/
structure Boxed (w w1 : World) (x0 x1 x2 y0 y1 y2 : Value) : Prop where
  box : Three w1 w.heap.size x0 x1 x2
  res : Three w1 (w.heap.size + 1) y0 y1 y2
  below : Below w.heap.size w w1
  size : w.heap.size + 2 ≤ w1.heap.size
  blk : ∃ t, w1.heap[w.heap.size + 1]? = some (.cells #[y0, y1, y2] t (0, 0))

theorem boxed_start (w : World) (x0 x1 x2 y0 y1 y2 : Value) (t u : TypeId) : Boxed w ((w.alloc (.cells #[x0, x1, x2] t)).alloc (.cells #[y0, y1, y2] u)) x0 x1 x2 y0 y1 y2 := by
  have e1 : (w.alloc (.cells #[x0, x1, x2] t)).heap.size = w.heap.size + 1 := by simp
  have h2 := three_new (w.alloc (.cells #[x0, x1, x2] t)) y0 y1 y2 u
  rw [e1] at h2
  exact ⟨three_alloc (three_new _ _ _ _ _) (by simp) _, h2, ((Below.refl _ w).alloc (Nat.le_refl _) _).alloc (by simp) _, by simp, u, by have h3 := Deep.blk_alloc_new (w.alloc (.cells #[x0, x1, x2] t)) (.cells #[y0, y1, y2] u); rwa [e1] at h3⟩
theorem Boxed.step {w w1 w2 : World} {x0 x1 x2 y0 y1 y2 : Value} (h : Boxed w w1 x0 x1 x2 y0 y1 y2) (hb : Below w1.heap.size w1 w2) : Boxed w w2 x0 x1 x2 y0 y1 y2 :=
  ⟨three_below h.box hb (by have := h.size; omega), three_below h.res hb (by have := h.size; omega), h.below.trans (hb.mono h.below.size), Nat.le_trans h.size hb.size, by obtain ⟨t, ht⟩ := h.blk; exact ⟨t, (hb.block _ (by have := h.size; omega)).trans ht⟩⟩

theorem slots_new {w w1 : World} {v : Value} {L : List (Int × Int)} {b : Nat} (h : SlotsOwn w1 v L) (hn : v.ownBlock ≠ some b) (i : Nat) (u : Value) : SlotsOwn (w1.setCell ⟨b, i, none⟩ u) v L := ownsRow_setCell_other (a := ⟨b, i, none⟩) h hn u

theorem slots_keep {w w1 : World} {v : Value} {L : List (Int × Int)} (h0 : SlotsOwn w v L) (hb : Below w.heap.size w w1) : SlotsOwn w1 v L := own_below h0 hb

theorem res3 {w w1 : World} {b : Nat} (hb : w.heap.size ≤ b) (h : Below w.heap.size w w1) (u0 u1 u2 : Value) : Below w.heap.size w (((w1.setCell ⟨b, 0, none⟩ u0).setCell ⟨b, 1, none⟩ u1).setCell ⟨b, 2, none⟩ u2) :=
  ((h.setCell hb _).setCell hb _).setCell hb _

set_option maxRecDepth 100000 in
set_option maxHeartbeats 1000000 in
theorem rStore_any (M : Int) (vs vt : Value) (L : List (Int × Int)) (tr : List Int) (f : Int → Int) (a x : Int) (w : World) (hM : 14 ≤ M ∧ M ≤ 22) (hS : SlotsOwn w vs L) (hl : L.length < 100000) (hT : WordsOwn w vt tr) (hf : Agree f L) (ha : W64 a) :
    Calls Try.prog 32 #[.agg #[.int .i64 M, vs, vt], .int .u64 a, .int .u64 x] w fun e w' => ∃ vs', e = .returned (.tuple #[.agg #[.int .i64 M, vs', vt], .int .i64 (errS M a)]) ∧ SlotsOwn w' vs' (storeL M L a x) ∧ NewOr w vs vs' ∧ Below w.heap.size w w' := by
  obtain ⟨A, c, rfl, _⟩ := hS.form
  obtain ⟨A', c', rfl⟩ := own_len hT
  have HS0 := Lib.hid hS
  have HT0 := Lib.hid hT
  have HX := Lib.hid (boxed_start w (.int .i64 M) (.slice A L.length c) (.slice A' tr.length c') (.int .i64 0) (.slice none 0 0) (.slice none 0 0) 29 29)
  clear hS hT
  by_cases h1 : errS M a = 0
  · have E := Lib.hid (show storeL M L a x = setL L a x from if_pos h1)
    go_enter Try.func32, Try.ntmps32
    go_wp2_with (first | (go_at_call 31; refine (rPeek_any M _ _ L f a _ hM (slots_keep HS0.out HX.out.below) (by omega) hf ha).mono ?_; rintro e w1 ⟨rfl, hb⟩; have HB1 := Lib.hid (HX.out.step hb); clear hb; obtain ⟨c0, c1, c2, f0, f1, f2⟩ := HB1.out.box) | (go_at_call 45; refine (rsetS_any M _ _ L tr a x _ (slots_keep HS0.out HB1.out.below) hl (own_below HT0.out HB1.out.below)).mono ?_; rintro e w2 ⟨vs', rfl, hs2, hn2, hb⟩; obtain ⟨A2, cc, rfl, _⟩ := hs2.form; have HS2 := Lib.hid hs2; have HN2 := Lib.hid hn2; have HB2 := Lib.hid (HB1.out.step hb); clear hb hs2 hn2; obtain ⟨d0, d1, d2, g0, g1, g2⟩ := HB2.out.res))
    refine bodyPost_ret (v := .tuple #[.agg #[.int .i64 M, .slice A2 (setL L a x).length cc, .slice A' tr.length c'], .int .i64 0]) ?_ rfl ⟨_, by rw [h1], ?_, Or.inr ?_, ?_⟩
    · rw [results_cell_tmp rfl]; go_simp
    · rw [E.out]
      have hne : (Value.slice A2 (setL L a x).length cc).ownBlock ≠ some (w.heap.size + 1) := fun e => by have h3 := HN2.out _ e; have h4 := HB1.out.size; omega
      exact slots_new (w := w) (slots_new (w := w) (slots_new (w := w) HS2.out hne _ _) hne _ _) hne _ _
    · intro i hi; have h3 := HN2.out i hi; have h4 := HB1.out.size; omega
    · exact res3 (by omega) HB2.out.below _ _ _
  · have E := Lib.hid (show storeL M L a x = L from if_neg h1)
    have b1 : (errS M a != 0) = true := by simpa using h1
    clear h1
    go_enter Try.func32, Try.ntmps32
    go_wp2_with (first | (go_at_call 31; refine (rPeek_any M _ _ L f a _ hM (slots_keep HS0.out HX.out.below) (by omega) hf ha).mono ?_; rintro e w1 ⟨rfl, hb⟩; have HB1 := Lib.hid (HX.out.step hb); clear hb; obtain ⟨c0, c1, c2, f0, f1, f2⟩ := HB1.out.box; obtain ⟨d0, d1, d2, g0, g1, g2⟩ := HB1.out.res))
    refine bodyPost_ret (v := .tuple #[.agg #[.int .i64 M, .slice A L.length c, .slice A' tr.length c'], .int .i64 (errS M a)]) ?_ rfl ⟨_, rfl, ?_, Or.inl rfl, ?_⟩
    · rw [results_cell_tmp rfl]; go_simp
    · rw [E.out]; exact slots_keep HS0.out (res3 (by omega) HB1.out.below _ _ _)
    · exact res3 (by omega) HB1.out.below _ _ _

def putL (M : Int) (f : Int → Int) (L : List (Int × Int)) (a b : Int) : List (Int × Int) := if sizeM M ≤ a then L else setL L (a - a % 8) (putF (f (a / 8)) (a % 8) b)
theorem agree_put {M : Int} {f : Int → Int} {L : List (Int × Int)} (h : Agree f L) (a b : Int) : Agree (putS M f a b) (putL M f L a b) := by
  unfold putS putL
  by_cases e : sizeM M ≤ a
  · rw [if_pos e, if_pos e]; exact h
  · rw [if_neg e, if_neg e]
    have := agree_set h (a / 8) (putF (f (a / 8)) (a % 8) b)
    rwa [slotAddr] at this
theorem putL_len (M : Int) (f : Int → Int) (L : List (Int × Int)) (a b : Int) : (putL M f L a b).length ≤ L.length + 1 := by
  unfold putL
  split
  · omega
  · exact setL_len _ _ _

/-- what the region of Put keeps -/
def RegS (w w' : World) : Prop := Below w.heap.size w w' ∧ w.heap.size + 2 ≤ w'.heap.size ∧ ∃ y0 y1 y2 t, w'.heap[w.heap.size + 1]? = some (.cells #[y0, y1, y2] t (0, 0))
abbrev RegAll (w w' : World) (x0 x1 x2 : Value) : Prop := w'.cell? ⟨w.heap.size, 0, none⟩ = some x0 ∧ w'.cell? ⟨w.heap.size, 1, none⟩ = some x1 ∧ w'.cell? ⟨w.heap.size, 2, none⟩ = some x2 ∧ RegS w w'

theorem reg_start {w w1 : World} {x0 x1 x2 y0 y1 y2 : Value} (h : Boxed w w1 x0 x1 x2 y0 y1 y2) : RegAll w w1.drew x0 x1 x2 := ⟨h.box.c0, h.box.c1, h.box.c2, h.below.drew, h.size, y0, y1, y2, h.blk⟩
theorem reg_step {w w1 w2 : World} {x0 x1 x2 : Value} (h : RegAll w w1 x0 x1 x2) (hb : Below w1.heap.size w1 w2) : RegAll w w2 x0 x1 x2 := by
  obtain ⟨c0, c1, c2, b, s, y0, y1, y2, t, r⟩ := h
  refine ⟨(hb.cell (cell_lt c0)).trans c0, (hb.cell (cell_lt c1)).trans c1, (hb.cell (cell_lt c2)).trans c2, b.trans (hb.mono b.size), Nat.le_trans s hb.size, y0, y1, y2, t, (hb.block _ (by omega)).trans r⟩
theorem reg_set {w w1 : World} {x0 x1 x2 : Value} (h : RegAll w w1 x0 x1 x2) (u0 u1 u2 : Value) : RegAll w (((w1.setCell ⟨w.heap.size + 1, 0, none⟩ u0).setCell ⟨w.heap.size + 1, 1, none⟩ u1).setCell ⟨w.heap.size + 1, 2, none⟩ u2) x0 x1 x2 := by
  obtain ⟨c0, c1, c2, b, s, y0, y1, y2, t, r⟩ := h
  have hh : ∀ i, i ≠ w.heap.size + 1 → (((w1.setCell ⟨w.heap.size + 1, 0, none⟩ u0).setCell ⟨w.heap.size + 1, 1, none⟩ u1).setCell ⟨w.heap.size + 1, 2, none⟩ u2).heap[i]? = w1.heap[i]? := fun i hi =>
    (Below.heap_setCell _ _ _ _ hi).trans ((Below.heap_setCell _ _ _ _ hi).trans (Below.heap_setCell _ _ _ _ hi))
  refine ⟨(World.cell?_of_block (hh _ (by simp))).trans c0, (World.cell?_of_block (hh _ (by simp))).trans c1, (World.cell?_of_block (hh _ (by simp))).trans c2, res3 (by omega) b _ _ _, by simpa [World.setCell] using s, u0, u1, u2, t, ?_⟩
  simp [World.setCell, Array.getElem?_modify, r]

theorem reg_word {w w1 : World} {M : Int} {A : Option Addr} {c : Nat} {A' : Option Addr} {n' c' : Nat} {L : List (Int × Int)} (h0 : SlotsOwn w (.slice A L.length c) L) (hl : L.length < 100000) (h : RegAll w w1 (.int .i64 M) (.slice A L.length c) (.slice A' n' c')) (a : Int) :
    Calls Try.prog 43 #[.agg #[.int .i64 M, .slice A L.length c, .slice A' n' c'], .int .u64 a] w1 fun e w2 => e = .returned (.int .u64 (wordL L a)) ∧ RegAll w w2 (.int .i64 M) (.slice A L.length c) (.slice A' n' c') :=
  (rWord_any M _ _ L a w1 (slots_keep h0 h.2.2.2.1) (by omega)).mono fun _ _ ⟨e, hb⟩ => ⟨e, reg_step h hb⟩
theorem reg_put {w w1 : World} {x0 x1 x2 : Value} (h : RegAll w w1 x0 x1 x2) (x i c : Int) (hx : W64 x) (h0 : 0 ≤ c) (h1 : c < 256) :
    Calls Try.prog 46 #[.int .u64 x, .int .i64 i, .int .u8 c] w1 fun e w2 => e = .returned (.int .u64 (putF x i c)) ∧ RegAll w w2 x0 x1 x2 :=
  (rput_any x i c w1 hx h0 h1).mono fun _ _ ⟨e, hb⟩ => ⟨e, reg_step h hb⟩
theorem reg_setC {w w1 : World} {M : Int} {A : Option Addr} {c : Nat} {A' : Option Addr} {c' : Nat} {L : List (Int × Int)} {tr : List Int} (h0 : SlotsOwn w (.slice A L.length c) L) (ht : WordsOwn w (.slice A' tr.length c') tr) (hl : L.length < 100000) (h : RegAll w w1 (.int .i64 M) (.slice A L.length c) (.slice A' tr.length c')) (a x : Int) :
    Calls Try.prog 45 #[.agg #[.int .i64 M, .slice A L.length c, .slice A' tr.length c'], .int .u64 a, .int .u64 x] w1 fun e w2 => ∃ A2 cc, e = .returned (.agg #[.int .i64 M, .slice A2 (setL L a x).length cc, .slice A' tr.length c']) ∧ Hid (SlotsOwn w2 (.slice A2 (setL L a x).length cc) (setL L a x)) ∧ Hid (∀ i, (Value.slice A2 (setL L a x).length cc).ownBlock = some i → w.heap.size + 2 ≤ i) ∧ RegAll w w2 (.int .i64 M) (.slice A L.length c) (.slice A' tr.length c') ∧ ∃ y0 y1 y2, Three w2 (w.heap.size + 1) y0 y1 y2 :=
  (rsetS_any M _ _ L tr a x w1 (slots_keep h0 h.2.2.2.1) hl (own_below ht h.2.2.2.1)).mono fun _ w2 ⟨vs', e, hs, hn, hb⟩ => by
    obtain ⟨A2, cc, rfl, _⟩ := hs.form
    have hr := reg_step h hb
    obtain ⟨y0, y1, y2, t, r⟩ := hr.2.2.2.2.2
    exact ⟨A2, cc, e, hs, fun i hi => Nat.le_trans h.2.2.2.2.1 (hn i hi), hr, y0, y1, y2, three_of r⟩

set_option maxRecDepth 100000 in
set_option maxHeartbeats 4000000 in
theorem rPut_any (M : Int) (vs vt : Value) (L : List (Int × Int)) (tr : List Int) (f : Int → Int) (a b : Int) (w : World) (hM : 14 ≤ M ∧ M ≤ 22) (hS : SlotsOwn w vs L) (hl : L.length < 100000) (hT : WordsOwn w vt tr) (hf : Agree f L) (hw : ∀ s, W64 (f s)) (ha : W64 a) (b0 : 0 ≤ b) (b1 : b < 256) :
    Calls Try.prog 29 #[.agg #[.int .i64 M, vs, vt], .int .u64 a, .int .u8 b] w fun e w' => ∃ vs', e = .returned (.tuple #[.agg #[.int .i64 M, vs', vt], .int .i64 (getE M a)]) ∧ SlotsOwn w' vs' (putL M f L a b) ∧ NewOr w vs vs' ∧ Below w.heap.size w w' := by
  obtain ⟨A, c, rfl, _⟩ := hS.form
  obtain ⟨A', c', rfl⟩ := own_len hT
  have HS0 := Lib.hid hS
  have HT0 := Lib.hid hT
  have HX := Lib.hid (boxed_start w (.int .i64 M) (.slice A L.length c) (.slice A' tr.length c') (.int .i64 0) (.slice none 0 0) (.slice none 0 0) 29 29)
  clear hS hT
  have a0 := ha.1
  by_cases h1 : sizeM M ≤ a
  · have E := Lib.hid (show putL M f L a b = L from if_pos h1)
    rw [show getE M a = 2 from if_pos h1]
    go_enter Try.func29, Try.ntmps29
    go_wp2_with (first | (go_at_call 44; refine (rSize_any M _ _ _ hM).mono ?_; rintro e w1 ⟨rfl, hb⟩; have HB1 := Lib.hid (HX.out.step hb); clear hb; obtain ⟨c0, c1, c2, f0, f1, f2⟩ := HB1.out.box; obtain ⟨d0, d1, d2, g0, g1, g2⟩ := HB1.out.res))
    refine bodyPost_ret (v := .tuple #[.agg #[.int .i64 M, .slice A L.length c, .slice A' tr.length c'], .int .i64 2]) ?_ rfl ⟨_, rfl, ?_, Or.inl rfl, ?_⟩
    · rw [results_cell_tmp rfl]; go_simp
    · rw [E.out]; exact slots_keep HS0.out (res3 (by omega) HB1.out.below _ _ _)
    · exact res3 (by omega) HB1.out.below _ _ _
  · rw [show getE M a = 0 from if_neg h1]
    have E := Lib.hid (show putL M f L a b = setL L (a - a % 8) (putF (f (a / 8)) (a % 8) b) from if_neg h1)
    have h1' : a < sizeM M := by omega
    obtain ⟨p, e1, e2, p0, p1, e3⟩ := mod8 a0
    rw [e1, hf, slotAddr, e1] at E
    have hx : W64 (wordL L (a - p)) := by have := hw (a / 8); rwa [hf, slotAddr, e1] at this
    have e4 : IntKind.i64.wrap p = p := by rw [IntKind.wrap_i64]; omega
    have hap : 0 ≤ a - p := by omega
    have hap3 : IntKind.u64.wrap (a - p) = a - p := wrap_in hap (by have := ha.2; omega)
    clear h1 hw hf
    go_enter Try.func29, Try.ntmps29
    go_wp2_with (first | (go_at_call 44; refine (rSize_any M _ _ _ hM).mono ?_; rintro e w1 ⟨rfl, hb⟩; have HB1 := Lib.hid (HX.out.step hb); clear hb))
    have HR := reg_start HB1.out
    go_region_held3 (fun w' => w'.cell? ⟨w.heap.size, 0, none⟩ = some (.int .i64 M) ∧ w'.cell? ⟨w.heap.size, 1, none⟩ = some (.slice A L.length c) ∧ w'.cell? ⟨w.heap.size, 2, none⟩ = some (.slice A' tr.length c') ∧ RegS w w')
      (first | assumption | exact HR | exact reg_set (by assumption) _ _ _)
      (first | (go_at_call 43; refine (reg_word HS0.out hl (by assumption) _).mono ?_; rintro e w2 ⟨rfl, hH2⟩) | (go_at_call 46; refine (reg_put (by assumption) _ _ _ hx b0 b1).mono ?_; rintro e w2 ⟨rfl, hH2⟩) | (go_at_call 45; refine (reg_setC HS0.out HT0.out hl (by assumption) _ _).mono ?_; rintro e w2 ⟨A2, cc, rfl, HS2, HN2, hH2, y0, y1, y2, d0, d1, d2, g0, g1, g2⟩))
    go_wp2
    refine bodyPost_ret (v := .tuple #[.agg #[.int .i64 M, .slice A2 (setL L (a - p) (putF (wordL L (a - p)) p b)).length cc, .slice A' tr.length c'], .int .i64 0]) ?_ rfl ⟨_, rfl, ?_, Or.inr ?_, ?_⟩
    · rw [results_cell_tmp rfl]; go_simp
    · rw [E.out]
      have hne : (Value.slice A2 (setL L (a - p) (putF (wordL L (a - p)) p b)).length cc).ownBlock ≠ some (w.heap.size + 1) := fun e => by have h3 := HN2.out _ e; omega
      exact slots_new (w := w) (slots_new (w := w) (slots_new (w := w) HS2.out hne _ _) hne _ _) hne _ _
    · intro i hi; have h3 := HN2.out i hi; omega
    · exact res3 (by omega) hH2.2.2.2.1 _ _ _

end Go.Proofs.Ytfakfmefjfemhaa
