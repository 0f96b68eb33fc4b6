/- Several texts of ours in one: Rl, Rs, Rp. -/
import Derived.Test.YtopmmlcjlopmaaaDoorGRfSmHe
import Derived.Laws.AppendOwnNone
import Derived.Laws.ResultCell
import Derived.Test.YtopmmlcjlopmaaaDoorGGbRgHb
import Derived.Test.YtopmmlcjlopmaaaDoorGKpFbFh
import Derived.Deep.RegionHeld3
/- Contracts of package dormerref04: Get, Load. -/
namespace Go.Proofs.YtopmmlcjlopmaaaDoor
set_option linter.unusedVariables false
set_option linter.unusedSimpArgs false
open Go.ChangeShapes Go.WideShapes Go.ChangeAt Go.RowKit Go.Joins

theorem results_cell_tmp2 {fn : Func} {p u x : Tmp} {ty : TypeId} (h : fn.results = #[.cell p ty, .tmp u, .tmp x]) (tmps : Array Value) (P : Program) (w : World) :
    (results fn tmps).run P w =
      ((asAddr (tmps.getD p undef)).run P w).andThen fun a w₁ => ((loadVar ty a).run P w₁).andThen fun v w₂ => .ok (.tuple #[v, tmps.getD u undef, tmps.getD x undef]) w₂ := by
  simp only [results, h]
  simp [Sem.run_bind, Result.andThen]

theorem results_cell1 {fn : Func} {p : Tmp} {ty : TypeId} (h : fn.results = #[.cell p ty]) (tmps : Array Value) (P : Program) (w : World) :
    (results fn tmps).run P w = ((asAddr (tmps.getD p undef)).run P w).andThen fun a w₁ => (loadVar ty a).run P w₁ := by
  simp only [results, h]
  simp [Sem.run_bind]

/-- a block of three cells, as it was laid, in a later world -/
structure Three (w : World) (b : Nat) (x y z : Value) : Prop where
  c0 : w.cell? ⟨b, 0, none⟩ = some x
  c1 : w.cell? ⟨b, 1, none⟩ = some y
  c2 : w.cell? ⟨b, 2, none⟩ = some z
  f0 : w.frozen? ⟨b, 0, none⟩ = false
  f1 : w.frozen? ⟨b, 1, none⟩ = false
  f2 : w.frozen? ⟨b, 2, none⟩ = false

theorem three_of {w : World} {b : Nat} {x y z : Value} {t : TypeId} (h : w.heap[b]? = some (.cells #[x, y, z] t (0, 0))) : Three w b x y z := by
  constructor <;> simp [World.cell?, World.frozen?, h]
theorem three_block {w w' : World} {b : Nat} {x y z : Value} (h : Three w b x y z) (e : w'.heap[b]? = w.heap[b]?) : Three w' b x y z :=
  ⟨(World.cell?_of_block (a := ⟨b, 0, none⟩) e).trans h.c0, (World.cell?_of_block (a := ⟨b, 1, none⟩) e).trans h.c1, (World.cell?_of_block (a := ⟨b, 2, none⟩) e).trans h.c2, (World.frozen?_of_block (a := ⟨b, 0, none⟩) e).trans h.f0, (World.frozen?_of_block (a := ⟨b, 1, none⟩) e).trans h.f1, (World.frozen?_of_block (a := ⟨b, 2, none⟩) e).trans h.f2⟩
theorem three_below {w w' : World} {b B : Nat} {x y z : Value} (h : Three w b x y z) (hb : Below B w w') (hB : b < B) : Three w' b x y z := three_block h (hb.block b hB)
theorem three_new (w : World) (x y z : Value) (t : TypeId) : Three (w.alloc (.cells #[x, y, z] t)) w.heap.size x y z := three_of (Deep.blk_alloc_new _ _)
theorem three_alloc {w : World} {b : Nat} {x y z : Value} (h : Three w b x y z) (hb : b < w.heap.size) (o : Obj) : Three (w.alloc o) b x y z := three_block h (Deep.blk_alloc_lt _ _ _ hb)

/-- v' is v, or new behind w -/
def NewOr (w : World) (v v' : Value) : Prop := v' = v ∨ ∀ i, v'.ownBlock = some i → w.heap.size ≤ i

theorem words_set {w w1 : World} {v : Value} {tr : List Int} (hT : WordsOwn w v tr) (h1 : WordsOwn w1 v tr) {b : Nat} (hb : w.heap.size ≤ b) (i : Nat) (u : Value) : WordsOwn (w1.setCell ⟨b, i, none⟩ u) v tr :=
  ownsRow_setCell_other h1 (fun e => by have := (World.ownsRow.lt hT _ e).2; simp at this; omega) u
theorem app_step {w1 w2 : World} {B : Nat} {o : Obj} {row : Option Nat} (hz : B ≤ w1.heap.size) (hg : (w1.alloc o).grownBy w2 row) (hr : ∀ k, row = some k → B ≤ k) : Below B w1 w2 :=
  ((Below.refl _ w1).alloc hz o).grown hg (by simp; omega) hr
theorem row_set {w1 : World} {base : Nat} {e : TypeId} {size : Nat} {v : Value} {n : Nat} {xs : List Value} (h : w1.ownsRow base e size v n xs) {b : Nat} (hb : b < base) (i : Nat) (u : Value) : (w1.setCell ⟨b, i, none⟩ u).ownsRow base e size v n xs := ownsRow_setCell_below (a := ⟨b, i, none⟩) h hb u
theorem row_zero {w1 : World} {base : Nat} {e : TypeId} {size : Nat} {v : Value} {n : Nat} {xs : List Value} (h : w1.ownsRow base e size v n xs) : w1.ownsRow 0 e size v n xs := by
  refine ⟨h.1, ?_⟩
  rcases h.2 with hn | ⟨g, cap, cur, hv, _, r⟩
  · exact Or.inl hn
  · exact Or.inr ⟨g, cap, cur, hv, Nat.zero_le _, r⟩

theorem loadT_no {M : Int} {tr : List Int} {a : Int} (h : errS M a ≠ 0) : loadT M tr a = tr := if_neg h
theorem peekV_no {M : Int} {f : Int → Int} {a : Int} (h : errS M a ≠ 0) : peekV M f a = 0 := if_neg h

end Go.Proofs.YtopmmlcjlopmaaaDoor
/- Contracts of package dormerref04: set. -/
namespace Go.Proofs.YtopmmlcjlopmaaaDoor
set_option linter.unusedVariables false
set_option linter.unusedSimpArgs false
open Go.ChangeShapes Go.WideShapes Go.ChangeAt Go.RowKit Go.Joins

def stepL (a x : Int) (s : List (Int × Int) × Bool) (p : Int × Int) : List (Int × Int) × Bool :=
  if p.1 = a then s else if s.2 = false ∧ a < p.1 then ((s.1 ++ [(a, x)]) ++ [p], true) else (s.1 ++ [p], s.2)
def stL (L : List (Int × Int)) (a x : Int) (k : Nat) : List (Int × Int) × Bool := (L.take k).foldl (stepL a x) ([], false)
/-- the slots with x at a -/
def setL (L : List (Int × Int)) (a x : Int) : List (Int × Int) := if (stL L a x L.length).2 then (stL L a x L.length).1 else (stL L a x L.length).1 ++ [(a, x)]

theorem stL_succ (L : List (Int × Int)) (a x : Int) {k : Nat} (hk : k < L.length) : stL L a x (k + 1) = stepL a x (stL L a x k) (L.getD k (0, 0)) := by
  unfold stL
  rw [List.take_add_one, List.foldl_append]
  simp [List.getD, List.getElem?_eq_getElem hk]

def hasL (L : List (Int × Int)) (a : Int) : Bool := L.any fun p => p.1 == a
theorem wordL_append (L K : List (Int × Int)) (a : Int) : wordL (L ++ K) a = if hasL L a then wordL L a else wordL K a := by
  induction L with
  | nil => rfl
  | cons p L ih =>
    by_cases h : p.1 = a
    · simp [wordL, hasL, h]
    · have hb : (p.1 == a) = false := by simpa using h
      have hh : hasL (p :: L) a = hasL L a := by unfold hasL; rw [List.any_cons, hb, Bool.false_or]
      simp only [List.cons_append, wordL, if_neg h, ih, hh]
theorem hasL_append (L K : List (Int × Int)) (a : Int) : hasL (L ++ K) a = (hasL L a || hasL K a) := by simp [hasL]
theorem hasL_one (p : Int × Int) (a : Int) : hasL [p] a = (p.1 == a) := by simp [hasL]

/-- what the loop has made of the slots P: all of them but a; a with x, if it is done -/
structure Made (P : List (Int × Int)) (a x : Int) (s : List (Int × Int) × Bool) : Prop where
  has : ∀ b, b ≠ a → hasL s.1 b = hasL P b
  word : ∀ b, b ≠ a → wordL s.1 b = wordL P b
  done : s.2 = true → hasL s.1 a = true ∧ wordL s.1 a = x
  open_ : s.2 = false → hasL s.1 a = false
  len : s.1.length ≤ P.length + (if s.2 then 1 else 0)

theorem Made.step {P : List (Int × Int)} {a x : Int} {s : List (Int × Int) × Bool} (h : Made P a x s) (p : Int × Int) : Made (P ++ [p]) a x (stepL a x s p) := by
  unfold stepL
  by_cases h1 : p.1 = a
  · rw [if_pos h1]
    refine ⟨fun b hb => ?_, fun b hb => ?_, h.done, h.open_, by have := h.len; simp; omega⟩
    · rw [h.has b hb, hasL_append, hasL_one]; simp [h1, Ne.symm hb]
    · rw [h.word b hb, wordL_append]
      split
      · rfl
      · rename_i hn
        have : wordL P b = 0 := by
          apply wordL_miss
          intro j hj e
          apply hn
          unfold hasL
          rw [List.any_eq_true]
          exact ⟨P.getD j (0, 0), by simp [List.getD, List.getElem?_eq_getElem hj], by simpa using e⟩
        rw [this]; simp [wordL, h1, Ne.symm hb]
  · rw [if_neg h1]
    by_cases h2 : s.2 = false ∧ a < p.1
    · rw [if_pos h2]
      have ho := h.open_ h2.1
      refine ⟨fun b hb => ?_, fun b hb => ?_, fun _ => ⟨?_, ?_⟩, fun e => by simp at e, by have := h.len; simp [h2.1] at this ⊢; omega⟩
      · have hab : (a == b) = false := by simpa using Ne.symm hb
        simp only [hasL_append, hasL_one, h.has b hb, hab, Bool.or_false]
      · have hab : (a == b) = false := by simpa using Ne.symm hb
        simp only [wordL_append, hasL_append, hasL_one, h.has b hb, h.word b hb, hab, Bool.or_false]
        by_cases hp : hasL P b = true
        · rw [if_pos hp, if_pos hp, if_pos hp]
        · rw [if_neg hp, if_neg hp]
      · simp only [hasL_append, hasL_one]
        simp
      · simp only [wordL_append, hasL_append, hasL_one, ho]
        simp [wordL]
    · rw [if_neg h2]
      refine ⟨fun b hb => ?_, fun b hb => ?_, fun e => ?_, fun e => ?_, by have := h.len; simp at this ⊢; omega⟩
      · simp [hasL_append, h.has b hb]
      · simp only [wordL_append, h.has b hb, h.word b hb]
      · have := h.done e
        simp only [wordL_append, hasL_append, this.1]
        simp [this.2]
      · simp [hasL_append, hasL_one, h.open_ e, h1]

theorem made_take (L : List (Int × Int)) (a x : Int) : ∀ k, k ≤ L.length → Made (L.take k) a x (stL L a x k)
  | 0, _ => by
    refine ⟨fun b _ => rfl, fun b _ => rfl, fun e => by simp [stL] at e, fun _ => rfl, by simp [stL]⟩
  | k + 1, hk => by
    have := (made_take L a x k (by omega)).step (L.getD k (0, 0))
    rw [stL_succ L a x (by omega), List.take_add_one]
    simpa [List.getD, List.getElem?_eq_getElem (show k < L.length by omega)] using this

theorem made_all (L : List (Int × Int)) (a x : Int) : Made L a x (stL L a x L.length) := by
  have := made_take L a x L.length (Nat.le_refl _)
  rwa [List.take_length] at this

theorem setL_word (L : List (Int × Int)) (a x b : Int) : wordL (setL L a x) b = if b = a then x else wordL L b := by
  have h := made_all L a x
  unfold setL
  by_cases hd : (stL L a x L.length).2 = true
  · rw [if_pos hd]
    by_cases e : b = a
    · rw [if_pos e, e]; exact (h.done hd).2
    · rw [if_neg e]; exact h.word b e
  · rw [if_neg hd, wordL_append]
    have hd' : (stL L a x L.length).2 = false := by simpa using hd
    by_cases e : b = a
    · rw [if_pos e, e, h.open_ hd']; simp [wordL]
    · rw [if_neg e, h.has b e, h.word b e]
      split
      · rfl
      · rename_i hn
        have : wordL L b = 0 := by
          apply wordL_miss
          intro j hj e'
          apply hn
          unfold hasL
          rw [List.any_eq_true]
          exact ⟨L.getD j (0, 0), by simp [List.getD, List.getElem?_eq_getElem hj], by simpa using e'⟩
        rw [this]; simp [wordL, Ne.symm e]

theorem setL_len (L : List (Int × Int)) (a x : Int) : (setL L a x).length ≤ L.length + 1 := by
  have h := (made_all L a x).len
  unfold setL
  split
  · rename_i hd; simp [hd] at h; exact h
  · rename_i hd; simp [hd] at h; simp; omega

theorem stL_len (L : List (Int × Int)) (a x : Int) {k : Nat} (hk : k ≤ L.length) : (stL L a x k).1.length ≤ L.length + 1 := by
  have h := (made_take L a x k hk).len
  simp at h
  split at h <;> omega

theorem agree_set {f : Int → Int} {L : List (Int × Int)} (h : Agree f L) (s x : Int) : Agree (updF f s x) (setL L (s * 8) x) := by
  intro j
  rw [setL_word]
  unfold updF
  by_cases e : j = s
  · rw [if_pos e, if_pos (by rw [e])]
  · rw [if_neg e, if_neg (by omega)]; exact h j

theorem two_new (w : World) (x y : Value) (t : TypeId) : ∀ j u, [x, y][j]? = some u → (w.alloc (.cells #[x, y] t)).cell? ((⟨w.heap.size, 0, none⟩ : Addr).add j) = some u := by
  intro j u hj
  match j, hj with
  | 0, hj => simp at hj; subst hj; simp [Addr.add]
  | 1, hj => simp at hj; subst hj; simp [Addr.add]

theorem two_one (a x : Int) : ∀ u ∈ [Value.int .u64 a, Value.int .u64 x], u.oneCell' = true := by
  intro u hu
  simp at hu
  rcases hu with rfl | rfl <;> rfl

/-- what set's loop keeps: the boxed memory, the result's variable, all that was there -/
def SetRel (w wr : World) (M : Int) (A : Option Addr) (n c : Nat) (A' : Option Addr) (n' c' : Nat) : Prop :=
  Hid (Three wr w.heap.size (.int .i64 M) (.slice A n c) (.slice A' n' c')) ∧ Hid (Three wr (w.heap.size + 1) (.int .i64 0) (.slice none 0 0) (.slice none 0 0)) ∧ Hid (Below w.heap.size w wr) ∧ Hid (w.heap.size + 2 ≤ wr.heap.size)

theorem SetRel.step {w wr w1 : World} {M : Int} {A : Option Addr} {n c : Nat} {A' : Option Addr} {n' c' : Nat} (h : SetRel w wr M A n c A' n' c') (hb : Below (w.heap.size + 2) wr w1) : SetRel w w1 M A n c A' n' c' :=
  ⟨three_below h.1.out hb (by omega), three_below h.2.1.out hb (by omega), h.2.2.1.out.trans (hb.mono (by omega)), Nat.le_trans h.2.2.2.out hb.size⟩

end Go.Proofs.YtopmmlcjlopmaaaDoor
/- Contracts of package dormerref04: Store, Put. -/
namespace Go.Proofs.YtopmmlcjlopmaaaDoor
set_option linter.unusedVariables false
set_option linter.unusedSimpArgs false
open Go.ChangeShapes Go.WideShapes Go.ChangeAt Go.RowKit Go.Joins

def storeL (M : Int) (L : List (Int × Int)) (a x : Int) : List (Int × Int) := if errS M a = 0 then setL L a x else L
theorem agree_store {M : Int} {f : Int → Int} {L : List (Int × Int)} (h : Agree f L) (a x : Int) : Agree (storeS M f a x) (storeL M L a x) := by
  unfold storeS storeL
  by_cases e : errS M a = 0
  · rw [if_pos e, if_pos e]
    have := agree_set h (a / 8) x
    rwa [aligned (errS_in e).2] at this
  · rw [if_neg e, if_neg e]; exact h
theorem storeL_len (M : Int) (L : List (Int × Int)) (a x : Int) : (storeL M L a x).length ≤ L.length + 1 := by
  unfold storeL
  split
  · exact setL_len L a x
  · omega

/-- a boxed memory and a variable for the result, laid one behind the other, in a later world -/
structure Boxed (w w1 : World) (x0 x1 x2 y0 y1 y2 : Value) : Prop where
  box : Three w1 w.heap.size x0 x1 x2
  res : Three w1 (w.heap.size + 1) y0 y1 y2
  below : Below w.heap.size w w1
  size : w.heap.size + 2 ≤ w1.heap.size
  blk : ∃ t, w1.heap[w.heap.size + 1]? = some (.cells #[y0, y1, y2] t (0, 0))

theorem boxed_start (w : World) (x0 x1 x2 y0 y1 y2 : Value) (t u : TypeId) : Boxed w ((w.alloc (.cells #[x0, x1, x2] t)).alloc (.cells #[y0, y1, y2] u)) x0 x1 x2 y0 y1 y2 := by
  have e1 : (w.alloc (.cells #[x0, x1, x2] t)).heap.size = w.heap.size + 1 := by simp
  have h2 := three_new (w.alloc (.cells #[x0, x1, x2] t)) y0 y1 y2 u
  rw [e1] at h2
  exact ⟨three_alloc (three_new _ _ _ _ _) (by simp) _, h2, ((Below.refl _ w).alloc (Nat.le_refl _) _).alloc (by simp) _, by simp, u, by have h3 := Deep.blk_alloc_new (w.alloc (.cells #[x0, x1, x2] t)) (.cells #[y0, y1, y2] u); rwa [e1] at h3⟩
theorem Boxed.step {w w1 w2 : World} {x0 x1 x2 y0 y1 y2 : Value} (h : Boxed w w1 x0 x1 x2 y0 y1 y2) (hb : Below w1.heap.size w1 w2) : Boxed w w2 x0 x1 x2 y0 y1 y2 :=
  ⟨three_below h.box hb (by have := h.size; omega), three_below h.res hb (by have := h.size; omega), h.below.trans (hb.mono h.below.size), Nat.le_trans h.size hb.size, by obtain ⟨t, ht⟩ := h.blk; exact ⟨t, (hb.block _ (by have := h.size; omega)).trans ht⟩⟩

theorem res3 {w w1 : World} {b : Nat} (hb : w.heap.size ≤ b) (h : Below w.heap.size w w1) (u0 u1 u2 : Value) : Below w.heap.size w (((w1.setCell ⟨b, 0, none⟩ u0).setCell ⟨b, 1, none⟩ u1).setCell ⟨b, 2, none⟩ u2) :=
  ((h.setCell hb _).setCell hb _).setCell hb _

def putL (M : Int) (f : Int → Int) (L : List (Int × Int)) (a b : Int) : List (Int × Int) := if sizeM M ≤ a then L else setL L (a - a % 8) (putF (f (a / 8)) (a % 8) b)
theorem agree_put {M : Int} {f : Int → Int} {L : List (Int × Int)} (h : Agree f L) (a b : Int) : Agree (putS M f a b) (putL M f L a b) := by
  unfold putS putL
  by_cases e : sizeM M ≤ a
  · rw [if_pos e, if_pos e]; exact h
  · rw [if_neg e, if_neg e]
    have := agree_set h (a / 8) (putF (f (a / 8)) (a % 8) b)
    rwa [slotAddr] at this
theorem putL_len (M : Int) (f : Int → Int) (L : List (Int × Int)) (a b : Int) : (putL M f L a b).length ≤ L.length + 1 := by
  unfold putL
  split
  · omega
  · exact setL_len _ _ _

/-- what the region of Put keeps -/
def RegS (w w' : World) : Prop := Below w.heap.size w w' ∧ w.heap.size + 2 ≤ w'.heap.size ∧ ∃ y0 y1 y2 t, w'.heap[w.heap.size + 1]? = some (.cells #[y0, y1, y2] t (0, 0))
abbrev RegAll (w w' : World) (x0 x1 x2 : Value) : Prop := w'.cell? ⟨w.heap.size, 0, none⟩ = some x0 ∧ w'.cell? ⟨w.heap.size, 1, none⟩ = some x1 ∧ w'.cell? ⟨w.heap.size, 2, none⟩ = some x2 ∧ RegS w w'

theorem reg_start {w w1 : World} {x0 x1 x2 y0 y1 y2 : Value} (h : Boxed w w1 x0 x1 x2 y0 y1 y2) : RegAll w w1.drew x0 x1 x2 := ⟨h.box.c0, h.box.c1, h.box.c2, h.below.drew, h.size, y0, y1, y2, h.blk⟩
theorem reg_step {w w1 w2 : World} {x0 x1 x2 : Value} (h : RegAll w w1 x0 x1 x2) (hb : Below w1.heap.size w1 w2) : RegAll w w2 x0 x1 x2 := by
  obtain ⟨c0, c1, c2, b, s, y0, y1, y2, t, r⟩ := h
  refine ⟨(hb.cell (cell_lt c0)).trans c0, (hb.cell (cell_lt c1)).trans c1, (hb.cell (cell_lt c2)).trans c2, b.trans (hb.mono b.size), Nat.le_trans s hb.size, y0, y1, y2, t, (hb.block _ (by omega)).trans r⟩
theorem reg_set {w w1 : World} {x0 x1 x2 : Value} (h : RegAll w w1 x0 x1 x2) (u0 u1 u2 : Value) : RegAll w (((w1.setCell ⟨w.heap.size + 1, 0, none⟩ u0).setCell ⟨w.heap.size + 1, 1, none⟩ u1).setCell ⟨w.heap.size + 1, 2, none⟩ u2) x0 x1 x2 := by
  obtain ⟨c0, c1, c2, b, s, y0, y1, y2, t, r⟩ := h
  have hh : ∀ i, i ≠ w.heap.size + 1 → (((w1.setCell ⟨w.heap.size + 1, 0, none⟩ u0).setCell ⟨w.heap.size + 1, 1, none⟩ u1).setCell ⟨w.heap.size + 1, 2, none⟩ u2).heap[i]? = w1.heap[i]? := fun i hi =>
    (Below.heap_setCell _ _ _ _ hi).trans ((Below.heap_setCell _ _ _ _ hi).trans (Below.heap_setCell _ _ _ _ hi))
  refine ⟨(World.cell?_of_block (hh _ (by simp))).trans c0, (World.cell?_of_block (hh _ (by simp))).trans c1, (World.cell?_of_block (hh _ (by simp))).trans c2, res3 (by omega) b _ _ _, by simpa [World.setCell] using s, u0, u1, u2, t, ?_⟩
  simp [World.setCell, Array.getElem?_modify, r]

end Go.Proofs.YtopmmlcjlopmaaaDoor
