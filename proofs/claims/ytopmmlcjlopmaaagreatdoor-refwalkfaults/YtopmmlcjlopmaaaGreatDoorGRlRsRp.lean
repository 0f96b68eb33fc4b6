/- Several texts of ours in one: Rl, Rs, Rp. -/
import Derived.Test.YtopmmlcjlopmaaaGreatDoorGRfSmHe
import Derived.Laws.AppendOwnNone
import Derived.Laws.ResultCell
import Derived.Test.YtopmmlcjlopmaaaGreatDoorGGbRgHb
import Derived.Test.YtopmmlcjlopmaaaGreatDoorGKpFbFh
import Derived.Deep.RegionHeld3
/- Contracts of package dormerref04: Get, Load. -/
namespace Go.Proofs.YtopmmlcjlopmaaaGreatDoor
set_option linter.unusedVariables false
set_option linter.unusedSimpArgs false
open Go.ChangeShapes Go.WideShapes Go.ChangeAt Go.RowKit Go.Joins

/-- a block of three cells, as it was laid, in a later world -/
structure Three (w : World) (b : Nat) (x y z : Value) : Prop where
  c0 : w.cell? ⟨b, 0, none⟩ = some x
  c1 : w.cell? ⟨b, 1, none⟩ = some y
  c2 : w.cell? ⟨b, 2, none⟩ = some z
  f0 : w.frozen? ⟨b, 0, none⟩ = false
  f1 : w.frozen? ⟨b, 1, none⟩ = false
  f2 : w.frozen? ⟨b, 2, none⟩ = false

theorem three_block {w w' : World} {b : Nat} {x y z : Value} (h : Three w b x y z) (e : w'.heap[b]? = w.heap[b]?) : Three w' b x y z :=
  ⟨(World.cell?_of_block (a := ⟨b, 0, none⟩) e).trans h.c0, (World.cell?_of_block (a := ⟨b, 1, none⟩) e).trans h.c1, (World.cell?_of_block (a := ⟨b, 2, none⟩) e).trans h.c2, (World.frozen?_of_block (a := ⟨b, 0, none⟩) e).trans h.f0, (World.frozen?_of_block (a := ⟨b, 1, none⟩) e).trans h.f1, (World.frozen?_of_block (a := ⟨b, 2, none⟩) e).trans h.f2⟩
theorem three_below {w w' : World} {b B : Nat} {x y z : Value} (h : Three w b x y z) (hb : Below B w w') (hB : b < B) : Three w' b x y z := three_block h (hb.block b hB)
/-- v' is v, or new behind w -/
def NewOr (w : World) (v v' : Value) : Prop := v' = v ∨ ∀ i, v'.ownBlock = some i → w.heap.size ≤ i

end Go.Proofs.YtopmmlcjlopmaaaGreatDoor
/- Contracts of package dormerref04: set. -/
namespace Go.Proofs.YtopmmlcjlopmaaaGreatDoor
set_option linter.unusedVariables false
set_option linter.unusedSimpArgs false
open Go.ChangeShapes Go.WideShapes Go.ChangeAt Go.RowKit Go.Joins

def stepL (a x : Int) (s : List (Int × Int) × Bool) (p : Int × Int) : List (Int × Int) × Bool :=
  if p.1 = a then s else if s.2 = false ∧ a < p.1 then ((s.1 ++ [(a, x)]) ++ [p], true) else (s.1 ++ [p], s.2)
def stL (L : List (Int × Int)) (a x : Int) (k : Nat) : List (Int × Int) × Bool := (L.take k).foldl (stepL a x) ([], false)
/-- the slots with x at a -/
def setL (L : List (Int × Int)) (a x : Int) : List (Int × Int) := if (stL L a x L.length).2 then (stL L a x L.length).1 else (stL L a x L.length).1 ++ [(a, x)]

theorem stL_succ (L : List (Int × Int)) (a x : Int) {k : Nat} (hk : k < L.length) : stL L a x (k + 1) = stepL a x (stL L a x k) (L.getD k (0, 0)) := by
  unfold stL
  rw [List.take_add_one, List.foldl_append]
  simp [List.getD, List.getElem?_eq_getElem hk]

def hasL (L : List (Int × Int)) (a : Int) : Bool := L.any fun p => p.1 == a
theorem wordL_append (L K : List (Int × Int)) (a : Int) : wordL (L ++ K) a = if hasL L a then wordL L a else wordL K a := by
  induction L with
  | nil => rfl
  | cons p L ih =>
    by_cases h : p.1 = a
    · simp [wordL, hasL, h]
    · have hb : (p.1 == a) = false := by simpa using h
      have hh : hasL (p :: L) a = hasL L a := by unfold hasL; rw [List.any_cons, hb, Bool.false_or]
      simp only [List.cons_append, wordL, if_neg h, ih, hh]
theorem hasL_append (L K : List (Int × Int)) (a : Int) : hasL (L ++ K) a = (hasL L a || hasL K a) := by simp [hasL]
theorem hasL_one (p : Int × Int) (a : Int) : hasL [p] a = (p.1 == a) := by simp [hasL]

/-- what the loop has made of the slots P: all of them but a; a with x, if it is done -/
structure Made (P : List (Int × Int)) (a x : Int) (s : List (Int × Int) × Bool) : Prop where
  has : ∀ b, b ≠ a → hasL s.1 b = hasL P b
  word : ∀ b, b ≠ a → wordL s.1 b = wordL P b
  done : s.2 = true → hasL s.1 a = true ∧ wordL s.1 a = x
  open_ : s.2 = false → hasL s.1 a = false
  len : s.1.length ≤ P.length + (if s.2 then 1 else 0)

theorem Made.step {P : List (Int × Int)} {a x : Int} {s : List (Int × Int) × Bool} (h : Made P a x s) (p : Int × Int) : Made (P ++ [p]) a x (stepL a x s p) := by
  unfold stepL
  by_cases h1 : p.1 = a
  · rw [if_pos h1]
    refine ⟨fun b hb => ?_, fun b hb => ?_, h.done, h.open_, by have := h.len; simp; omega⟩
    · rw [h.has b hb, hasL_append, hasL_one]; simp [h1, Ne.symm hb]
    · rw [h.word b hb, wordL_append]
      split
      · rfl
      · rename_i hn
        have : wordL P b = 0 := by
          apply wordL_miss
          intro j hj e
          apply hn
          unfold hasL
          rw [List.any_eq_true]
          exact ⟨P.getD j (0, 0), by simp [List.getD, List.getElem?_eq_getElem hj], by simpa using e⟩
        rw [this]; simp [wordL, h1, Ne.symm hb]
  · rw [if_neg h1]
    by_cases h2 : s.2 = false ∧ a < p.1
    · rw [if_pos h2]
      have ho := h.open_ h2.1
      refine ⟨fun b hb => ?_, fun b hb => ?_, fun _ => ⟨?_, ?_⟩, fun e => by simp at e, by have := h.len; simp [h2.1] at this ⊢; omega⟩
      · have hab : (a == b) = false := by simpa using Ne.symm hb
        simp only [hasL_append, hasL_one, h.has b hb, hab, Bool.or_false]
      · have hab : (a == b) = false := by simpa using Ne.symm hb
        simp only [wordL_append, hasL_append, hasL_one, h.has b hb, h.word b hb, hab, Bool.or_false]
        by_cases hp : hasL P b = true
        · rw [if_pos hp, if_pos hp, if_pos hp]
        · rw [if_neg hp, if_neg hp]
      · simp only [hasL_append, hasL_one]
        simp
      · simp only [wordL_append, hasL_append, hasL_one, ho]
        simp [wordL]
    · rw [if_neg h2]
      refine ⟨fun b hb => ?_, fun b hb => ?_, fun e => ?_, fun e => ?_, by have := h.len; simp at this ⊢; omega⟩
      · simp [hasL_append, h.has b hb]
      · simp only [wordL_append, h.has b hb, h.word b hb]
      · have := h.done e
        simp only [wordL_append, hasL_append, this.1]
        simp [this.2]
      · simp [hasL_append, hasL_one, h.open_ e, h1]

theorem made_take (L : List (Int × Int)) (a x : Int) : ∀ k, k ≤ L.length → Made (L.take k) a x (stL L a x k)
  | 0, _ => by
    refine ⟨fun b _ => rfl, fun b _ => rfl, fun e => by simp [stL] at e, fun _ => rfl, by simp [stL]⟩
  | k + 1, hk => by
    have := (made_take L a x k (by omega)).step (L.getD k (0, 0))
    rw [stL_succ L a x (by omega), List.take_add_one]
    simpa [List.getD, List.getElem?_eq_getElem (show k < L.length by omega)] using this

theorem made_all (L : List (Int × Int)) (a x : Int) : Made L a x (stL L a x L.length) := by
  have := made_take L a x L.length (Nat.le_refl _)
  rwa [List.take_length] at this

theorem setL_word (L : List (Int × Int)) (a x b : Int) : wordL (setL L a x) b = if b = a then x else wordL L b := by
  have h := made_all L a x
  unfold setL
  by_cases hd : (stL L a x L.length).2 = true
  · rw [if_pos hd]
    by_cases e : b = a
    · rw [if_pos e, e]; exact (h.done hd).2
    · rw [if_neg e]; exact h.word b e
  · rw [if_neg hd, wordL_append]
    have hd' : (stL L a x L.length).2 = false := by simpa using hd
    by_cases e : b = a
    · rw [if_pos e, e, h.open_ hd']; simp [wordL]
    · rw [if_neg e, h.has b e, h.word b e]
      split
      · rfl
      · rename_i hn
        have : wordL L b = 0 := by
          apply wordL_miss
          intro j hj e'
          apply hn
          unfold hasL
          rw [List.any_eq_true]
          exact ⟨L.getD j (0, 0), by simp [List.getD, List.getElem?_eq_getElem hj], by simpa using e'⟩
        rw [this]; simp [wordL, Ne.symm e]

theorem agree_set {f : Int → Int} {L : List (Int × Int)} (h : Agree f L) (s x : Int) : Agree (updF f s x) (setL L (s * 8) x) := by
  intro j
  rw [setL_word]
  unfold updF
  by_cases e : j = s
  · rw [if_pos e, if_pos (by rw [e])]
  · rw [if_neg e, if_neg (by omega)]; exact h j

/-- the slots' slice that set builds -/
def OwnK (w : World) (base : Nat) (v : Value) (K : List (Int × Int)) : Prop := w.ownsRow base 103 2 v K.length (slotCells K)

theorem OwnK.form {w : World} {base : Nat} {v : Value} {K : List (Int × Int)} (h : OwnK w base v K) : ∃ A c, v = .slice A K.length c := by
  rcases h.2 with ⟨rfl, hn⟩ | ⟨g, cap, cur, rfl, _⟩
  · exact ⟨none, 0, by rw [hn]⟩
  · exact ⟨_, _, rfl⟩

/-- what set's loop keeps: the boxed memory, the result's variable, all that was there -/
def SetRel (w wr : World) (M : Int) (A : Option Addr) (n c : Nat) (A' : Option Addr) (n' c' : Nat) : Prop :=
  Hid (Three wr w.heap.size (.int .i64 M) (.slice A n c) (.slice A' n' c')) ∧ Hid (Three wr (w.heap.size + 1) (.int .i64 0) (.slice none 0 0) (.slice none 0 0)) ∧ Hid (Below w.heap.size w wr) ∧ Hid (w.heap.size + 2 ≤ wr.heap.size)

theorem SetRel.step {w wr w1 : World} {M : Int} {A : Option Addr} {n c : Nat} {A' : Option Addr} {n' c' : Nat} (h : SetRel w wr M A n c A' n' c') (hb : Below (w.heap.size + 2) wr w1) : SetRel w w1 M A n c A' n' c' :=
  ⟨three_below h.1.out hb (by omega), three_below h.2.1.out hb (by omega), h.2.2.1.out.trans (hb.mono (by omega)), Nat.le_trans h.2.2.2.out hb.size⟩

end Go.Proofs.YtopmmlcjlopmaaaGreatDoor
/- Contracts of package dormerref04: Store, Put. -/
namespace Go.Proofs.YtopmmlcjlopmaaaGreatDoor
set_option linter.unusedVariables false
set_option linter.unusedSimpArgs false
open Go.ChangeShapes Go.WideShapes Go.ChangeAt Go.RowKit Go.Joins

def storeL (M : Int) (L : List (Int × Int)) (a x : Int) : List (Int × Int) := if errS M a = 0 then setL L a x else L
theorem agree_store {M : Int} {f : Int → Int} {L : List (Int × Int)} (h : Agree f L) (a x : Int) : Agree (storeS M f a x) (storeL M L a x) := by
  unfold storeS storeL
  by_cases e : errS M a = 0
  · rw [if_pos e, if_pos e]
    have := agree_set h (a / 8) x
    rwa [aligned (errS_in e).2] at this
  · rw [if_neg e, if_neg e]; exact h
/-- a boxed memory and a variable for the result, laid one behind the other, in a later world -/
structure Boxed (w w1 : World) (x0 x1 x2 y0 y1 y2 : Value) : Prop where
  box : Three w1 w.heap.size x0 x1 x2
  res : Three w1 (w.heap.size + 1) y0 y1 y2
  below : Below w.heap.size w w1
  size : w.heap.size + 2 ≤ w1.heap.size
  blk : ∃ t, w1.heap[w.heap.size + 1]? = some (.cells #[y0, y1, y2] t (0, 0))

theorem Boxed.step {w w1 w2 : World} {x0 x1 x2 y0 y1 y2 : Value} (h : Boxed w w1 x0 x1 x2 y0 y1 y2) (hb : Below w1.heap.size w1 w2) : Boxed w w2 x0 x1 x2 y0 y1 y2 :=
  ⟨three_below h.box hb (by have := h.size; omega), three_below h.res hb (by have := h.size; omega), h.below.trans (hb.mono h.below.size), Nat.le_trans h.size hb.size, by obtain ⟨t, ht⟩ := h.blk; exact ⟨t, (hb.block _ (by have := h.size; omega)).trans ht⟩⟩

end Go.Proofs.YtopmmlcjlopmaaaGreatDoor
