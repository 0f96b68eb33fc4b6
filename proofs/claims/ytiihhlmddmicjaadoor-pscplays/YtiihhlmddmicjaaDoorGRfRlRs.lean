/- Several texts of ours in one: Rf, Rl, Rs. -/
import Derived.Test.YtiihhlmddmicjaaDoorGDpWaWr
import Derived.Test.YtiihhlmddmicjaaDoorGVaVrFr
import Derived.Laws.AppendOwnNone
import Derived.Laws.ResultCell
/- Contracts of package dormerref04: a memory of the document's, by its slots and its trace; what only reads. -/
namespace Go.Proofs.YtiihhlmddmicjaaDoor
set_option linter.unusedVariables false
set_option linter.unusedSimpArgs false
open Go.ChangeShapes Go.WideShapes Go.ChangeAt Go.RowKit Go.Joins

def WordsOwn (w : World) (vt : Value) (tr : List Int) : Prop := w.ownsRow 0 34 1 vt tr.length (tr.map (Value.int .u64))

theorem own_below {w w' : World} {base : Nat} {e : TypeId} {sz : Nat} {v : Value} {n : Nat} {xs : List Value} (h : w.ownsRow base e sz v n xs) (hb : Below w.heap.size w w') : w'.ownsRow base e sz v n xs :=
  h.kept (row := none) ⟨hb.os, hb.tape, hb.output, hb.size, fun k hk _ => hb.block k hk⟩ (by cases hv : v.ownBlock <;> simp)

/-- a slot's word -/
def wordL : List (Int × Int) → Int → Int
  | [], _ => 0
  | p :: L, a => if p.1 = a then p.2 else wordL L a

theorem wordL_miss : ∀ (L : List (Int × Int)) (a : Int), (∀ j, j < L.length → (L.getD j (0, 0)).1 ≠ a) → wordL L a = 0
  | [], _, _ => rfl
  | p :: L, a, hn => by
    have h0 : p.1 ≠ a := hn 0 (by simp)
    simp only [wordL]
    rw [if_neg h0]
    exact wordL_miss L a (fun j hj => hn (j + 1) (by simpa using hj))

end Go.Proofs.YtiihhlmddmicjaaDoor
/- Contracts of package dormerref04: Get, Load. -/
namespace Go.Proofs.YtiihhlmddmicjaaDoor
set_option linter.unusedVariables false
set_option linter.unusedSimpArgs false
open Go.ChangeShapes Go.WideShapes Go.ChangeAt Go.RowKit Go.Joins

/-- a block of three cells, as it was laid, in a later world -/
structure Three (w : World) (b : Nat) (x y z : Value) : Prop where
  c0 : w.cell? ⟨b, 0, none⟩ = some x
  c1 : w.cell? ⟨b, 1, none⟩ = some y
  c2 : w.cell? ⟨b, 2, none⟩ = some z
  f0 : w.frozen? ⟨b, 0, none⟩ = false
  f1 : w.frozen? ⟨b, 1, none⟩ = false
  f2 : w.frozen? ⟨b, 2, none⟩ = false

theorem three_block {w w' : World} {b : Nat} {x y z : Value} (h : Three w b x y z) (e : w'.heap[b]? = w.heap[b]?) : Three w' b x y z :=
  ⟨(World.cell?_of_block (a := ⟨b, 0, none⟩) e).trans h.c0, (World.cell?_of_block (a := ⟨b, 1, none⟩) e).trans h.c1, (World.cell?_of_block (a := ⟨b, 2, none⟩) e).trans h.c2, (World.frozen?_of_block (a := ⟨b, 0, none⟩) e).trans h.f0, (World.frozen?_of_block (a := ⟨b, 1, none⟩) e).trans h.f1, (World.frozen?_of_block (a := ⟨b, 2, none⟩) e).trans h.f2⟩
theorem three_below {w w' : World} {b B : Nat} {x y z : Value} (h : Three w b x y z) (hb : Below B w w') (hB : b < B) : Three w' b x y z := three_block h (hb.block b hB)
theorem app_step {w1 w2 : World} {B : Nat} {o : Obj} {row : Option Nat} (hz : B ≤ w1.heap.size) (hg : (w1.alloc o).grownBy w2 row) (hr : ∀ k, row = some k → B ≤ k) : Below B w1 w2 :=
  ((Below.refl _ w1).alloc hz o).grown hg (by simp; omega) hr
theorem row_zero {w1 : World} {base : Nat} {e : TypeId} {size : Nat} {v : Value} {n : Nat} {xs : List Value} (h : w1.ownsRow base e size v n xs) : w1.ownsRow 0 e size v n xs := by
  refine ⟨h.1, ?_⟩
  rcases h.2 with hn | ⟨g, cap, cur, hv, _, r⟩
  · exact Or.inl hn
  · exact Or.inr ⟨g, cap, cur, hv, Nat.zero_le _, r⟩

end Go.Proofs.YtiihhlmddmicjaaDoor
/- Contracts of package dormerref04: set. -/
namespace Go.Proofs.YtiihhlmddmicjaaDoor
set_option linter.unusedVariables false
set_option linter.unusedSimpArgs false
open Go.ChangeShapes Go.WideShapes Go.ChangeAt Go.RowKit Go.Joins

def stepL (a x : Int) (s : List (Int × Int) × Bool) (p : Int × Int) : List (Int × Int) × Bool :=
  if p.1 = a then s else if s.2 = false ∧ a < p.1 then ((s.1 ++ [(a, x)]) ++ [p], true) else (s.1 ++ [p], s.2)
def stL (L : List (Int × Int)) (a x : Int) (k : Nat) : List (Int × Int) × Bool := (L.take k).foldl (stepL a x) ([], false)
/-- the slots with x at a -/
def setL (L : List (Int × Int)) (a x : Int) : List (Int × Int) := if (stL L a x L.length).2 then (stL L a x L.length).1 else (stL L a x L.length).1 ++ [(a, x)]

def hasL (L : List (Int × Int)) (a : Int) : Bool := L.any fun p => p.1 == a
theorem wordL_append (L K : List (Int × Int)) (a : Int) : wordL (L ++ K) a = if hasL L a then wordL L a else wordL K a := by
  induction L with
  | nil => rfl
  | cons p L ih =>
    by_cases h : p.1 = a
    · simp [wordL, hasL, h]
    · have hb : (p.1 == a) = false := by simpa using h
      have hh : hasL (p :: L) a = hasL L a := by unfold hasL; rw [List.any_cons, hb, Bool.false_or]
      simp only [List.cons_append, wordL, if_neg h, ih, hh]
theorem hasL_append (L K : List (Int × Int)) (a : Int) : hasL (L ++ K) a = (hasL L a || hasL K a) := by simp [hasL]
theorem hasL_one (p : Int × Int) (a : Int) : hasL [p] a = (p.1 == a) := by simp [hasL]

/-- what the loop has made of the slots P: all of them but a; a with x, if it is done -/
structure Made (P : List (Int × Int)) (a x : Int) (s : List (Int × Int) × Bool) : Prop where
  has : ∀ b, b ≠ a → hasL s.1 b = hasL P b
  word : ∀ b, b ≠ a → wordL s.1 b = wordL P b
  done : s.2 = true → hasL s.1 a = true ∧ wordL s.1 a = x
  open_ : s.2 = false → hasL s.1 a = false
  len : s.1.length ≤ P.length + (if s.2 then 1 else 0)

theorem Made.step {P : List (Int × Int)} {a x : Int} {s : List (Int × Int) × Bool} (h : Made P a x s) (p : Int × Int) : Made (P ++ [p]) a x (stepL a x s p) := by
  unfold stepL
  by_cases h1 : p.1 = a
  · rw [if_pos h1]
    refine ⟨fun b hb => ?_, fun b hb => ?_, h.done, h.open_, by have := h.len; simp; omega⟩
    · rw [h.has b hb, hasL_append, hasL_one]; simp [h1, Ne.symm hb]
    · rw [h.word b hb, wordL_append]
      split
      · rfl
      · rename_i hn
        have : wordL P b = 0 := by
          apply wordL_miss
          intro j hj e
          apply hn
          unfold hasL
          rw [List.any_eq_true]
          exact ⟨P.getD j (0, 0), by simp [List.getD, List.getElem?_eq_getElem hj], by simpa using e⟩
        rw [this]; simp [wordL, h1, Ne.symm hb]
  · rw [if_neg h1]
    by_cases h2 : s.2 = false ∧ a < p.1
    · rw [if_pos h2]
      have ho := h.open_ h2.1
      refine ⟨fun b hb => ?_, fun b hb => ?_, fun _ => ⟨?_, ?_⟩, fun e => by simp at e, by have := h.len; simp [h2.1] at this ⊢; omega⟩
      · have hab : (a == b) = false := by simpa using Ne.symm hb
        simp only [hasL_append, hasL_one, h.has b hb, hab, Bool.or_false]
      · have hab : (a == b) = false := by simpa using Ne.symm hb
        simp only [wordL_append, hasL_append, hasL_one, h.has b hb, h.word b hb, hab, Bool.or_false]
        by_cases hp : hasL P b = true
        · rw [if_pos hp, if_pos hp, if_pos hp]
        · rw [if_neg hp, if_neg hp]
      · simp only [hasL_append, hasL_one]
        simp
      · simp only [wordL_append, hasL_append, hasL_one, ho]
        simp [wordL]
    · rw [if_neg h2]
      refine ⟨fun b hb => ?_, fun b hb => ?_, fun e => ?_, fun e => ?_, by have := h.len; simp at this ⊢; omega⟩
      · simp [hasL_append, h.has b hb]
      · simp only [wordL_append, h.has b hb, h.word b hb]
      · have := h.done e
        simp only [wordL_append, hasL_append, this.1]
        simp [this.2]
      · simp [hasL_append, hasL_one, h.open_ e, h1]

/-- what set's loop keeps: the boxed memory, the result's variable, all that was there -/
def SetRel (w wr : World) (M : Int) (A : Option Addr) (n c : Nat) (A' : Option Addr) (n' c' : Nat) : Prop :=
  Hid (Three wr w.heap.size (.int .i64 M) (.slice A n c) (.slice A' n' c')) ∧ Hid (Three wr (w.heap.size + 1) (.int .i64 0) (.slice none 0 0) (.slice none 0 0)) ∧ Hid (Below w.heap.size w wr) ∧ Hid (w.heap.size + 2 ≤ wr.heap.size)

theorem SetRel.step {w wr w1 : World} {M : Int} {A : Option Addr} {n c : Nat} {A' : Option Addr} {n' c' : Nat} (h : SetRel w wr M A n c A' n' c') (hb : Below (w.heap.size + 2) wr w1) : SetRel w w1 M A n c A' n' c' :=
  ⟨three_below h.1.out hb (by omega), three_below h.2.1.out hb (by omega), h.2.2.1.out.trans (hb.mono (by omega)), Nat.le_trans h.2.2.2.out hb.size⟩

end Go.Proofs.YtiihhlmddmicjaaDoor
