/- Several texts of ours in one: Wr, Rf, Rl. -/
import Derived.Test.YtddbjbdhbeijjaaDoorGHcDpWa
import Derived.Test.YtddbjbdhbeijjaaDoorGVmRN
import Derived.Maps.AppendAt
import Derived.OwnWalk
import Derived.Laws.OwnMore
import Derived.Test.YtddbjbdhbeijjaaDoorGVaVrFr
import Derived.Laws.AppendOwnNone
import Derived.Laws.ResultCell
/- Contracts of package dormerref02: each answers as package word does. -/
namespace Go.Proofs.YtddbjbdhbeijjaaDoor
set_option linter.unusedVariables false
set_option linter.unusedSimpArgs false
open Go.ChangeShapes Go.WideShapes Go.ChangeAt Go.RowKit Go.Joins

end Go.Proofs.YtddbjbdhbeijjaaDoor
/- Contracts of package dormerref04: a memory of the document's, by its slots and its trace; what only reads. -/
namespace Go.Proofs.YtddbjbdhbeijjaaDoor
set_option linter.unusedVariables false
set_option linter.unusedSimpArgs false
open Go.ChangeShapes Go.WideShapes Go.ChangeAt Go.RowKit Go.Joins

def WordsOwn (w : World) (vt : Value) (tr : List Int) : Prop := w.ownsRow 0 31 1 vt tr.length (tr.map (Value.int .u64))

theorem own_below {w w' : World} {base : Nat} {e : TypeId} {sz : Nat} {v : Value} {n : Nat} {xs : List Value} (h : w.ownsRow base e sz v n xs) (hb : Below w.heap.size w w') : w'.ownsRow base e sz v n xs :=
  h.kept (row := none) ⟨hb.os, hb.tape, hb.output, hb.size, fun k hk _ => hb.block k hk⟩ (by cases hv : v.ownBlock <;> simp)

/-- a slot's word -/
def wordL : List (Int × Int) → Int → Int
  | [], _ => 0
  | p :: L, a => if p.1 = a then p.2 else wordL L a

theorem wordL_miss : ∀ (L : List (Int × Int)) (a : Int), (∀ j, j < L.length → (L.getD j (0, 0)).1 ≠ a) → wordL L a = 0
  | [], _, _ => rfl
  | p :: L, a, hn => by
    have h0 : p.1 ≠ a := hn 0 (by simp)
    simp only [wordL]
    rw [if_neg h0]
    exact wordL_miss L a (fun j hj => hn (j + 1) (by simpa using hj))

end Go.Proofs.YtddbjbdhbeijjaaDoor
/- Contracts of package dormerref04: Get, Load. -/
namespace Go.Proofs.YtddbjbdhbeijjaaDoor
set_option linter.unusedVariables false
set_option linter.unusedSimpArgs false
open Go.ChangeShapes Go.WideShapes Go.ChangeAt Go.RowKit Go.Joins

/-- a block of three cells, as it was laid, in a later world -/
structure Three (w : World) (b : Nat) (x y z : Value) : Prop where
  c0 : w.cell? ⟨b, 0, none⟩ = some x
  c1 : w.cell? ⟨b, 1, none⟩ = some y
  c2 : w.cell? ⟨b, 2, none⟩ = some z
  f0 : w.frozen? ⟨b, 0, none⟩ = false
  f1 : w.frozen? ⟨b, 1, none⟩ = false
  f2 : w.frozen? ⟨b, 2, none⟩ = false

theorem three_block {w w' : World} {b : Nat} {x y z : Value} (h : Three w b x y z) (e : w'.heap[b]? = w.heap[b]?) : Three w' b x y z :=
  ⟨(World.cell?_of_block (a := ⟨b, 0, none⟩) e).trans h.c0, (World.cell?_of_block (a := ⟨b, 1, none⟩) e).trans h.c1, (World.cell?_of_block (a := ⟨b, 2, none⟩) e).trans h.c2, (World.frozen?_of_block (a := ⟨b, 0, none⟩) e).trans h.f0, (World.frozen?_of_block (a := ⟨b, 1, none⟩) e).trans h.f1, (World.frozen?_of_block (a := ⟨b, 2, none⟩) e).trans h.f2⟩
theorem three_below {w w' : World} {b B : Nat} {x y z : Value} (h : Three w b x y z) (hb : Below B w w') (hB : b < B) : Three w' b x y z := three_block h (hb.block b hB)
theorem app_step {w1 w2 : World} {B : Nat} {o : Obj} {row : Option Nat} (hz : B ≤ w1.heap.size) (hg : (w1.alloc o).grownBy w2 row) (hr : ∀ k, row = some k → B ≤ k) : Below B w1 w2 :=
  ((Below.refl _ w1).alloc hz o).grown hg (by simp; omega) hr
theorem row_zero {w1 : World} {base : Nat} {e : TypeId} {size : Nat} {v : Value} {n : Nat} {xs : List Value} (h : w1.ownsRow base e size v n xs) : w1.ownsRow 0 e size v n xs := by
  refine ⟨h.1, ?_⟩
  rcases h.2 with hn | ⟨g, cap, cur, hv, _, r⟩
  · exact Or.inl hn
  · exact Or.inr ⟨g, cap, cur, hv, Nat.zero_le _, r⟩

end Go.Proofs.YtddbjbdhbeijjaaDoor
