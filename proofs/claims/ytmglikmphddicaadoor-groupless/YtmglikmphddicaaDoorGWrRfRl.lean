/- Several texts of ours in one: Wr, Rf, Rl. -/
import Derived.Test.YtmglikmphddicaaDoorGHcDpWa
import Derived.Test.YtmglikmphddicaaDoorGCaRN
import Derived.Maps.AppendAt
import Derived.OwnWalk
import Derived.Laws.OwnMore
import Derived.Test.YtmglikmphddicaaDoorGNaVaFr
import Derived.Laws.AppendOwnNone
import Derived.Laws.ResultCell
/- Contracts of package dormerref02: each answers as package word does. -/
namespace Go.Proofs.YtmglikmphddicaaDoor
set_option linter.unusedVariables false
set_option linter.unusedSimpArgs false
open Go.ChangeShapes Go.WideShapes Go.ChangeAt Go.RowKit Go.Joins

end Go.Proofs.YtmglikmphddicaaDoor
/- Contracts of package dormerref04: a memory of the document's, by its slots and its trace; what only reads. -/
namespace Go.Proofs.YtmglikmphddicaaDoor
set_option linter.unusedVariables false
set_option linter.unusedSimpArgs false
open Go.ChangeShapes Go.WideShapes Go.ChangeAt Go.RowKit Go.Joins

/-- a slot's word -/
def wordL : List (Int × Int) → Int → Int
  | [], _ => 0
  | p :: L, a => if p.1 = a then p.2 else wordL L a

theorem wordL_miss : ∀ (L : List (Int × Int)) (a : Int), (∀ j, j < L.length → (L.getD j (0, 0)).1 ≠ a) → wordL L a = 0
  | [], _, _ => rfl
  | p :: L, a, hn => by
    have h0 : p.1 ≠ a := hn 0 (by simp)
    simp only [wordL]
    rw [if_neg h0]
    exact wordL_miss L a (fun j hj => hn (j + 1) (by simpa using hj))

end Go.Proofs.YtmglikmphddicaaDoor
/- Contracts of package dormerref04: Get, Load. -/
namespace Go.Proofs.YtmglikmphddicaaDoor
set_option linter.unusedVariables false
set_option linter.unusedSimpArgs false
open Go.ChangeShapes Go.WideShapes Go.ChangeAt Go.RowKit Go.Joins

/-- a block of three cells, as it was laid, in a later world -/
structure Three (w : World) (b : Nat) (x y z : Value) : Prop where
  c0 : w.cell? ⟨b, 0, none⟩ = some x
  c1 : w.cell? ⟨b, 1, none⟩ = some y
  c2 : w.cell? ⟨b, 2, none⟩ = some z
  f0 : w.frozen? ⟨b, 0, none⟩ = false
  f1 : w.frozen? ⟨b, 1, none⟩ = false
  f2 : w.frozen? ⟨b, 2, none⟩ = false

theorem three_block {w w' : World} {b : Nat} {x y z : Value} (h : Three w b x y z) (e : w'.heap[b]? = w.heap[b]?) : Three w' b x y z :=
  ⟨(World.cell?_of_block (a := ⟨b, 0, none⟩) e).trans h.c0, (World.cell?_of_block (a := ⟨b, 1, none⟩) e).trans h.c1, (World.cell?_of_block (a := ⟨b, 2, none⟩) e).trans h.c2, (World.frozen?_of_block (a := ⟨b, 0, none⟩) e).trans h.f0, (World.frozen?_of_block (a := ⟨b, 1, none⟩) e).trans h.f1, (World.frozen?_of_block (a := ⟨b, 2, none⟩) e).trans h.f2⟩
theorem three_below {w w' : World} {b B : Nat} {x y z : Value} (h : Three w b x y z) (hb : Below B w w') (hB : b < B) : Three w' b x y z := three_block h (hb.block b hB)
end Go.Proofs.YtmglikmphddicaaDoor
