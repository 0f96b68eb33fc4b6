/- Several texts of ours in one: L8s, Hs, Ht. -/
import Derived.Test.YtopmmlcjlopmaaaGreatDoorGHfHgGc
import Derived.Test.YtopmmlcjlopmaaaGreatDoorGKaHmHn
import Derived.Test.YtopmmlcjlopmaaaGreatDoorGRlRsRp
import Derived.Test.YtopmmlcjlopmaaaGreatDoorGHpHqHu
/- The walk of WalkSteps. -/
namespace Go.Proofs.YtopmmlcjlopmaaaGreatDoor
set_option linter.unusedVariables false
set_option linter.unusedSimpArgs false
open Go.ChangeShapes Go.WideShapes Go.ChangeAt Go.RowKit Go.Joins

/-- what lies where: the path's box, the steps, the trace -/
structure Sc (w0 wr : World) (b : Nat) (v vt : Value) (P : Pth) : Prop where
  box : Blk wr b (pathCells v P) 37
  steps : StepsIn wr v P.steps
  trace : WordsOwn wr vt (slotsP P.steps)
  below : Below w0.heap.size w0 wr

theorem Sc.quiet {w0 wr w3 : World} {b : Nat} {v vt : Value} {P : Pth} (h : Sc w0 wr b v vt P) (hb : Below wr.heap.size wr w3) : Sc w0 w3 b v vt P :=
  ⟨h.box.below hb, h.steps.below hb, own_below h.trace hb, h.below.trans (hb.mono h.below.size)⟩

end Go.Proofs.YtopmmlcjlopmaaaGreatDoor
/- Contracts of package walk: unused, Same. (Laid by tools/gen_hs.py.) -/
namespace Go.Proofs.YtopmmlcjlopmaaaGreatDoor
set_option linter.unusedVariables false
set_option linter.unusedSimpArgs false
open Go.ChangeShapes Go.WideShapes Go.ChangeAt Go.RowKit Go.Joins

/-- a word without A and D -/
def bareF (x : Int) : Int := bits .andNot .u64 x 96

/-- two paths in the variables of a call -/
structure Two (w wr : World) (pb : Nat) (v : Value) (P : Pth) (qb : Nat) (v' : Value) (Q : Pth) : Prop where
  boxP : Blk wr pb (pathCells v P) 37
  boxQ : Blk wr qb (pathCells v' Q) 37
  stepsP : StepsIn wr v P.steps
  stepsQ : StepsIn wr v' Q.steps
  below : Below w.heap.size w wr

section
variable {w wr w3 : World} {pb qb : Nat} {v v' : Value} {P Q : Pth}
theorem Two.quiet (h : Two w wr pb v P qb v' Q) (hb : Below wr.heap.size wr w3) : Two w w3 pb v P qb v' Q :=
  ⟨h.boxP.below hb, h.boxQ.below hb, h.stepsP.below hb, h.stepsQ.below hb, h.below.trans (hb.mono h.below.size)⟩
theorem Two.start (h1 : StepsIn w v P.steps) (h2 : StepsIn w v' Q.steps) : Two w ((w.alloc (.cells (pathCells v P) 37)).alloc (.cells (pathCells v' Q) 37)) w.heap.size v P (w.heap.size + 1) v' Q :=
  ⟨(Blk.new w _ _).alloc _, last_obj2 w _ _, h1.below (below2 w _ _), h2.below (below2 w _ _), below2 w _ _⟩
end

end Go.Proofs.YtopmmlcjlopmaaaGreatDoor
/- Walks through words that are alike but for A and D. Two memories that turn by turns; a path beside both. -/
namespace Go.Proofs.YtopmmlcjlopmaaaGreatDoor
set_option linter.unusedVariables false
set_option linter.unusedSimpArgs false
open Go.ChangeShapes Go.WideShapes Go.ChangeAt Go.RowKit Go.Joins

/-- two words alike but for the bits 5 and 6 -/
structure Al (x y : Int) : Prop where
  wx : W64 x
  wy : W64 y
  rest : ∀ i, i ≠ 5 → i ≠ 6 → tb x i = tb y i

theorem Al.refl {x : Int} (h : W64 x) : Al x x := ⟨h, h, fun _ _ _ => rfl⟩
theorem Al.trans {x y z : Int} (a : Al x y) (b : Al y z) : Al x z := ⟨a.wx, b.wy, fun i h5 h6 => (a.rest i h5 h6).trans (b.rest i h5 h6)⟩
theorem Up.al {f g : Int → Int} (h : Up f g) (hf : ∀ j, W64 (f j)) (j : Int) : Al (f j) (g j) := ⟨hf j, h.w j, fun i h5 h6 => (h.rest j i h5 h6).symm⟩
/-- two walks alike but for A and D -/
structure AlP (P Q : Pth) : Prop where
  why : P.why = Q.why
  W : P.W = Q.W
  U : P.U = Q.U
  X : P.X = Q.X
  lev : P.lev = Q.lev
  fr : P.fr = Q.fr
  len : P.steps.length = Q.steps.length
  at_ : ∀ i, i < P.steps.length → (stepAt P.steps i).1 = (stepAt Q.steps i).1 ∧ (stepAt P.steps i).2.1 = (stepAt Q.steps i).2.1 ∧ bareF (stepAt P.steps i).2.2 = bareF (stepAt Q.steps i).2.2

theorem AlP.refl (P : Pth) : AlP P P := ⟨rfl, rfl, rfl, rfl, rfl, rfl, rfl, fun _ _ => ⟨rfl, rfl, rfl⟩⟩
/-- two memories that turn by turns -/
structure Par (w wr : World) (mk : Nat) (h : Int → Int) (tk : List Int) (nk : Nat) (G : Nat → Prop) (m : Nat) (f : Int → Int) (tm : List Int) (nm : Nat) (H : Nat → Prop) : Prop where
  k : Wk w wr (From w.heap.size) mk 16 h tk nk G
  m : Wk w wr (From w.heap.size) m 16 f tm nm H
  free : ∀ i, G i → ¬ H i
  sh : Shifts wr

section
variable {w wr w3 w4 : World} {mk m nk nm nk' : Nat} {h h' f : Int → Int} {tk tk' tm : List Int} {G G' H : Nat → Prop}
theorem Par.swap (p : Par w wr mk h tk nk G m f tm nm H) : Par w wr m f tm nm H mk h tk nk G := ⟨p.m, p.k, fun i hi hg => p.free i hg hi, p.sh⟩
theorem Par.quiet (p : Par w wr mk h tk nk G m f tm nm H) (hb : Below wr.heap.size wr w3) : Par w w3 mk h tk nk G m f tm nm H := ⟨p.k.quiet hb, p.m.quiet hb, p.free, shifts_under p.sh hb (size_shifts p.sh)⟩
theorem Par.step (p : Par w wr mk h tk nk G m f tm nm H) (hz : 1 < w.heap.size) (s : Wk wr w4 G mk 16 h' tk' nk' G') : Par w w4 mk h' tk' nk' G' m f tm nm H :=
  ⟨p.k.join s, p.m.other s.turn (fun i _ hg hh => p.free i hg hh) (fun i hi => (p.k.foot i hi).2), fun i hg hh => by
    rcases (s.foot i hg).2 with h1 | h1
    · exact p.free i h1 hh
    · have := (p.m.foot i hh).1; omega, shifts_turn p.sh s.turn (p.k.no0 hz)⟩
end

/-- a path in a variable, beside blocks that turn -/
structure Pat (wr : World) (b : Nat) (v : Value) (P : Pth) (G H : Nat → Prop) : Prop where
  box : Blk wr b (pathCells v P) 37
  nb : ¬ G b ∧ ¬ H b
  own : StepsOwn 99 wr 0 v P.steps
  nv : ∀ i, v.ownBlock = some i → ¬ G i ∧ ¬ H i

section
variable {w wr w3 w4 : World} {B b mk m nk nm nk' : Nat} {v : Value} {P : Pth} {h h' f : Int → Int} {tk tk' tm : List Int} {G G' H : Nat → Prop}
theorem Pat.swap (p : Pat wr b v P G H) : Pat wr b v P H G := ⟨p.box, ⟨p.nb.2, p.nb.1⟩, p.own, fun i hi => ⟨(p.nv i hi).2, (p.nv i hi).1⟩⟩
theorem Pat.quiet (p : Pat wr b v P G H) (hb : Below wr.heap.size wr w3) : Pat w3 b v P G H := ⟨p.box.below hb, p.nb, p.own.below hb, p.nv⟩
theorem Pat.step (p : Pat wr b v P G H) (s : Wk wr w4 G mk 16 h' tk' nk' G') : Pat w4 b v P G' H :=
  ⟨p.box.turn s.turn p.nb.1, ⟨s.free p.nb.1 p.box.lt, p.nb.2⟩, p.own.turn s.turn (fun i hi => (p.nv i hi).1), fun i hi => ⟨s.free (p.nv i hi).1 (p.own.lt hi).2, (p.nv i hi).2⟩⟩
/-- a path that a walk through the memory mk answered is laid in a new variable -/
theorem Pat.new (q : Par w wr mk h tk nk G m f tm nm H) (hs : StepsOwn 99 wr B v P.steps) (hv : ∀ i, v.ownBlock = some i → ¬ G i) (hH : ∀ i, v.ownBlock = some i → ¬ H i) :
    Pat (wr.alloc (.cells (pathCells v P) 37)) wr.heap.size v P G H :=
  ⟨Blk.new _ _ _, ⟨fun hg => by have := (q.k.foot _ hg).1; omega, fun hg => by have := (q.m.foot _ hg).1; omega⟩, (hs.down (Nat.zero_le _)).below (below_alloc1 _ _), fun i hi => ⟨hv i hi, hH i hi⟩⟩
end

end Go.Proofs.YtopmmlcjlopmaaaGreatDoor
