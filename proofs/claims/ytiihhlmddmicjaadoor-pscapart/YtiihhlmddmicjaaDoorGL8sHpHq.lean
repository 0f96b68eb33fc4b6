/- Several texts of ours in one: L8s, Hp, Hq. -/
import Derived.Test.YtiihhlmddmicjaaDoorGHeHfHg
import Derived.Test.YtiihhlmddmicjaaDoorGJaHmHn
import Derived.Test.YtiihhlmddmicjaaDoorGRfRlRs
/- The walk of WalkSteps. -/
namespace Go.Proofs.YtiihhlmddmicjaaDoor
set_option linter.unusedVariables false
set_option linter.unusedSimpArgs false
open Go.ChangeShapes Go.WideShapes Go.ChangeAt Go.RowKit Go.Joins

/-- what lies where: the path's box, the steps, the trace -/
structure Sc (w0 wr : World) (b : Nat) (v vt : Value) (P : Pth) : Prop where
  box : Blk wr b (pathCells v P) 39
  steps : StepsIn wr v P.steps
  trace : WordsOwn wr vt (slotsP P.steps)
  below : Below w0.heap.size w0 wr

theorem Sc.quiet {w0 wr w3 : World} {b : Nat} {v vt : Value} {P : Pth} (h : Sc w0 wr b v vt P) (hb : Below wr.heap.size wr w3) : Sc w0 w3 b v vt P :=
  ⟨h.box.below hb, h.steps.below hb, own_below h.trace hb, h.below.trans (hb.mono h.below.size)⟩

end Go.Proofs.YtiihhlmddmicjaaDoor
/- A path in a variable of a law's own, beside a memory. -/
namespace Go.Proofs.YtiihhlmddmicjaaDoor
set_option linter.unusedVariables false
set_option linter.unusedSimpArgs false
open Go.ChangeShapes Go.WideShapes Go.ChangeAt Go.RowKit Go.Joins

structure Scn (w wr : World) (b : Nat) (v : Value) (P : Pth) (G : Nat → Prop) : Prop where
  box : Blk wr b (pathCells v P) 39
  nb : ¬ G b
  ge : w.heap.size ≤ b
  own : StepsOwn 65 wr w.heap.size v P.steps
  nv : ∀ i, v.ownBlock = some i → ¬ G i

section
variable {w wr w3 w4 : World} {b : Nat} {v : Value} {P : Pth} {G G' H : Nat → Prop} {m : Nat} {M : Int} {f f' : Int → Int} {tr tr' : List Int} {n n' : Nat}

theorem StepsOwn.down {e : TypeId} {B B' : Nat} {S : List (Int × Int × Int)} (h : StepsOwn e wr B v S) (hB : B' ≤ B) : StepsOwn e wr B' v S := by
  refine ⟨h.1, ?_⟩
  rcases h.2 with h2 | ⟨g, cap, cur, hv, hb, r⟩
  · exact Or.inl h2
  · exact Or.inr ⟨g, cap, cur, hv, Nat.le_trans hB hb, r⟩

/-- a path that a call answered is laid in a new variable -/
theorem Scn.new (h : Wk w wr (From w.heap.size) m M f tr n G) (hS : StepsOwn 65 wr w.heap.size v P.steps) (hv : ∀ i, v.ownBlock = some i → ¬ G i) :
    Scn w (wr.alloc (.cells (pathCells v P) 39)) wr.heap.size v P G ∧ Wk w (wr.alloc (.cells (pathCells v P) 39)) (From w.heap.size) m M f tr n G :=
  ⟨⟨Blk.new _ _ _, fun hg => by have := (h.foot _ hg).1; omega, h.turn.size, hS.below (below_alloc1 _ _), hv⟩, h.quiet (below_alloc1 _ _)⟩
theorem Scn.turn (h : Scn w wr b v P G) (ht : Turn H wr w3) (hb : ¬ H b) (hv : ∀ i, v.ownBlock = some i → ¬ H i) : Scn w w3 b v P G :=
  ⟨h.box.turn ht hb, h.nb, h.ge, h.own.turn ht hv, h.nv⟩
theorem Scn.step (h : Scn w wr b v P G) (k : Wk wr w4 G m M f' tr' n' G') : Scn w w4 b v P G' :=
  ⟨h.box.turn k.turn h.nb, k.free h.nb h.box.lt, h.ge, h.own.turn k.turn h.nv, fun i hi => k.free (h.nv i hi) (h.own.lt hi).2⟩
theorem Scn.quiet (h : Scn w wr b v P G) (hb : Below wr.heap.size wr w3) : Scn w w3 b v P G :=
  ⟨h.box.below hb, h.nb, h.ge, h.own.below hb, h.nv⟩
/-- a step of it -/
theorem Scn.cells {A : Option Addr} {L c : Nat} (h : Scn w wr b (.slice A L c) P G) {k : Nat} (hk : k < P.steps.length) : ∃ ad, A = some ad ∧ wr.cell? (ad.add (k * 3)) = some (.int .i64 (stepAt P.steps k).1) ∧ wr.cell? ⟨(ad.add (k * 3)).block, (ad.add (k * 3)).off + 1, none⟩ = some (.int .u64 (stepAt P.steps k).2.1) ∧ wr.cell? ⟨(ad.add (k * 3)).block, (ad.add (k * 3)).off + 2, none⟩ = some (.int .u64 (stepAt P.steps k).2.2) := by
  obtain ⟨A', c', hv, hc⟩ := h.own.into
  obtain ⟨ad, hA, d0, d1, d2⟩ := hc k hk
  simp at hv
  exact ⟨ad, hv.1.trans hA, d0, d1, d2⟩
end
end Go.Proofs.YtiihhlmddmicjaaDoor
/- Contracts of package walk: set, Mark. -/
namespace Go.Proofs.YtiihhlmddmicjaaDoor
set_option linter.unusedVariables false
set_option linter.unusedSimpArgs false
open Go.ChangeShapes Go.WideShapes Go.ChangeAt Go.RowKit Go.Joins

/-- Mark, in its loop -/
structure Mk (w wr : World) (F : Nat → Prop) (m : Nat) (M : Int) (f : Int → Int) (tr : List Int) (n : Nat) (v : Value) (S : List (Int × Int × Int)) (cs : Array Value) (G : Nat → Prop) : Prop where
  wk : Wk w wr F m M f tr n G
  box : Blk wr w.heap.size cs 39
  nb : ¬ G w.heap.size
  own : StepsOwn 65 wr 0 v S
  nv : ∀ i, v.ownBlock = some i → ¬ G i

section
variable {w wr w3 : World} {F G : Nat → Prop} {m : Nat} {M : Int} {f f' : Int → Int} {tr tr' : List Int} {n n' : Nat} {v : Value} {S : List (Int × Int × Int)} {cs : Array Value}
theorem Mk.quiet (h : Mk w wr F m M f tr n v S cs G) (hb : Below wr.heap.size wr w3) : Mk w w3 F m M f tr n v S cs G := ⟨h.wk.quiet hb, h.box.below hb, h.nb, h.own.below hb, h.nv⟩
theorem Mk.step (h : Mk w wr F m M f tr n v S cs G) (hm : Mem w3 (Since G wr) m M f' tr' n') (ht : Turn G wr w3) : ∃ G', Mk w w3 F m M f' tr' n' v S cs G' :=
  ⟨_, h.wk.step hm ht, h.box.turn ht h.nb, step_free h.nb h.box.lt, h.own.turn ht h.nv, fun i hi => step_free (h.nv i hi) (h.own.lt hi).2⟩
theorem Mk.start (h : Mem w F m M f tr n) (hS : StepsOwn 65 w 0 v S) (hv : ∀ i, v.ownBlock = some i → ¬ F i) (cs : Array Value) : Mk w (w.alloc (.cells cs 39)) F m M f tr n v S cs (fun i => F i ∧ i < w.heap.size) :=
  ⟨(Wk.start h).quiet (below_alloc1 _ _), Blk.new _ _ _, fun h => by omega, hS.below (below_alloc1 _ _), fun i hi hf => hv i hi hf.1⟩
end

end Go.Proofs.YtiihhlmddmicjaaDoor
