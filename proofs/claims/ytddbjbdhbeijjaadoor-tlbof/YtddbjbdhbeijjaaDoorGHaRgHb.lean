/- Several texts of ours in one: Ha, Rg, Hb. -/
import Derived.Test.YtddbjbdhbeijjaaDoorGWmMdMe
import Derived.Test.YtddbjbdhbeijjaaDoorGEaEbGa
import Derived.Deep.RegionHeld
import Derived.Deep.DrawnRows
import Derived.Test.YtddbjbdhbeijjaaDoorGKpGbMc
import Derived.Deep.RegionHeld3
import Derived.Deep.LoopGhost
/- Plain mathematics of walks: the document's walk as a function of the memory's words. Nothing of the program. -/
namespace Go.Proofs.YtddbjbdhbeijjaaDoor
set_option linter.unusedVariables false
set_option linter.unusedSimpArgs false

/-- a walk: its steps (level, slot, word), why it ended, the rights, the leaf's level, and its frame -/
structure Pth where
  steps : List (Int × Int × Int)
  why : Int
  W : Bool
  U : Bool
  X : Bool
  lev : Int
  fr : Int

section
variable {M : Int} {f : Int → Int} {a : Int} {nxe : Bool} {lev t s x : Int} {W U X : Bool}

end

end Go.Proofs.YtddbjbdhbeijjaaDoor
/- A region that draws its order, driven by hand: operations taken first, calls branched over, the condition S changed on the way. Nothing of the program. -/
namespace Go.Proofs.YtddbjbdhbeijjaaDoor
set_option linter.unusedVariables false
set_option linter.unusedSimpArgs false
open Go

section
variable {P : Program} {ops : Array Oper} {Q : Exit → Act → World → Prop} {md : Region.Mode} {S S' : World → Prop}

theorem at_of_drop {α : Type} {l : List α} {i : Nat} {o : α} {r : List α} (h : l.drop i = o :: r) : l[i]? = some o := by
  have := congrArg (fun l => l[0]?) h
  simpa [List.getElem?_drop] using this

/-- number i, which stands at the head of what is left of the list, is taken first -/
theorem anyH_take {i : Nat} {oi : Oper} {rest : List Oper} {v : Value} {fuel : Nat} {listed : Array Bool} {a : Act} {w : World} (hi : ops.toList.drop i = oi :: rest)
    (hs : Region.noSelect ops = true) (hf : Region.free md ops listed i = true) (hr : (Region.ready md ops listed).contains i = true)
    (hQ : ∀ c a w, Q (.panic c) (a.put oi.dst v) w → Q (.panic c) a w) (hwt : Region.wanted oi (yielded ops a.tmps) = true) (hS : S w)
    (hy : ∀ w, S w → (execOp a.eval oi).run P w = .ok (.value v) w)
    (h : wpAnyH P md ops Q S fuel (listed.setIfInBounds i true) (a.put oi.dst v) w) : wpAnyH P md ops Q S (fuel + 1) listed a w :=
  wpAnyH_take (by simpa using at_of_drop hi) hs hf hr hQ (Or.inl ⟨hwt, hy⟩) hS h

theorem anyH_one {i : Nat} {o : Oper} {l : List Oper} {fuel : Nat} {listed : Array Bool} {a : Act} {w : World} {rs : List Nat} (ho : ops.toList.drop i = o :: l)
    (h : ∀ K' : Act → World → Prop, Shut (∀ a w, S w → (S w → wpAnyH P md ops Q S fuel (listed.setIfInBounds i true) a w) → K' a w) → if Region.wanted o (yielded ops a.tmps) = true then Oper.wp P o a w K' Q else K' (a.put o.dst undef) w)
    (hs : AllReadyH P md ops Q S fuel listed a w rs) : AllReadyH P md ops Q S fuel listed a w (i :: rs) :=
  AllReadyH.cons (by simpa using at_of_drop ho) h hs
end

end Go.Proofs.YtddbjbdhbeijjaaDoor
/- Contracts of package walk: isLevel, Top, below; blocks of five and of seven cells. -/
namespace Go.Proofs.YtddbjbdhbeijjaaDoor
set_option linter.unusedVariables false
set_option linter.unusedSimpArgs false
open Go.ChangeShapes Go.WideShapes Go.ChangeAt Go.RowKit Go.Joins

/-- block b is a row of these cells -/
def Blk (w : World) (b : Nat) (cs : Array Value) (t : TypeId) : Prop := w.heap[b]? = some (.cells cs t (0, 0))

section
variable {w w' : World} {b : Nat} {t : TypeId} {x0 x1 x2 x3 x4 x5 x6 y0 y1 y2 y3 y4 y5 y6 : Value} {cs : Array Value}

theorem Blk.lt (h : Blk w b cs t) : b < w.heap.size := lt_of_block h
theorem Blk.new (w : World) (cs : Array Value) (t : TypeId) : Blk (w.alloc (.cells cs t)) w.heap.size cs t := Deep.blk_alloc_new _ _
theorem Blk.below (h : Blk w b cs t) (hb : Below w.heap.size w w') : Blk w' b cs t := (hb.block b h.lt).trans h
theorem Blk.alloc (h : Blk w b cs t) (o : Obj) : Blk (w.alloc o) b cs t := (Deep.blk_alloc_lt _ _ _ h.lt).trans h
theorem Blk.turn {F : Nat → Prop} (h : Blk w b cs t) (ht : Turn F w w') (hn : ¬ F b) : Blk w' b cs t := (ht.block b h.lt hn).trans h
theorem Blk.drew (h : Blk w b cs t) : Blk w.drew b cs t := h

theorem Blk.fz (h : Blk w b cs t) (i : Nat) : w.frozen? ⟨b, i, none⟩ = false := by
  unfold Blk at h; simp [World.frozen?, h]

theorem Blk.set1 (h : Blk w b cs t) (i : Nat) (y : Value) : Blk (w.setCell ⟨b, i, none⟩ y) b (cs.setIfInBounds i y) t := by
  unfold Blk at *; simp [World.setCell, Array.getElem?_modify, h]

theorem turn1 (w : World) (b i : Nat) (y : Value) : Turn (fun i => i = b) w (w.setCell ⟨b, i, none⟩ y) := Turn.setCell _ _ _ _ rfl
theorem Turn.and {w2 : World} {F : Nat → Prop} (h : Turn F w w') (k : Turn F w' w2) : Turn F w w2 := h.trans (k.mono fun i _ hi => Or.inl hi)
theorem turn_below {w0 : World} {B : Nat} (h : Below B w0 w) (ht : Turn (fun i => i = b) w w') (hb : B ≤ b) (hB : B ≤ w.heap.size) : Below B w0 w' := h.trans (ht.below (fun i hi => by omega) hB)
end

/- below -/
section
variable {w w1 w2 w3 : World} {g : Nat} {x0 x1 x2 x3 x4 : Value} {t : TypeId}
end

end Go.Proofs.YtddbjbdhbeijjaaDoor
