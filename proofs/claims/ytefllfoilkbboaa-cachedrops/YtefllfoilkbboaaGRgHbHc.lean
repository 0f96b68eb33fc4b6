/- Several texts of ours in one: Rg, Hb, Hc. -/
import Derived.Deep.RegionHeld
import Derived.Deep.DrawnRows
import Derived.Test.YtefllfoilkbboaaGEaHaGm
import Derived.Test.YtefllfoilkbboaaGGaKpGb
import Derived.Deep.RegionHeld3
import Derived.Deep.LoopGhost
/- A region that draws its order, driven by hand: operations taken first, calls branched over, the condition S changed on the way. Nothing of the program. -/
namespace Go.Proofs.Ytefllfoilkbboaa
set_option linter.unusedVariables false
set_option linter.unusedSimpArgs false
open Go

section
variable {P : Program} {ops : Array Oper} {Q : Exit → Act → World → Prop} {md : Region.Mode} {S S' : World → Prop}

theorem at_of_drop {α : Type} {l : List α} {i : Nat} {o : α} {r : List α} (h : l.drop i = o :: r) : l[i]? = some o := by
  have := congrArg (fun l => l[0]?) h
  simpa [List.getElem?_drop] using this

/-- number i, which stands at the head of what is left of the list, is taken first -/
theorem anyH_take {i : Nat} {oi : Oper} {rest : List Oper} {v : Value} {fuel : Nat} {listed : Array Bool} {a : Act} {w : World} (hi : ops.toList.drop i = oi :: rest)
    (hs : Region.noSelect ops = true) (hf : Region.free md ops listed i = true) (hr : (Region.ready md ops listed).contains i = true)
    (hQ : ∀ c a w, Q (.panic c) (a.put oi.dst v) w → Q (.panic c) a w) (hwt : Region.wanted oi (yielded ops a.tmps) = true) (hS : S w)
    (hy : ∀ w, S w → (execOp a.eval oi).run P w = .ok (.value v) w)
    (h : wpAnyH P md ops Q S fuel (listed.setIfInBounds i true) (a.put oi.dst v) w) : wpAnyH P md ops Q S (fuel + 1) listed a w :=
  wpAnyH_take (by simpa using at_of_drop hi) hs hf hr hQ (Or.inl ⟨hwt, hy⟩) hS h

/-- number i, whose guard is not met, is passed by first -/
theorem anyH_skip {i : Nat} {oi : Oper} {rest : List Oper} {fuel : Nat} {listed : Array Bool} {a : Act} {w : World} (hi : ops.toList.drop i = oi :: rest)
    (hs : Region.noSelect ops = true) (hf : Region.free md ops listed i = true) (hr : (Region.ready md ops listed).contains i = true)
    (hQ : ∀ c a w, Q (.panic c) (a.put oi.dst undef) w → Q (.panic c) a w) (hwt : Region.wanted oi (yielded ops a.tmps) = false) (hS : S w)
    (h : wpAnyH P md ops Q S fuel (listed.setIfInBounds i true) (a.put oi.dst undef) w) : wpAnyH P md ops Q S (fuel + 1) listed a w :=
  wpAnyH_take (by simpa using at_of_drop hi) hs hf hr hQ (Or.inr ⟨hwt, rfl⟩) hS h

theorem anyH_one {i : Nat} {o : Oper} {l : List Oper} {fuel : Nat} {listed : Array Bool} {a : Act} {w : World} {rs : List Nat} (ho : ops.toList.drop i = o :: l)
    (h : ∀ K' : Act → World → Prop, Shut (∀ a w, S w → (S w → wpAnyH P md ops Q S fuel (listed.setIfInBounds i true) a w) → K' a w) → if Region.wanted o (yielded ops a.tmps) = true then Oper.wp P o a w K' Q else K' (a.put o.dst undef) w)
    (hs : AllReadyH P md ops Q S fuel listed a w rs) : AllReadyH P md ops Q S fuel listed a w (i :: rs) :=
  AllReadyH.cons (by simpa using at_of_drop ho) h hs
end

end Go.Proofs.Ytefllfoilkbboaa
/- Contracts of package walk: isLevel, Top, below; blocks of five and of seven cells. -/
namespace Go.Proofs.Ytefllfoilkbboaa
set_option linter.unusedVariables false
set_option linter.unusedSimpArgs false
open Go.ChangeShapes Go.WideShapes Go.ChangeAt Go.RowKit Go.Joins

/-- block b is a row of these cells -/
def Blk (w : World) (b : Nat) (cs : Array Value) (t : TypeId) : Prop := w.heap[b]? = some (.cells cs t (0, 0))

section
variable {w w' : World} {b : Nat} {t : TypeId} {x0 x1 x2 x3 x4 x5 x6 y0 y1 y2 y3 y4 y5 y6 : Value} {cs : Array Value}

theorem Blk.lt (h : Blk w b cs t) : b < w.heap.size := lt_of_block h
theorem Blk.new (w : World) (cs : Array Value) (t : TypeId) : Blk (w.alloc (.cells cs t)) w.heap.size cs t := Deep.blk_alloc_new _ _
theorem Blk.below (h : Blk w b cs t) (hb : Below w.heap.size w w') : Blk w' b cs t := (hb.block b h.lt).trans h
theorem Blk.alloc (h : Blk w b cs t) (o : Obj) : Blk (w.alloc o) b cs t := (Deep.blk_alloc_lt _ _ _ h.lt).trans h
theorem Blk.turn {F : Nat → Prop} (h : Blk w b cs t) (ht : Turn F w w') (hn : ¬ F b) : Blk w' b cs t := (ht.block b h.lt hn).trans h
theorem Blk.drew (h : Blk w b cs t) : Blk w.drew b cs t := h

theorem Blk.fz (h : Blk w b cs t) (i : Nat) : w.frozen? ⟨b, i, none⟩ = false := by
  unfold Blk at h; simp [World.frozen?, h]

theorem Blk.set1 (h : Blk w b cs t) (i : Nat) (y : Value) : Blk (w.setCell ⟨b, i, none⟩ y) b (cs.setIfInBounds i y) t := by
  unfold Blk at *; simp [World.setCell, Array.getElem?_modify, h]

theorem turn1 (w : World) (b i : Nat) (y : Value) : Turn (fun i => i = b) w (w.setCell ⟨b, i, none⟩ y) := Turn.setCell _ _ _ _ rfl
theorem Turn.and {w2 : World} {F : Nat → Prop} (h : Turn F w w') (k : Turn F w' w2) : Turn F w w2 := h.trans (k.mono fun i _ hi => Or.inl hi)
theorem turn_below {w0 : World} {B : Nat} (h : Below B w0 w) (ht : Turn (fun i => i = b) w w') (hb : B ≤ b) (hB : B ≤ w.heap.size) : Below B w0 w' := h.trans (ht.below (fun i hi => by omega) hB)
end

/- below -/
section
variable {w w1 w2 w3 : World} {g : Nat} {x0 x1 x2 x3 x4 : Value} {t : TypeId}
end

end Go.Proofs.Ytefllfoilkbboaa
/- Steps of a walk in a row of the call's own; a memory beside other blocks. -/
namespace Go.Proofs.Ytefllfoilkbboaa
set_option linter.unusedVariables false
set_option linter.unusedSimpArgs false
open Go.ChangeShapes Go.WideShapes Go.ChangeAt Go.RowKit Go.Joins

/-- the cells of steps -/
def stepCells : List (Int × Int × Int) → List Value
  | [] => []
  | p :: L => .int .i64 p.1 :: .int .u64 p.2.1 :: .int .u64 p.2.2 :: stepCells L

theorem stepCells_append (L K : List (Int × Int × Int)) : stepCells (L ++ K) = stepCells L ++ stepCells K := by
  induction L with
  | nil => rfl
  | cons p L ih => simp [stepCells, ih]
theorem stepCells_get (L : List (Int × Int × Int)) : ∀ k, k < L.length → (stepCells L)[k * 3]? = some (.int .i64 (L.getD k (0, 0, 0)).1) ∧ (stepCells L)[k * 3 + 1]? = some (.int .u64 (L.getD k (0, 0, 0)).2.1) ∧ (stepCells L)[k * 3 + 2]? = some (.int .u64 (L.getD k (0, 0, 0)).2.2) := by
  induction L with
  | nil => intro k hk; simp at hk
  | cons p L ih =>
    intro k hk
    rcases k with _ | k
    · exact ⟨rfl, rfl, rfl⟩
    · have := ih k (by simpa using hk)
      rw [show (k + 1) * 3 = k * 3 + 1 + 1 + 1 by omega]
      simpa [stepCells] using this

/-- v holds the steps S, in a block from base on; e: which package's steps -/
def StepsOwn (e : TypeId) (w : World) (base : Nat) (v : Value) (S : List (Int × Int × Int)) : Prop := w.ownsRow base e 3 v S.length (stepCells S)

/-- v is a slice with the steps S, wherever it lies -/
def StepsIn (w : World) (v : Value) (S : List (Int × Int × Int)) : Prop :=
  ∃ A c, v = .slice A S.length c ∧ ∀ k, k < S.length → ∃ ad, A = some ad ∧ w.cell? (ad.add (k * 3)) = some (.int .i64 (S.getD k (0, 0, 0)).1) ∧ w.cell? ((ad.add (k * 3)).add 1) = some (.int .u64 (S.getD k (0, 0, 0)).2.1) ∧ w.cell? ((ad.add (k * 3)).add 2) = some (.int .u64 (S.getD k (0, 0, 0)).2.2)

section
variable {e : TypeId} {w w' : World} {base : Nat} {v : Value} {S : List (Int × Int × Int)}

theorem add2 (g k : Nat) : (⟨g, 0, none⟩ : Addr).add k = ⟨g, k, none⟩ := by unfold Addr.add; split <;> simp_all
theorem add3 (g k j : Nat) : ((⟨g, 0, none⟩ : Addr).add k).add j = ⟨g, k + j, none⟩ := by rw [add2]; unfold Addr.add; split <;> simp_all

theorem StepsOwn.into (h : StepsOwn e w base v S) : StepsIn w v S := by
  have h' := h
  rcases h.2 with ⟨rfl, hn⟩ | ⟨g, cap, cur, rfl, _⟩
  · exact ⟨none, 0, by rw [hn], fun k hk => by omega⟩
  · refine ⟨_, _, rfl, fun k hk => ⟨_, rfl, ?_, ?_, ?_⟩⟩
    · exact World.ownsRow.cells h' (g := g) rfl (k * 3) _ (stepCells_get S k hk).1
    · have := World.ownsRow.cells h' (g := g) rfl (k * 3 + 1) _ (stepCells_get S k hk).2.1
      rw [add3]; rwa [add2] at this
    · have := World.ownsRow.cells h' (g := g) rfl (k * 3 + 2) _ (stepCells_get S k hk).2.2
      rw [add3]; rwa [add2] at this

theorem StepsIn.below (h : StepsIn w v S) (hb : Below w.heap.size w w') : StepsIn w' v S := by
  obtain ⟨A, c, hv, hc⟩ := h
  refine ⟨A, c, hv, fun k hk => ?_⟩
  obtain ⟨ad, hA, c0, c1, c2⟩ := hc k hk
  exact ⟨ad, hA, (hb.cell (World.block_lt_of_cell? _ _ c0)).trans c0, (hb.cell (World.block_lt_of_cell? _ _ c1)).trans c1, (hb.cell (World.block_lt_of_cell? _ _ c2)).trans c2⟩

theorem StepsOwn.turn {F : Nat → Prop} (h : StepsOwn e w base v S) (ht : Turn F w w') (hn : ∀ i, v.ownBlock = some i → ¬ F i) : StepsOwn e w' base v S := by
  refine ⟨h.1, ?_⟩
  rcases h.2 with h2 | ⟨g, cap, cur, hv, hb, hg, r⟩
  · exact Or.inl h2
  · refine Or.inr ⟨g, cap, cur, hv, hb, ?_, r⟩
    rw [ht.block g (lt_of_block hg) (hn g (by rw [hv]; rfl))]; exact hg
theorem StepsOwn.below (h : StepsOwn e w base v S) (hb : Below w.heap.size w w') : StepsOwn e w' base v S :=
  h.turn (Turn.of_kept (fun _ => False) hb) (fun _ _ h => h)
theorem StepsOwn.lt (h : StepsOwn e w base v S) {i : Nat} (hi : v.ownBlock = some i) : base ≤ i ∧ i < w.heap.size := World.ownsRow.lt h i hi
theorem StepsOwn.nil (e : TypeId) (w : World) (base : Nat) : StepsOwn e w base (.slice none 0 0) [] := World.ownsRow_nil _ _ _ _
theorem StepsOwn.more {l s x : Int} (h : w.ownsRow base e 3 v (S.length + 1) (stepCells S ++ [.int .i64 l, .int .u64 s, .int .u64 x])) : StepsOwn e w base v (S ++ [(l, s, x)]) := by
  unfold StepsOwn
  rw [stepCells_append]
  simpa [stepCells] using h
theorem StepsOwn.form (h : StepsOwn e w base v S) : ∃ A c, v = .slice A S.length c := by
  obtain ⟨A, c, hv, _⟩ := h.into
  exact ⟨A, c, hv⟩
end

section
variable {w wr w3 : World} {F G H : Nat → Prop} {m : Nat} {M : Int} {f f' : Int → Int} {tr tr' : List Int} {n n' : Nat}

end

theorem three_cells (w : World) (x y z : Value) (t : TypeId) : ∀ j u, [x, y, z][j]? = some u → (w.alloc (.cells #[x, y, z] t)).cell? ((⟨w.heap.size, 0, none⟩ : Addr).add j) = some u := by
  intro j u hj
  match j, hj with
  | 0, hj => simp at hj; subst hj; simp [Addr.add]
  | 1, hj => simp at hj; subst hj; simp [Addr.add]
  | 2, hj => simp at hj; subst hj; simp [Addr.add]
end Go.Proofs.Ytefllfoilkbboaa
