/- Several texts of ours in one: Hc, Dp, Wa. -/
import Derived.Test.YtddbjbdhbeijjaaDoorGHaRgHb
import Derived.Test.YtddbjbdhbeijjaaDoorGWmMdMe
import Derived.Laws.Cells
import Derived.Laws.BytesArg
/- Steps of a walk in a row of the call's own; a memory beside other blocks. -/
namespace Go.Proofs.YtddbjbdhbeijjaaDoor
set_option linter.unusedVariables false
set_option linter.unusedSimpArgs false
open Go.ChangeShapes Go.WideShapes Go.ChangeAt Go.RowKit Go.Joins

/-- the cells of steps -/
def stepCells : List (Int × Int × Int) → List Value
  | [] => []
  | p :: L => .int .i64 p.1 :: .int .u64 p.2.1 :: .int .u64 p.2.2 :: stepCells L

theorem stepCells_append (L K : List (Int × Int × Int)) : stepCells (L ++ K) = stepCells L ++ stepCells K := by
  induction L with
  | nil => rfl
  | cons p L ih => simp [stepCells, ih]
theorem stepCells_get (L : List (Int × Int × Int)) : ∀ k, k < L.length → (stepCells L)[k * 3]? = some (.int .i64 (L.getD k (0, 0, 0)).1) ∧ (stepCells L)[k * 3 + 1]? = some (.int .u64 (L.getD k (0, 0, 0)).2.1) ∧ (stepCells L)[k * 3 + 2]? = some (.int .u64 (L.getD k (0, 0, 0)).2.2) := by
  induction L with
  | nil => intro k hk; simp at hk
  | cons p L ih =>
    intro k hk
    rcases k with _ | k
    · exact ⟨rfl, rfl, rfl⟩
    · have := ih k (by simpa using hk)
      rw [show (k + 1) * 3 = k * 3 + 1 + 1 + 1 by omega]
      simpa [stepCells] using this

/-- v holds the steps S, in a block from base on; e: which package's steps -/
def StepsOwn (e : TypeId) (w : World) (base : Nat) (v : Value) (S : List (Int × Int × Int)) : Prop := w.ownsRow base e 3 v S.length (stepCells S)

/-- v is a slice with the steps S, wherever it lies -/
def StepsIn (w : World) (v : Value) (S : List (Int × Int × Int)) : Prop :=
  ∃ A c, v = .slice A S.length c ∧ ∀ k, k < S.length → ∃ ad, A = some ad ∧ w.cell? (ad.add (k * 3)) = some (.int .i64 (S.getD k (0, 0, 0)).1) ∧ w.cell? ((ad.add (k * 3)).add 1) = some (.int .u64 (S.getD k (0, 0, 0)).2.1) ∧ w.cell? ((ad.add (k * 3)).add 2) = some (.int .u64 (S.getD k (0, 0, 0)).2.2)

section
variable {e : TypeId} {w w' : World} {base : Nat} {v : Value} {S : List (Int × Int × Int)}

theorem add2 (g k : Nat) : (⟨g, 0, none⟩ : Addr).add k = ⟨g, k, none⟩ := by unfold Addr.add; split <;> simp_all
theorem add3 (g k j : Nat) : ((⟨g, 0, none⟩ : Addr).add k).add j = ⟨g, k + j, none⟩ := by rw [add2]; unfold Addr.add; split <;> simp_all

theorem StepsOwn.into (h : StepsOwn e w base v S) : StepsIn w v S := by
  have h' := h
  rcases h.2 with ⟨rfl, hn⟩ | ⟨g, cap, cur, rfl, _⟩
  · exact ⟨none, 0, by rw [hn], fun k hk => by omega⟩
  · refine ⟨_, _, rfl, fun k hk => ⟨_, rfl, ?_, ?_, ?_⟩⟩
    · exact World.ownsRow.cells h' (g := g) rfl (k * 3) _ (stepCells_get S k hk).1
    · have := World.ownsRow.cells h' (g := g) rfl (k * 3 + 1) _ (stepCells_get S k hk).2.1
      rw [add3]; rwa [add2] at this
    · have := World.ownsRow.cells h' (g := g) rfl (k * 3 + 2) _ (stepCells_get S k hk).2.2
      rw [add3]; rwa [add2] at this

theorem StepsIn.below (h : StepsIn w v S) (hb : Below w.heap.size w w') : StepsIn w' v S := by
  obtain ⟨A, c, hv, hc⟩ := h
  refine ⟨A, c, hv, fun k hk => ?_⟩
  obtain ⟨ad, hA, c0, c1, c2⟩ := hc k hk
  exact ⟨ad, hA, (hb.cell (World.block_lt_of_cell? _ _ c0)).trans c0, (hb.cell (World.block_lt_of_cell? _ _ c1)).trans c1, (hb.cell (World.block_lt_of_cell? _ _ c2)).trans c2⟩

theorem StepsOwn.turn {F : Nat → Prop} (h : StepsOwn e w base v S) (ht : Turn F w w') (hn : ∀ i, v.ownBlock = some i → ¬ F i) : StepsOwn e w' base v S := by
  refine ⟨h.1, ?_⟩
  rcases h.2 with h2 | ⟨g, cap, cur, hv, hb, hg, r⟩
  · exact Or.inl h2
  · refine Or.inr ⟨g, cap, cur, hv, hb, ?_, r⟩
    rw [ht.block g (lt_of_block hg) (hn g (by rw [hv]; rfl))]; exact hg
theorem StepsOwn.below (h : StepsOwn e w base v S) (hb : Below w.heap.size w w') : StepsOwn e w' base v S :=
  h.turn (Turn.of_kept (fun _ => False) hb) (fun _ _ h => h)
theorem StepsOwn.lt (h : StepsOwn e w base v S) {i : Nat} (hi : v.ownBlock = some i) : base ≤ i ∧ i < w.heap.size := World.ownsRow.lt h i hi
theorem StepsOwn.nil (e : TypeId) (w : World) (base : Nat) : StepsOwn e w base (.slice none 0 0) [] := World.ownsRow_nil _ _ _ _
theorem StepsOwn.more {l s x : Int} (h : w.ownsRow base e 3 v (S.length + 1) (stepCells S ++ [.int .i64 l, .int .u64 s, .int .u64 x])) : StepsOwn e w base v (S ++ [(l, s, x)]) := by
  unfold StepsOwn
  rw [stepCells_append]
  simpa [stepCells] using h
theorem StepsOwn.form (h : StepsOwn e w base v S) : ∃ A c, v = .slice A S.length c := by
  obtain ⟨A, c, hv, _⟩ := h.into
  exact ⟨A, c, hv⟩
end

section
variable {w wr w3 : World} {F G H : Nat → Prop} {m : Nat} {M : Int} {f f' : Int → Int} {tr tr' : List Int} {n n' : Nat}

end

theorem shifts_turn {w w' : World} {F : Nat → Prop} (h : Shifts w) (ht : Turn F w w') (h0 : ¬ F 1) : Shifts w' := by
  have hl : 1 < w.heap.size := World.block_lt_of_cell? _ _ h.1
  have e := ht.block 1 hl h0
  exact ⟨(World.cell?_of_block (a := ⟨1, 0, none⟩) e).trans h.1, (World.cell?_of_block (a := ⟨1, 1, none⟩) e).trans h.2.1, (World.cell?_of_block (a := ⟨1, 2, none⟩) e).trans h.2.2.1, (World.cell?_of_block (a := ⟨1, 3, none⟩) e).trans h.2.2.2⟩

theorem three_cells (w : World) (x y z : Value) (t : TypeId) : ∀ j u, [x, y, z][j]? = some u → (w.alloc (.cells #[x, y, z] t)).cell? ((⟨w.heap.size, 0, none⟩ : Addr).add j) = some u := by
  intro j u hj
  match j, hj with
  | 0, hj => simp at hj; subst hj; simp [Addr.add]
  | 1, hj => simp at hj; subst hj; simp [Addr.add]
  | 2, hj => simp at hj; subst hj; simp [Addr.add]
end Go.Proofs.YtddbjbdhbeijjaaDoor
/- Deeds: pair, run; a slice of deeds. -/
namespace Go.Proofs.YtddbjbdhbeijjaaDoor
set_option linter.unusedVariables false
set_option linter.unusedSimpArgs false
open Go.ChangeShapes Go.WideShapes Go.ChangeAt Go.RowKit Go.Joins

section
variable {w : World} {F : Nat → Prop} {m : Nat} {M : Int} {f : Int → Int} {tr : List Int} {n : Nat}

end

/-- how many deeds are done -/
def many (ds : List (Int × Int × Int)) : Nat := min ds.length 120

end Go.Proofs.YtddbjbdhbeijjaaDoor
/- Bytes as a string; the document's example (awake of dormerlaw02). -/
namespace Go.Proofs.YtddbjbdhbeijjaaDoor
set_option linter.unusedVariables false
set_option linter.unusedSimpArgs false
open Go.ChangeShapes Go.WideShapes Go.ChangeAt Go.RowKit Go.Joins

theorem Row8.alloc {w : World} {g : Nat} {cs : Array Value} (h : Row8 w g cs) (hg : g < w.heap.size) (o : Obj) : Row8 (w.alloc o) g cs := (Below.heap_alloc w o g hg).trans h
theorem Row8.lt {w : World} {g : Nat} {cs : Array Value} (h : Row8 w g cs) : g < w.heap.size := by
  rcases Nat.lt_or_ge g w.heap.size with hlt | hge
  · exact hlt
  · unfold Row8 at h; rw [Array.getElem?_eq_none hge] at h; cases h

end Go.Proofs.YtddbjbdhbeijjaaDoor
