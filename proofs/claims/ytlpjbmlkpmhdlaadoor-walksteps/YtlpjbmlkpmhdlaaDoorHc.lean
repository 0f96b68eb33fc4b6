/- Steps of a walk in a row of the call's own; a memory beside other blocks. -/
import Derived.Test.YtlpjbmlkpmhdlaaDoorHb
namespace Go.Proofs.YtlpjbmlkpmhdlaaDoor
set_option linter.unusedVariables false
set_option linter.unusedSimpArgs false
open Go.ChangeShapes Go.WideShapes Go.ChangeAt Go.RowKit Go.Joins

/-- the cells of steps -/
def stepCells : List (Int × Int × Int) → List Value
  | [] => []
  | p :: L => .int .i64 p.1 :: .int .u64 p.2.1 :: .int .u64 p.2.2 :: stepCells L

theorem stepCells_append (L K : List (Int × Int × Int)) : stepCells (L ++ K) = stepCells L ++ stepCells K := by
  induction L with
  | nil => rfl
  | cons p L ih => simp [stepCells, ih]
theorem stepCells_get (L : List (Int × Int × Int)) : ∀ k, k < L.length → (stepCells L)[k * 3]? = some (.int .i64 (L.getD k (0, 0, 0)).1) ∧ (stepCells L)[k * 3 + 1]? = some (.int .u64 (L.getD k (0, 0, 0)).2.1) ∧ (stepCells L)[k * 3 + 2]? = some (.int .u64 (L.getD k (0, 0, 0)).2.2) := by
  induction L with
  | nil => intro k hk; simp at hk
  | cons p L ih =>
    intro k hk
    rcases k with _ | k
    · exact ⟨rfl, rfl, rfl⟩
    · have := ih k (by simpa using hk)
      rw [show (k + 1) * 3 = k * 3 + 1 + 1 + 1 by omega]
      simpa [stepCells] using this

/-- v holds the steps S, in a block from base on; e: which package's steps -/
def StepsOwn (e : TypeId) (w : World) (base : Nat) (v : Value) (S : List (Int × Int × Int)) : Prop := w.ownsRow base e 3 v S.length (stepCells S)

/-- v is a slice with the steps S, wherever it lies -/
def StepsIn (w : World) (v : Value) (S : List (Int × Int × Int)) : Prop :=
  ∃ A c, v = .slice A S.length c ∧ ∀ k, k < S.length → ∃ ad, A = some ad ∧ w.cell? (ad.add (k * 3)) = some (.int .i64 (S.getD k (0, 0, 0)).1) ∧ w.cell? ((ad.add (k * 3)).add 1) = some (.int .u64 (S.getD k (0, 0, 0)).2.1) ∧ w.cell? ((ad.add (k * 3)).add 2) = some (.int .u64 (S.getD k (0, 0, 0)).2.2)

section
variable {e : TypeId} {w w' : World} {base : Nat} {v : Value} {S : List (Int × Int × Int)}

theorem add2 (g k : Nat) : (⟨g, 0, none⟩ : Addr).add k = ⟨g, k, none⟩ := by unfold Addr.add; split <;> simp_all
theorem add3 (g k j : Nat) : ((⟨g, 0, none⟩ : Addr).add k).add j = ⟨g, k + j, none⟩ := by rw [add2]; unfold Addr.add; split <;> simp_all

theorem StepsOwn.into (h : StepsOwn e w base v S) : StepsIn w v S := by
  have h' := h
  rcases h.2 with ⟨rfl, hn⟩ | ⟨g, cap, cur, rfl, _⟩
  · exact ⟨none, 0, by rw [hn], fun k hk => by omega⟩
  · refine ⟨_, _, rfl, fun k hk => ⟨_, rfl, ?_, ?_, ?_⟩⟩
    · exact World.ownsRow.cells h' (g := g) rfl (k * 3) _ (stepCells_get S k hk).1
    · have := World.ownsRow.cells h' (g := g) rfl (k * 3 + 1) _ (stepCells_get S k hk).2.1
      rw [add3]; rwa [add2] at this
    · have := World.ownsRow.cells h' (g := g) rfl (k * 3 + 2) _ (stepCells_get S k hk).2.2
      rw [add3]; rwa [add2] at this

theorem StepsIn.below (h : StepsIn w v S) (hb : Below w.heap.size w w') : StepsIn w' v S := by
  obtain ⟨A, c, hv, hc⟩ := h
  refine ⟨A, c, hv, fun k hk => ?_⟩
  obtain ⟨ad, hA, c0, c1, c2⟩ := hc k hk
  exact ⟨ad, hA, (hb.cell (World.block_lt_of_cell? _ _ c0)).trans c0, (hb.cell (World.block_lt_of_cell? _ _ c1)).trans c1, (hb.cell (World.block_lt_of_cell? _ _ c2)).trans c2⟩

theorem StepsOwn.turn {F : Nat → Prop} (h : StepsOwn e w base v S) (ht : Turn F w w') (hn : ∀ i, v.ownBlock = some i → ¬ F i) : StepsOwn e w' base v S := by
  refine ⟨h.1, ?_⟩
  rcases h.2 with h2 | ⟨g, cap, cur, hv, hb, hg, r⟩
  · exact Or.inl h2
  · refine Or.inr ⟨g, cap, cur, hv, hb, ?_, r⟩
    rw [ht.block g (lt_of_block hg) (hn g (by rw [hv]; rfl))]; exact hg
theorem StepsOwn.below (h : StepsOwn e w base v S) (hb : Below w.heap.size w w') : StepsOwn e w' base v S :=
  h.turn (Turn.of_kept (fun _ => False) hb) (fun _ _ h => h)
theorem StepsOwn.lt (h : StepsOwn e w base v S) {i : Nat} (hi : v.ownBlock = some i) : base ≤ i ∧ i < w.heap.size := World.ownsRow.lt h i hi
theorem StepsOwn.nil (e : TypeId) (w : World) (base : Nat) : StepsOwn e w base (.slice none 0 0) [] := World.ownsRow_nil _ _ _ _
theorem StepsOwn.more {l s x : Int} (h : w.ownsRow base e 3 v (S.length + 1) (stepCells S ++ [.int .i64 l, .int .u64 s, .int .u64 x])) : StepsOwn e w base v (S ++ [(l, s, x)]) := by
  unfold StepsOwn
  rw [stepCells_append]
  simpa [stepCells] using h
theorem StepsOwn.form (h : StepsOwn e w base v S) : ∃ A c, v = .slice A S.length c := by
  obtain ⟨A, c, hv, _⟩ := h.into
  exact ⟨A, c, hv⟩
end

/-- a memory beside other blocks: G are its own; nothing but F has turned since w -/
structure Wk (w wr : World) (F : Nat → Prop) (m : Nat) (M : Int) (f : Int → Int) (tr : List Int) (n : Nat) (G : Nat → Prop) : Prop where
  mem : Mem wr G m M f tr n
  foot : ∀ i, G i → i < wr.heap.size ∧ (F i ∨ w.heap.size ≤ i)
  turn : Turn F w wr

section
variable {w wr w3 : World} {F G H : Nat → Prop} {m : Nat} {M : Int} {f f' : Int → Int} {tr tr' : List Int} {n n' : Nat}

theorem Wk.start (h : Mem w F m M f tr n) : Wk w w F m M f tr n (fun i => F i ∧ i < w.heap.size) := by
  obtain ⟨mb, v, D, hM, hF⟩ := h
  exact ⟨⟨mb, v, D, hM, fun i hi => ⟨hF i hi, hM.own_lt hi⟩⟩, fun i hi => ⟨hi.2, Or.inl hi.1⟩, Turn.refl _ _⟩
/-- the memory itself is turned -/
theorem Wk.step (h : Wk w wr F m M f tr n G) (hm : Mem w3 (Since G wr) m M f' tr' n') (ht : Turn G wr w3) : Wk w w3 F m M f' tr' n' (fun i => Since G wr i ∧ i < w3.heap.size) := by
  refine ⟨?_, ?_, ?_⟩
  · obtain ⟨mb, v, D, hM, hF⟩ := hm
    exact ⟨mb, v, D, hM, fun i hi => ⟨hF i hi, hM.own_lt hi⟩⟩
  · rintro i ⟨hi, hl⟩
    refine ⟨hl, ?_⟩
    rcases hi with hi | hi
    · exact (h.foot i hi).2
    · exact Or.inr (Nat.le_trans h.turn.size hi)
  · exact h.turn.trans (ht.mono fun i _ hi => (h.foot i hi).2)
theorem step_free {i : Nat} (hi : ¬ G i) (hl : i < wr.heap.size) : ¬ (Since G wr i ∧ i < w3.heap.size) := by
  rintro ⟨h | h, _⟩
  · exact hi h
  · omega
/-- what is no part of it is turned -/
theorem Wk.other (h : Wk w wr F m M f tr n G) (ht : Turn H wr w3) (h1 : ∀ i, i < wr.heap.size → H i → ¬ G i) (h2 : ∀ i, H i → F i ∨ w.heap.size ≤ i) : Wk w w3 F m M f tr n G :=
  ⟨h.mem.turned ht (fun i hl hg hh => h1 i hl hh hg), fun i hi => ⟨Nat.lt_of_lt_of_le (h.foot i hi).1 ht.size, (h.foot i hi).2⟩, h.turn.trans (ht.mono fun i _ hi => h2 i hi)⟩
theorem Wk.quiet (h : Wk w wr F m M f tr n G) (hb : Below wr.heap.size wr w3) : Wk w w3 F m M f tr n G :=
  h.other (H := fun _ => False) (Turn.of_kept _ hb) (fun _ _ h => h.elim) (fun _ h => h.elim)
theorem Wk.set (h : Wk w wr F m M f tr n G) {b : Nat} (ht : Turn (fun i => i = b) wr w3) (hb : ¬ G b) (hl : w.heap.size ≤ b) : Wk w w3 F m M f tr n G :=
  h.other ht (fun i _ e => e ▸ hb) (fun i e => Or.inr (e ▸ hl))
/-- what a call made of it, ahead of which it was another one -/
theorem Wk.join {w4 : World} {G' : Nat → Prop} (h : Wk w wr F m M f tr n G) (k : Wk wr w4 G m M f' tr' n' G') : Wk w w4 F m M f' tr' n' G' := by
  refine ⟨k.mem, fun i hi => ⟨(k.foot i hi).1, ?_⟩, h.turn.trans (k.turn.mono fun i _ hi => (h.foot i hi).2)⟩
  rcases (k.foot i hi).2 with hg | hg
  · exact (h.foot i hg).2
  · exact Or.inr (Nat.le_trans h.turn.size hg)
theorem Wk.free {w4 : World} {G' : Nat → Prop} {i : Nat} (k : Wk wr w4 G m M f' tr' n' G') (hi : ¬ G i) (hl : i < wr.heap.size) : ¬ G' i := fun hg => by
  rcases (k.foot i hg).2 with h | h
  · exact hi h
  · omega
/-- a memory that was made behind w -/
theorem Wk.made {B : Nat} (h : Mem wr (From B) m M f tr n) (hb : Below w.heap.size w wr) (hB : w.heap.size ≤ B) : Wk w wr (From w.heap.size) m M f tr n (fun i => From B i ∧ i < wr.heap.size) := by
  obtain ⟨mb, v, D, hM, hF⟩ := h
  exact ⟨⟨mb, v, D, hM, fun i hi => ⟨hF i hi, hM.own_lt hi⟩⟩, fun i hi => ⟨hi.2, Or.inr (Nat.le_trans hB hi.1)⟩, Turn.of_below hb⟩
theorem Wk.belowW (h : Wk w wr (From w.heap.size) m M f tr n G) : Below w.heap.size w wr := h.turn.below (fun _ hi => hi) (Nat.le_refl _)
theorem Wk.no0 (h : Wk w wr (From w.heap.size) m M f tr n G) (hz : 0 < w.heap.size) : ¬ G 0 := fun hg => by
  rcases (h.foot 0 hg).2 with h' | h'
  · have : w.heap.size ≤ 0 := h'
    omega
  · omega
theorem Wk.more (h : Wk w wr F m M f tr n G) (hn : n ≤ n') : Wk w wr F m M f tr n' G := ⟨h.mem.more hn, h.foot, h.turn⟩
end

theorem shifts_turn {w w' : World} {F : Nat → Prop} (h : Shifts w) (ht : Turn F w w') (h0 : ¬ F 0) : Shifts w' := by
  have hl : 0 < w.heap.size := World.block_lt_of_cell? _ _ h.1
  have e := ht.block 0 hl h0
  exact ⟨(World.cell?_of_block (a := ⟨0, 0, none⟩) e).trans h.1, (World.cell?_of_block (a := ⟨0, 1, none⟩) e).trans h.2.1, (World.cell?_of_block (a := ⟨0, 2, none⟩) e).trans h.2.2.1, (World.cell?_of_block (a := ⟨0, 3, none⟩) e).trans h.2.2.2⟩

theorem infoStep : (Tryd.prog.info? 77).map (fun i => (i.zero, i.size, i.bytes)) = some (some (.agg #[.int .i64 0, .int .u64 0, .int .u64 0]), 3, 24) := by kernel_rfl
theorem infoRStep : (Tryd.prog.info? 96).map (fun i => (i.zero, i.size, i.bytes)) = some (some (.agg #[.int .i64 0, .int .u64 0, .int .u64 0]), 3, 24) := by kernel_rfl

theorem three_cells (w : World) (x y z : Value) (t : TypeId) : ∀ j u, [x, y, z][j]? = some u → (w.alloc (.cells #[x, y, z] t)).cell? ((⟨w.heap.size, 0, none⟩ : Addr).add j) = some u := by
  intro j u hj
  match j, hj with
  | 0, hj => simp at hj; subst hj; simp [Addr.add]
  | 1, hj => simp at hj; subst hj; simp [Addr.add]
  | 2, hj => simp at hj; subst hj; simp [Addr.add]
theorem three_one (l s x : Int) : ∀ u ∈ [Value.int .i64 l, Value.int .u64 s, Value.int .u64 x], u.oneCell' = true := by
  intro u hu
  simp at hu
  rcases hu with rfl | rfl | rfl <;> rfl
end Go.Proofs.YtlpjbmlkpmhdlaaDoor
