/- Both memories side by side, deed by deed. -/
import Derived.Test.YtfakfmefjfemhaaRw
import Derived.Test.YtfakfmefjfemhaaSm
namespace Go.Proofs.Ytfakfmefjfemhaa
set_option linter.unusedVariables false
set_option linter.unusedSimpArgs false
open Go.ChangeShapes Go.WideShapes Go.ChangeAt Go.RowKit Go.Joins

def playL (M : Int) (ds : List (Int × Int × Int)) : Nat → List (Int × Int)
  | 0 => []
  | k + 1 => pairL M (playF M ds k) (playL M ds k) (ds.getD k (0, 0, 0)).1 (ds.getD k (0, 0, 0)).2.1 (ds.getD k (0, 0, 0)).2.2

theorem agree_play (M : Int) (ds : List (Int × Int × Int)) : ∀ k, Agree (playF M ds k) (playL M ds k)
  | 0 => fun _ => rfl
  | k + 1 => agree_pair (agree_play M ds k) _ _ _
theorem playL_len (M : Int) (ds : List (Int × Int × Int)) : ∀ k, (playL M ds k).length ≤ k
  | 0 => Nat.le_refl _
  | k + 1 => Nat.le_trans (pairL_len _ _ _ _ _ _) (by have := playL_len M ds k; omega)
theorem playT_len (M : Int) (ds : List (Int × Int × Int)) : ∀ k, (playT M ds k).length ≤ k
  | 0 => Nat.le_refl _
  | k + 1 => by
    have ih := playT_len M ds k
    show (pairT M (playT M ds k) _ _).length ≤ k + 1
    unfold pairT loadT
    repeat' split
    all_goals first | omega | (simp; omega) | simp

/-- the program's memory at m, the document's one in the variable bx: their blocks are apart -/
structure Play (w wr : World) (bx m : Nat) (M : Int) (f : Int → Int) (tr : List Int) (n : Nat) (F : Nat → Prop) (vs vt : Value) (L : List (Int × Int)) (tr2 : List Int) : Prop where
  mem : Mem wr F m M f tr n
  foot : ∀ i, F i → i < wr.heap.size ∧ w.heap.size ≤ i
  blk : wr.heap[bx]? = some (.cells #[.int .i64 M, vs, vt] 29 (0, 0))
  nbx : ¬ F bx
  old : w.heap.size ≤ bx
  slots : SlotsOwn wr vs L
  nvs : ∀ i, vs.ownBlock = some i → ¬ F i
  words : WordsOwn wr vt tr2
  nvt : ∀ i, vt.ownBlock = some i → ¬ F i
  below : Below w.heap.size w wr

section
variable {w wr w3 w4 : World} {bx m : Nat} {M : Int} {f f' : Int → Int} {tr tr' : List Int} {n n' : Nat} {F : Nat → Prop} {vs vt vs' vt' : Value} {L L' : List (Int × Int)} {tr2 tr2' : List Int}

theorem own_turn {base : Nat} {e : TypeId} {sz : Nat} {v : Value} {k : Nat} {xs : List Value} (h : wr.ownsRow base e sz v k xs) (ht : Turn F wr w3) (hn : ∀ i, v.ownBlock = some i → ¬ F i) : w3.ownsRow base e sz v k xs := by
  refine ⟨h.1, ?_⟩
  rcases h.2 with h2 | ⟨g, cap, cur, hv, hb, hg, r⟩
  · exact Or.inl h2
  · refine Or.inr ⟨g, cap, cur, hv, hb, ?_, r⟩
    rw [ht.block g (lt_of_block hg) (hn g (by rw [hv]; rfl))]; exact hg

theorem Play.pair (h : Play w wr bx m M f tr n F vs vt L tr2) (hm : Mem w3 (Since F wr) m M f' tr' n') (ht : Turn F wr w3) : ∃ F3, Play w w3 bx m M f' tr' n' F3 vs vt L tr2 := by
  have hlt := lt_of_block h.blk
  refine ⟨fun i => Since F wr i ∧ i < w3.heap.size, ?_, ?_, ?_, ?_, h.old, own_turn h.slots ht h.nvs, ?_, own_turn h.words ht h.nvt, ?_, h.below.trans (ht.below (fun i hi => (h.foot i hi).2) h.below.size)⟩
  · obtain ⟨mb, v, D, hM, hF⟩ := hm
    exact ⟨mb, v, D, hM, fun i hi => ⟨hF i hi, hM.own_lt hi⟩⟩
  · rintro i ⟨hi, hl⟩
    refine ⟨hl, ?_⟩
    rcases hi with hi | hi
    · exact (h.foot i hi).2
    · exact Nat.le_trans h.below.size hi
  · exact (ht.block bx hlt h.nbx).trans h.blk
  · rintro ⟨hi | hi, _⟩
    · exact h.nbx hi
    · omega
  · rintro i hi ⟨h2 | h2, _⟩
    · exact h.nvs i hi h2
    · have := (World.ownsRow.lt h.slots i hi).2; omega
  · rintro i hi ⟨h2 | h2, _⟩
    · exact h.nvt i hi h2
    · have := (World.ownsRow.lt h.words i hi).2; omega

theorem Play.quiet (h : Play w wr bx m M f tr n F vs vt L tr2) (hb : Below wr.heap.size wr w3) : Play w w3 bx m M f tr n F vs vt L tr2 :=
  ⟨h.mem.kept hb, fun i hi => ⟨Nat.lt_of_lt_of_le (h.foot i hi).1 hb.size, (h.foot i hi).2⟩, (hb.block _ (lt_of_block h.blk)).trans h.blk, h.nbx, h.old, own_below h.slots hb, h.nvs, own_below h.words hb, h.nvt, h.below.trans (hb.mono h.below.size)⟩

/-- the document's memory is another one: laid in a variable y, then in bx -/
theorem Play.want {w5 : World} {y : Nat} (h : Play w wr bx m M f tr n F vs vt L tr2) (hb : Below wr.heap.size wr w4) (hs : SlotsOwn w4 vs' L') (ht : WordsOwn w4 vt' tr2') (ns : NewOr wr vs vs') (nt : NewOr wr vt vt')
    (hy : Turn (fun i => i = y) w4 w5) (y1 : ¬ F y) (y2 : bx ≠ y) (y3 : vs'.ownBlock ≠ some y) (y4 : vt'.ownBlock ≠ some y) (y5 : w.heap.size ≤ y) :
    Play w (((w5.setCell ⟨bx, 0, none⟩ (.int .i64 M)).setCell ⟨bx, 1, none⟩ vs').setCell ⟨bx, 2, none⟩ vt') bx m M f tr n F vs' vt' L' tr2' := by
  have h4 := h.quiet hb
  have hl4 := lt_of_block h4.blk
  have hbl : w5.heap[bx]? = some (.cells #[.int .i64 M, vs, vt] 29 (0, 0)) := (hy.block bx hl4 y2).trans h4.blk
  have hh : ∀ i, i ≠ bx → (((w5.setCell ⟨bx, 0, none⟩ (.int .i64 M)).setCell ⟨bx, 1, none⟩ vs').setCell ⟨bx, 2, none⟩ vt').heap[i]? = w5.heap[i]? := fun i hi =>
    (Below.heap_setCell _ _ _ _ hi).trans ((Below.heap_setCell _ _ _ _ hi).trans (Below.heap_setCell _ _ _ _ hi))
  have hsz : (((w5.setCell ⟨bx, 0, none⟩ (.int .i64 M)).setCell ⟨bx, 1, none⟩ vs').setCell ⟨bx, 2, none⟩ vt').heap.size = w5.heap.size := by simp [World.setCell]
  have hT : Turn (fun i => i = bx) w5 (((w5.setCell ⟨bx, 0, none⟩ (.int .i64 M)).setCell ⟨bx, 1, none⟩ vs').setCell ⟨bx, 2, none⟩ vt') := ⟨rfl, rfl, rfl, by rw [hsz]; exact Nat.le_refl _, fun i _ hi => hh i hi⟩
  have hs5 : SlotsOwn w5 vs' L' := own_turn hs hy (fun i hi e => y3 (e ▸ hi))
  have ht5 : WordsOwn w5 vt' tr2' := own_turn ht hy (fun i hi e => y4 (e ▸ hi))
  have b1 : ∀ i, vs'.ownBlock = some i → ¬ i = bx := fun i hi e => by
    rcases hs5.2 with ⟨rfl, _⟩ | ⟨g, cap, cur, rfl, _, hg, _⟩
    · simp [Value.ownBlock] at hi
    · simp [Value.ownBlock] at hi
      rw [hi, e, hbl] at hg; simp at hg
  have b2 : ∀ i, vt'.ownBlock = some i → ¬ i = bx := fun i hi e => by
    rcases ht5.2 with ⟨rfl, _⟩ | ⟨g, cap, cur, rfl, _, hg, _⟩
    · simp [Value.ownBlock] at hi
    · simp [Value.ownBlock] at hi
      rw [hi, e, hbl] at hg; simp at hg
  have m5 := h4.mem.turned hy (fun i _ hF e => y1 (e ▸ hF))
  refine ⟨m5.turned hT (fun i _ hF e => h4.nbx (e ▸ hF)), fun i hi => ⟨by rw [hsz]; exact Nat.lt_of_lt_of_le (h4.foot i hi).1 hy.size, (h4.foot i hi).2⟩, ?_, h4.nbx, h4.old, own_turn hs5 hT b1, ?_, own_turn ht5 hT b2, ?_, ?_⟩
  · simp [World.setCell, Array.getElem?_modify, hbl]
  · intro i hi
    rcases ns with rfl | ns
    · exact h.nvs i hi
    · intro hF; have := ns i hi; have := (h.foot i hF).1; omega
  · intro i hi
    rcases nt with rfl | nt
    · exact h.nvt i hi
    · intro hF; have := nt i hi; have := (h.foot i hF).1; omega
  · exact (h4.below.trans (hy.below (B := w.heap.size) (fun i hi => by rw [hi]; exact y5) h4.below.size)).trans (hT.below (B := w.heap.size) (fun i hi => by rw [hi]; exact h4.old) (Nat.le_trans h4.below.size hy.size))

theorem turn_alloc (w4 : World) (o : Obj) : Turn (fun i => i = w4.heap.size) w4 (w4.alloc o) := Turn.alloc _ _ _
theorem turn_set3 (w4 : World) (y : Nat) (u0 u1 u2 : Value) : Turn (fun i => i = y) w4 (((w4.setCell ⟨y, 0, none⟩ u0).setCell ⟨y, 1, none⟩ u1).setCell ⟨y, 2, none⟩ u2) :=
  ⟨rfl, rfl, rfl, by simp [World.setCell], fun i _ hi => (Below.heap_setCell _ _ _ _ hi).trans ((Below.heap_setCell _ _ _ _ hi).trans (Below.heap_setCell _ _ _ _ hi))⟩

theorem Play.name (h : Play w wr bx m M f tr n F vs vt L tr2) : ∃ w5, wr = w5 ∧ Play w w5 bx m M f tr n F vs vt L tr2 := ⟨_, rfl, h⟩
theorem Play.three (h : Play w wr bx m M f tr n F vs vt L tr2) : Three wr bx (.int .i64 M) vs vt := three_of h.blk

theorem play_start {w w2 : World} {B m : Nat} {M : Int} (hm : Mem w2 (From B) m M (fun _ => 0) [] 0) (hB : w.heap.size ≤ B) (hb : Below w.heap.size w w2) :
    ∃ F, Play w (w2.alloc (.cells #[.int .i64 M, .slice none 0 0, .slice none 0 0] 29)) w2.heap.size m M (fun _ => 0) [] 0 F (.slice none 0 0) (.slice none 0 0) [] [] := by
  obtain ⟨mb, v, D, hM, hF⟩ := hm
  refine ⟨fun i => From B i ∧ i < w2.heap.size, ?_, ?_, Deep.blk_alloc_new _ _, fun h => Nat.lt_irrefl _ h.2, hb.size, World.ownsRow_nil _ _ _ _, by simp [Value.ownBlock], World.ownsRow_nil _ _ _ _, by simp [Value.ownBlock], hb.alloc hb.size _⟩
  · have h0 : Mem w2 (fun i => From B i ∧ i < w2.heap.size) m M (fun _ => 0) [] 0 := ⟨mb, v, D, hM, fun i hi => ⟨hF i hi, hM.own_lt hi⟩⟩
    exact h0.kept ((Below.refl _ w2).alloc (Nat.le_refl _) _)
  · rintro i ⟨hi, hl⟩
    exact ⟨by simp; omega, Nat.le_trans hB hi⟩
end

end Go.Proofs.Ytfakfmefjfemhaa
