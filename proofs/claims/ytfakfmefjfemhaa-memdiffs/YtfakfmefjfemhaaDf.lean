/- mem.Diff where there is nothing to compare; the document's memory in a variable of its own. -/
import Derived.Test.YtfakfmefjfemhaaL4c
import Derived.Test.YtfakfmefjfemhaaL4p
import Derived.Test.YtfakfmefjfemhaaRd
namespace Go.Proofs.Ytfakfmefjfemhaa
set_option linter.unusedVariables false
set_option linter.unusedSimpArgs false
open Go.ChangeShapes Go.WideShapes Go.ChangeAt Go.RowKit Go.Joins

theorem diff_bitsM {w : World} {F F' : Nat → Prop} {m m' : Nat} {M M' : Int} {f g : Int → Int} {tr tr' : List Int} {n n' : Nat} (h : Mem w F m M f tr n) (h' : Mem w F' m' M' g tr' n') (hne : M ≠ M') :
    Calls Try.prog 24 #[.pointer (some ⟨m, 0, none⟩), .pointer (some ⟨m', 0, none⟩)] w fun e w' => e = .returned (.slice none 0 0) ∧ Below w.heap.size w w' := by
  obtain ⟨mb, v, D, h, _⟩ := h
  obtain ⟨mb', v', D', h', _⟩ := h'
  exact diff_bits w m m' M M' hne h.cells.1 h'.cells.1

/-- the document's memory in the variable bx; all else that was there in w0 is as it was -/
structure DocAt (w0 wr : World) (bx : Nat) (M : Int) (vs vt : Value) (L : List (Int × Int)) (tr : List Int) : Prop where
  blk : wr.heap[bx]? = some (.cells #[.int .i64 M, vs, vt] 29 (0, 0))
  slots : SlotsOwn wr vs L
  words : WordsOwn wr vt tr
  lt : bx < w0.heap.size
  turn : Turn (fun i => i = bx) w0 wr

section
variable {w0 wr w1 w3 w4 : World} {bx : Nat} {M : Int} {vs vt vs' vt' : Value} {L L' : List (Int × Int)} {tr tr' : List Int}

theorem not_box {base : Nat} {e : TypeId} {sz : Nat} {v : Value} {k : Nat} {xs : List Value} {t : TypeId} {ys : Array Value} (h : wr.ownsRow base e sz v k xs) (hb : wr.heap[bx]? = some (.cells ys t (0, 0))) (hne : e ≠ t) (i : Nat) (hi : v.ownBlock = some i) : ¬ i = bx := by
  intro e1
  rcases h.2 with ⟨rfl, _⟩ | ⟨g, cap, cur, rfl, _, hg, _⟩
  · simp [Value.ownBlock] at hi
  · simp [Value.ownBlock] at hi
    rw [hi, e1, hb] at hg; simp at hg
    exact hne hg.2.symm

theorem DocAt.start (hb : wr.heap[bx]? = some (.cells #[.int .i64 M, .slice none 0 0, .slice none 0 0] 29 (0, 0))) : DocAt wr wr bx M (.slice none 0 0) (.slice none 0 0) [] [] :=
  ⟨hb, World.ownsRow_nil _ _ _ _, World.ownsRow_nil _ _ _ _, lt_of_block hb, Turn.refl _ _⟩

theorem DocAt.quiet (h : DocAt w0 wr bx M vs vt L tr) (hb : Below wr.heap.size wr w3) : DocAt w0 w3 bx M vs vt L tr :=
  ⟨(hb.block _ (lt_of_block h.blk)).trans h.blk, own_below h.slots hb, own_below h.words hb, h.lt, h.turn.trans ((Turn.of_kept _ hb))⟩

theorem DocAt.three (h : DocAt w0 wr bx M vs vt L tr) : Three wr bx (.int .i64 M) vs vt := three_of h.blk
theorem DocAt.name (h : DocAt w0 wr bx M vs vt L tr) : ∃ w5, wr = w5 ∧ DocAt w0 w5 bx M vs vt L tr := ⟨_, rfl, h⟩

theorem DocAt.want {w5 : World} {y : Nat} (h : DocAt w0 wr bx M vs vt L tr) (hb : Below wr.heap.size wr w4) (hs : SlotsOwn w4 vs' L') (ht : WordsOwn w4 vt' tr')
    (hy : Turn (fun i => i = y) w4 w5) (y2 : bx ≠ y) (y3 : vs'.ownBlock ≠ some y) (y4 : vt'.ownBlock ≠ some y) (y5 : w0.heap.size ≤ y) :
    DocAt w0 (((w5.setCell ⟨bx, 0, none⟩ (.int .i64 M)).setCell ⟨bx, 1, none⟩ vs').setCell ⟨bx, 2, none⟩ vt') bx M vs' vt' L' tr' := by
  have h4 := h.quiet hb
  have hl4 := lt_of_block h4.blk
  have hbl : w5.heap[bx]? = some (.cells #[.int .i64 M, vs, vt] 29 (0, 0)) := (hy.block bx hl4 y2).trans h4.blk
  have hT : Turn (fun i => i = bx) w5 (((w5.setCell ⟨bx, 0, none⟩ (.int .i64 M)).setCell ⟨bx, 1, none⟩ vs').setCell ⟨bx, 2, none⟩ vt') := turn_set3 _ _ _ _ _
  have hs5 : SlotsOwn w5 vs' L' := own_turn hs hy (fun i hi e => y3 (e ▸ hi))
  have ht5 : WordsOwn w5 vt' tr' := own_turn ht hy (fun i hi e => y4 (e ▸ hi))
  have b1 : ∀ i, vs'.ownBlock = some i → ¬ i = bx := not_box hs5 hbl (by decide)
  have b2 : ∀ i, vt'.ownBlock = some i → ¬ i = bx := not_box ht5 hbl (by decide)
  refine ⟨?_, own_turn hs5 hT b1, own_turn ht5 hT b2, h.lt, ?_⟩
  · simp [World.setCell, Array.getElem?_modify, hbl]
  · have t5 : Turn (fun i => i = bx) w0 w5 := h4.turn.trans (hy.mono fun i _ e => Or.inr (by omega))
    exact t5.trans (hT.mono fun i _ e => Or.inl e)

theorem DocAt.below {w : World} (h : DocAt w0 wr bx M vs vt L tr) (hB : Below w.heap.size w w0) (hbx : w.heap.size ≤ bx) : Below w.heap.size w wr :=
  hB.trans (h.turn.below (fun i hi => by rw [hi]; exact hbx) hB.size)

theorem two_docs (w : World) (o p : Obj) : ((w.alloc o).alloc p).heap[w.heap.size]? = some o ∧ ((w.alloc o).alloc p).heap[w.heap.size + 1]? = some p ∧ Below w.heap.size w ((w.alloc o).alloc p) ∧ ((w.alloc o).alloc p).heap.size = w.heap.size + 2 := by
  have e1 : (w.alloc o).heap.size = w.heap.size + 1 := by simp
  refine ⟨(Deep.blk_alloc_lt _ _ _ (by simp)).trans (Deep.blk_alloc_new _ _), ?_, ((Below.refl _ w).alloc (Nat.le_refl _) _).alloc (by simp) _, by simp⟩
  have h3 := Deep.blk_alloc_new (w.alloc o) p
  rwa [e1] at h3

variable {q : Addr} {kk aa xx : Int}
theorem regd2_start (h : DocAt w0 w3 bx M vs vt L tr) (d0 : w3.cell? q = some (.int .i64 kk)) (d1 : w3.cell? ⟨q.block, q.off + 1, none⟩ = some (.int .u64 aa)) (d2 : w3.cell? ⟨q.block, q.off + 2, none⟩ = some (.int .u64 xx)) : RegW w3 w3.drew bx M vs vt q kk aa xx := by
  obtain ⟨c0, c1, c2, f0, f1, f2⟩ := h.three
  exact ⟨c0, c1, c2, f0, f1, f2, d0, d1, d2, Kept.drew0 _⟩

theorem want_doc {f : Int → Int} (h : DocAt w0 w3 bx M vs vt L tr) (hr : RegW w3 w1 bx M vs vt q kk aa xx)
    (hM : 14 ≤ M ∧ M ≤ 22) (hl : L.length < 100000) (ht : tr.length < 1000000) (hf : Agree f L) (hw : ∀ s, W64 (f s)) (ha : W64 aa) (hx : W64 xx) :
    Calls Try.prog 12 #[.agg #[.int .i64 M, vs, vt], .agg #[.int .i64 kk, .int .u64 aa, .int .u64 xx]] w1 fun e w4 => ∃ A1 c1 A2 c2, e = .returned (.tuple #[.agg #[.int .i64 M, .slice A1 (pairL M f L kk aa xx).length c1, .slice A2 (pairT M tr kk aa).length c2], .int .u64 (pairV M f kk aa), .int .i64 (pairE M kk aa)]) ∧
      Hid (∀ (w5 : World) (y : Nat), Turn (fun i => i = y) w4 w5 → (y = w4.heap.size ∨ (y = w3.heap.size ∧ w3.heap.size < w1.heap.size)) → DocAt w0 (((w5.setCell ⟨bx, 0, none⟩ (.int .i64 M)).setCell ⟨bx, 1, none⟩ (.slice A1 (pairL M f L kk aa xx).length c1)).setCell ⟨bx, 2, none⟩ (.slice A2 (pairT M tr kk aa).length c2)) bx M (.slice A1 (pairL M f L kk aa xx).length c1) (.slice A2 (pairT M tr kk aa).length c2) (pairL M f L kk aa xx) (pairT M tr kk aa)) ∧ RegW w3 w4 bx M vs vt q kk aa xx ∧ Below w1.heap.size w1 w4 := by
  have hk : Below w3.heap.size w3 w1 := hr.2.2.2.2.2.2.2.2.2
  have h1 := h.quiet hk
  refine (want_any M vs vt L tr f kk aa xx w1 hM h1.slots hl h1.words ht hf hw ha hx).mono fun _ w4 ⟨vs', vt', e, hs, hwd, ns, nt, hb⟩ => ?_
  obtain ⟨A1, c1, rfl, _⟩ := hs.form
  obtain ⟨A2, c2, rfl⟩ := own_len hwd
  refine ⟨A1, c1, A2, c2, e, fun w5 y hy hc => ?_, regw_step hr hb, hb⟩
  have l1 := lt_of_block h.blk
  have l2 := hb.size
  have l3 := Below.size hk
  have l4 := h.turn.size
  have l5 := h.lt
  refine h1.want hb hs hwd hy (by omega) (fun e2 => ?_) (fun e2 => ?_) (by omega)
  · have := (World.ownsRow.lt hs _ e2).2
    rcases ns with e3 | ns
    · rw [e3] at e2
      have := (World.ownsRow.lt h.slots _ e2).2
      omega
    · have := ns _ e2
      omega
  · have := (World.ownsRow.lt hwd _ e2).2
    rcases nt with e3 | nt
    · rw [e3] at e2
      have := (World.ownsRow.lt h.words _ e2).2
      omega
    · have := nt _ e2
      omega
end

/-- words that are not 0 lie within the memory -/
def Inside (M : Int) (f : Int → Int) : Prop := ∀ s, f s ≠ 0 → 0 ≤ s ∧ s * 8 < sizeM M

theorem inside_pair {M : Int} {f : Int → Int} (h : Inside M f) {k a x : Int} (ha : 0 ≤ a) : Inside M (pairF M f k a x) := by
  have upd : ∀ y : Int, a < sizeM M → Inside M (updF f (a / 8) y) := fun y hlt s hs => by
    unfold updF at hs
    by_cases e : s = a / 8
    · subst e; omega
    · rw [if_neg e] at hs; exact h s hs
  unfold pairF putS storeS
  split
  · split
    · exact h
    · exact upd _ (by omega)
  · split
    · split
      · rename_i he; exact upd _ (errS_in he).1
      · exact h
    · exact h

theorem inside_play (M : Int) (ds : List (Int × Int × Int)) (hok : DeedsOk ds) : ∀ k, k ≤ ds.length → Inside M (playF M ds k)
  | 0, _ => fun s hs => absurd rfl hs
  | k + 1, hk => inside_pair (inside_play M ds hok k (by omega)) (hok k (by omega)).1.1

theorem words_pair {M : Int} {f : Int → Int} (h : ∀ s, W64 (f s)) {k a x : Int} (hx : W64 x) (s : Int) : W64 (pairF M f k a x s) := by
  have upd : ∀ y : Int, W64 y → W64 (updF f (a / 8) y s) := fun y hy => by
    unfold updF
    split
    · exact hy
    · exact h s
  unfold pairF putS storeS
  repeat' split
  all_goals first | exact h _ | exact upd _ hx | exact upd _ (w64_put (h _) _ _)

theorem play_words (M : Int) (ds : List (Int × Int × Int)) (hok : DeedsOk ds) : ∀ k, k ≤ ds.length → ∀ s, W64 (playF M ds k s)
  | 0, _ => fun s => show W64 0 from ⟨by decide, by decide⟩
  | k + 1, hk => words_pair (play_words M ds hok k (by omega)) (hok k (by omega)).2

theorem dif_inside {f g : Int → Int} (hf : Inside 16 f) (hg : Inside 16 g) {x : Int} (h : Dif f g x) : 0 ≤ x ∧ x < 65536 ∧ errS 16 x = 0 := by
  obtain ⟨h8, hne⟩ := h
  have hs : sizeM 16 = 65536 := by decide
  have h1 : 0 ≤ x / 8 ∧ x / 8 * 8 < 65536 := by
    by_cases e : f (x / 8) = 0
    · have h2 := hg (x / 8) (by omega)
      rwa [hs] at h2
    · have h2 := hf (x / 8) e
      rwa [hs] at h2
  refine ⟨by omega, by omega, err16 (by omega) h8⟩

end Go.Proofs.Ytfakfmefjfemhaa
