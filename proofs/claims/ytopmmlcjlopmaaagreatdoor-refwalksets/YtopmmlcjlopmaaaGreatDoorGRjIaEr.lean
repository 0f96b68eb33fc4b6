/- Several texts of ours in one: Rj, Ia, Er. -/
import Derived.Test.YtopmmlcjlopmaaaGreatDoorGRlRsRp
import Derived.Test.YtopmmlcjlopmaaaGreatDoorGHpHqHu
import Derived.Test.YtopmmlcjlopmaaaGreatDoorGMeEmEa
import Derived.Test.YtopmmlcjlopmaaaGreatDoorGVaVrFr
/- The document's slots: each once, rising; rows beside what is turned. -/
namespace Go.Proofs.YtopmmlcjlopmaaaGreatDoor
set_option linter.unusedVariables false
set_option linter.unusedSimpArgs false
open Go.ChangeShapes Go.WideShapes Go.ChangeAt Go.RowKit Go.Joins

/-- each once, rising, each at a slot -/
structure Ris (L : List (Int × Int)) : Prop where
  up : L.Pairwise fun p q => p.1 < q.1
  al : ∀ p ∈ L, p.1 % 8 = 0 ∧ 0 ≤ p.1

theorem Ris.nil : Ris [] := ⟨List.Pairwise.nil, fun _ h => by simp at h⟩

structure RisTo (P : List (Int × Int)) (a : Int) (s : List (Int × Int) × Bool) : Prop where
  r1 : s.1.Pairwise fun p q => p.1 < q.1
  r2 : ∀ q ∈ s.1, q.1 = a ∨ ∃ p ∈ P, p.1 = q.1
  r3 : s.2 = false → ∀ q ∈ s.1, q.1 < a
  r4 : s.2 = true → ∃ p ∈ P, a < p.1

theorem RisTo.step {P : List (Int × Int)} {a x : Int} {s : List (Int × Int) × Bool} (h : RisTo P a s) (p : Int × Int) (hp : ∀ q ∈ P, q.1 < p.1) : RisTo (P ++ [p]) a (stepL a x s p) := by
  have sup : ∀ q : Int × Int, (∃ p ∈ P, p.1 = q.1) → ∃ p' ∈ P ++ [p], p'.1 = q.1 := fun q ⟨p', h1, h2⟩ => ⟨p', by simp [h1], h2⟩
  unfold stepL
  by_cases h1 : p.1 = a
  · rw [if_pos h1]
    exact ⟨h.r1, fun q hq => (h.r2 q hq).imp id (sup q), h.r3, fun e => by obtain ⟨p', h2, h3⟩ := h.r4 e; exact ⟨p', by simp [h2], h3⟩⟩
  · rw [if_neg h1]
    by_cases h2 : s.2 = false ∧ a < p.1
    · rw [if_pos h2]
      refine ⟨?_, fun q hq => ?_, fun e => by simp at e, fun _ => ⟨p, by simp, h2.2⟩⟩
      · refine List.pairwise_append.2 ⟨List.pairwise_append.2 ⟨h.r1, by simp, fun q hq r hr => ?_⟩, by simp, fun q hq r hr => ?_⟩
        · simp at hr; subst hr; exact h.r3 h2.1 q hq
        · simp at hr; subst hr
          rcases List.mem_append.1 hq with hq | hq
          · exact Int.lt_trans (h.r3 h2.1 q hq) h2.2
          · simp at hq; subst hq; exact h2.2
      · rcases List.mem_append.1 hq with hq | hq
        · rcases List.mem_append.1 hq with hq | hq
          · exact (h.r2 q hq).imp id (sup q)
          · simp at hq; subst hq; exact Or.inl rfl
        · simp at hq; subst hq; exact Or.inr ⟨q, by simp, rfl⟩
    · rw [if_neg h2]
      have hlt : ∀ q ∈ s.1, q.1 < p.1 := fun q hq => by
        rcases h.r2 q hq with e | ⟨p', hp', e⟩
        · cases hs : s.2 with
          | false => have := h.r3 hs q hq; omega
          | true => obtain ⟨p', h3, h4⟩ := h.r4 hs; have := hp p' h3; omega
        · have := hp p' hp'; omega
      refine ⟨List.pairwise_append.2 ⟨h.r1, by simp, fun q hq r hr => ?_⟩, fun q hq => ?_, fun e q hq => ?_, fun e => ?_⟩
      · simp at hr; subst hr; exact hlt q hq
      · rcases List.mem_append.1 hq with hq | hq
        · exact (h.r2 q hq).imp id (sup q)
        · simp at hq; subst hq; exact Or.inr ⟨q, by simp, rfl⟩
      · rcases List.mem_append.1 hq with hq | hq
        · exact h.r3 e q hq
        · simp at hq; subst hq
          have : ¬ a < q.1 := fun h3 => h2 ⟨e, h3⟩
          omega
      · obtain ⟨p', h3, h4⟩ := h.r4 e
        exact ⟨p', by simp [h3], h4⟩

theorem risTo_fold (a x : Int) : ∀ (Q P : List (Int × Int)) (s : List (Int × Int) × Bool), RisTo P a s → (P ++ Q).Pairwise (fun p q => p.1 < q.1) → RisTo (P ++ Q) a (Q.foldl (stepL a x) s)
  | [], P, s, h, _ => by simpa using h
  | q :: Q, P, s, h, hp => by
    have h1 : ∀ p ∈ P, p.1 < q.1 := fun p hpm => (List.pairwise_append.1 hp).2.2 p hpm q (by simp)
    have h2 := risTo_fold a x Q (P ++ [q]) (stepL a x s q) (h.step q h1) (by simpa using hp)
    simpa using h2

theorem Ris.set {L : List (Int × Int)} (h : Ris L) {a : Int} (ha : a % 8 = 0) (h0 : 0 ≤ a) (x : Int) : Ris (setL L a x) := by
  have h1 := risTo_fold a x L [] ([], false) ⟨List.Pairwise.nil, fun _ h => by simp at h, fun _ _ h => by simp at h, fun h => by simp at h⟩ (by simpa using h.up)
  have e : stL L a x L.length = L.foldl (stepL a x) ([], false) := by unfold stL; rw [List.take_length]
  rw [List.nil_append, ← e] at h1
  unfold setL
  have al : ∀ q ∈ (stL L a x L.length).1, q.1 % 8 = 0 ∧ 0 ≤ q.1 := fun q hq => by
    rcases h1.r2 q hq with e | ⟨p, hp, e⟩
    · rw [e]; exact ⟨ha, h0⟩
    · rw [← e]; exact h.al p hp
  by_cases hd : (stL L a x L.length).2 = true
  · rw [if_pos hd]; exact ⟨h1.r1, al⟩
  · rw [if_neg hd]
    have hd' : (stL L a x L.length).2 = false := by simpa using hd
    refine ⟨List.pairwise_append.2 ⟨h1.r1, by simp, fun q hq r hr => ?_⟩, fun q hq => ?_⟩
    · simp at hr; subst hr; exact h1.r3 hd' q hq
    · rcases List.mem_append.1 hq with hq | hq
      · exact al q hq
      · simp at hq; subst hq; exact ⟨ha, h0⟩

section
variable {wr w3 : World} {bx : Nat} {F : Nat → Prop}
theorem own_turn {base : Nat} {e : TypeId} {sz : Nat} {v : Value} {k : Nat} {xs : List Value} (h : wr.ownsRow base e sz v k xs) (ht : Turn F wr w3) (hn : ∀ i, v.ownBlock = some i → ¬ F i) : w3.ownsRow base e sz v k xs := by
  refine ⟨h.1, ?_⟩
  rcases h.2 with h2 | ⟨g, cap, cur, hv, hb, hg, r⟩
  · exact Or.inl h2
  · refine Or.inr ⟨g, cap, cur, hv, hb, ?_, r⟩
    rw [ht.block g (lt_of_block hg) (hn g (by rw [hv]; rfl))]; exact hg
theorem not_box {base : Nat} {e : TypeId} {sz : Nat} {v : Value} {k : Nat} {xs : List Value} {t : TypeId} {ys : Array Value} (h : wr.ownsRow base e sz v k xs) (hb : wr.heap[bx]? = some (.cells ys t (0, 0))) (hne : e ≠ t) (i : Nat) (hi : v.ownBlock = some i) : ¬ i = bx := by
  intro e1
  rcases h.2 with ⟨rfl, _⟩ | ⟨g, cap, cur, rfl, _, hg, _⟩
  · simp [Value.ownBlock] at hi
  · simp [Value.ownBlock] at hi
    rw [hi, e1, hb] at hg; simp at hg
    exact hne hg.2.symm
end
end Go.Proofs.YtopmmlcjlopmaaaGreatDoor
/- The document's memory as a value; the document's Built, and its set. -/
namespace Go.Proofs.YtopmmlcjlopmaaaGreatDoor
set_option linter.unusedVariables false
set_option linter.unusedSimpArgs false
open Go.ChangeShapes Go.WideShapes Go.ChangeAt Go.RowKit Go.Joins

section
variable {w w' : World} {b : Nat} {t : TypeId} {x0 x1 x2 y0 y1 y2 : Value} {cs : Array Value}
theorem Blk.three (h : Blk w b #[x0, x1, x2] t) : w.cell? ⟨b, 0, none⟩ = some x0 ∧ w.cell? ⟨b, 1, none⟩ = some x1 ∧ w.cell? ⟨b, 2, none⟩ = some x2 := by
  unfold Blk at h; simp [World.cell?, h]
theorem Blk.set3 (h : Blk w b #[x0, x1, x2] t) (y0 y1 y2 : Value) : Blk (((w.setCell ⟨b, 0, none⟩ y0).setCell ⟨b, 1, none⟩ y1).setCell ⟨b, 2, none⟩ y2) b #[y0, y1, y2] t := by
  unfold Blk at *; simp [World.setCell, Array.getElem?_modify, h]
theorem turn3 (w : World) (b : Nat) (y0 y1 y2 : Value) : Turn (fun i => i = b) w (((w.setCell ⟨b, 0, none⟩ y0).setCell ⟨b, 1, none⟩ y1).setCell ⟨b, 2, none⟩ y2) :=
  ((turn1 _ _ _ _).and (turn1 _ _ _ _)).and (turn1 _ _ _ _)
end

/-- the document's memory: its slots, and its trace -/
structure Doc (w : World) (M : Int) (vs vt : Value) (f : Int → Int) (tr : List Int) (L : List (Int × Int)) : Prop where
  slots : SlotsOwn w vs L
  words : WordsOwn w vt tr
  agree : Agree f L
  ris : Ris L
  ins : ∀ p ∈ L, errS M p.1 = 0

abbrev docCells (M : Int) (vs vt : Value) : Array Value := #[.int .i64 M, vs, vt]

section
variable {w wr w3 : World} {M : Int} {vs vt vs' vt' : Value} {f : Int → Int} {tr tr' : List Int} {L : List (Int × Int)} {b : Nat} {cs : Array Value} {t : TypeId}
theorem Doc.quiet (h : Doc w M vs vt f tr L) (hb : Below w.heap.size w w3) : Doc w3 M vs vt f tr L := ⟨own_below h.slots hb, own_below h.words hb, h.agree, h.ris, h.ins⟩
/-- a box of structs is turned -/
theorem Doc.box (h : Doc w M vs vt f tr L) (hb : Blk w b cs t) (h1 : 103 ≠ t) (h2 : 23 ≠ t) (ht : Turn (fun i => i = b) w w3) : Doc w3 M vs vt f tr L :=
  ⟨own_turn h.slots ht (not_box h.slots hb h1), own_turn h.words ht (not_box h.words hb h2), h.agree, h.ris, h.ins⟩
theorem Doc.start (w : World) (M : Int) : Doc w M (.slice none 0 0) (.slice none 0 0) (fun _ => 0) [] [] :=
  ⟨World.ownsRow_nil _ _ _ _, World.ownsRow_nil _ _ _ _, fun _ => rfl, Ris.nil, fun _ h => by simp at h⟩
theorem mem_setL {L : List (Int × Int)} (h : Ris L) {a x : Int} {p : Int × Int} (hp : p ∈ setL L a x) : p.1 = a ∨ ∃ q ∈ L, q.1 = p.1 := by
  have h1 := risTo_fold a x L [] ([], false) ⟨List.Pairwise.nil, fun _ h => by simp at h, fun _ _ h => by simp at h, fun h => by simp at h⟩ (by simpa using h.up)
  have e : stL L a x L.length = L.foldl (stepL a x) ([], false) := by unfold stL; rw [List.take_length]
  rw [List.nil_append, ← e] at h1
  unfold setL at hp
  split at hp
  · exact h1.r2 p hp
  · rcases List.mem_append.1 hp with hq | hq
    · exact h1.r2 p hq
    · simp at hq; subst hq; exact Or.inl rfl
theorem Doc.store (h : Doc w M vs vt f tr L) (hw : WordsOwn w3 vt tr) (a x : Int) (ha : W64 a) (hs : SlotsOwn w3 vs' (storeL M L a x)) : Doc w3 M vs' vt (storeS M f a x) tr (storeL M L a x) := by
  refine ⟨hs, hw, agree_store h.agree a x, ?_, ?_⟩
  · unfold storeL
    split
    · rename_i e; exact h.ris.set (errS_in e).2 ha.1 x
    · exact h.ris
  · intro p hp
    unfold storeL at hp
    split at hp
    · rename_i e
      rcases mem_setL h.ris hp with h1 | ⟨q, hq, h1⟩
      · rw [h1]; exact e
      · rw [← h1]; exact h.ins q hq
    · exact h.ins p hp
end

theorem Doc.form {w : World} {M : Int} {vs vt : Value} {f : Int → Int} {tr : List Int} {L : List (Int × Int)} (h : Doc w M vs vt f tr L) : ∃ A c A' c', vs = .slice A L.length c ∧ vt = .slice A' tr.length c' := by
  obtain ⟨A, c, e, _⟩ := h.slots.form
  obtain ⟨A', c', e'⟩ := own_len h.words
  exact ⟨A, c, A', c', e, e'⟩
end Go.Proofs.YtopmmlcjlopmaaaGreatDoor
/- Contracts of dormerref05: what each call of the document's own answer returns. -/
namespace Go.Proofs.YtopmmlcjlopmaaaGreatDoor
set_option linter.unusedVariables false
set_option linter.unusedSimpArgs false
open Go.ChangeShapes Go.WideShapes Go.ChangeAt Go.RowKit Go.Joins

end Go.Proofs.YtopmmlcjlopmaaaGreatDoor
