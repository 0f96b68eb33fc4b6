/- Several texts of ours in one: Rs, Rj, Bx. -/
import Derived.Test.YtddbjbdhbeijjaaDoorGWrRfRl
import Derived.Test.YtddbjbdhbeijjaaDoorGHcDpWa
import Derived.Test.YtddbjbdhbeijjaaDoorGHaRgHb
/- Contracts of package dormerref04: set. -/
namespace Go.Proofs.YtddbjbdhbeijjaaDoor
set_option linter.unusedVariables false
set_option linter.unusedSimpArgs false
open Go.ChangeShapes Go.WideShapes Go.ChangeAt Go.RowKit Go.Joins

def stepL (a x : Int) (s : List (Int × Int) × Bool) (p : Int × Int) : List (Int × Int) × Bool :=
  if p.1 = a then s else if s.2 = false ∧ a < p.1 then ((s.1 ++ [(a, x)]) ++ [p], true) else (s.1 ++ [p], s.2)
def stL (L : List (Int × Int)) (a x : Int) (k : Nat) : List (Int × Int) × Bool := (L.take k).foldl (stepL a x) ([], false)
/-- the slots with x at a -/
def setL (L : List (Int × Int)) (a x : Int) : List (Int × Int) := if (stL L a x L.length).2 then (stL L a x L.length).1 else (stL L a x L.length).1 ++ [(a, x)]

def hasL (L : List (Int × Int)) (a : Int) : Bool := L.any fun p => p.1 == a
theorem wordL_append (L K : List (Int × Int)) (a : Int) : wordL (L ++ K) a = if hasL L a then wordL L a else wordL K a := by
  induction L with
  | nil => rfl
  | cons p L ih =>
    by_cases h : p.1 = a
    · simp [wordL, hasL, h]
    · have hb : (p.1 == a) = false := by simpa using h
      have hh : hasL (p :: L) a = hasL L a := by unfold hasL; rw [List.any_cons, hb, Bool.false_or]
      simp only [List.cons_append, wordL, if_neg h, ih, hh]
theorem hasL_append (L K : List (Int × Int)) (a : Int) : hasL (L ++ K) a = (hasL L a || hasL K a) := by simp [hasL]
theorem hasL_one (p : Int × Int) (a : Int) : hasL [p] a = (p.1 == a) := by simp [hasL]

/-- what the loop has made of the slots P: all of them but a; a with x, if it is done -/
structure Made (P : List (Int × Int)) (a x : Int) (s : List (Int × Int) × Bool) : Prop where
  has : ∀ b, b ≠ a → hasL s.1 b = hasL P b
  word : ∀ b, b ≠ a → wordL s.1 b = wordL P b
  done : s.2 = true → hasL s.1 a = true ∧ wordL s.1 a = x
  open_ : s.2 = false → hasL s.1 a = false
  len : s.1.length ≤ P.length + (if s.2 then 1 else 0)

theorem Made.step {P : List (Int × Int)} {a x : Int} {s : List (Int × Int) × Bool} (h : Made P a x s) (p : Int × Int) : Made (P ++ [p]) a x (stepL a x s p) := by
  unfold stepL
  by_cases h1 : p.1 = a
  · rw [if_pos h1]
    refine ⟨fun b hb => ?_, fun b hb => ?_, h.done, h.open_, by have := h.len; simp; omega⟩
    · rw [h.has b hb, hasL_append, hasL_one]; simp [h1, Ne.symm hb]
    · rw [h.word b hb, wordL_append]
      split
      · rfl
      · rename_i hn
        have : wordL P b = 0 := by
          apply wordL_miss
          intro j hj e
          apply hn
          unfold hasL
          rw [List.any_eq_true]
          exact ⟨P.getD j (0, 0), by simp [List.getD, List.getElem?_eq_getElem hj], by simpa using e⟩
        rw [this]; simp [wordL, h1, Ne.symm hb]
  · rw [if_neg h1]
    by_cases h2 : s.2 = false ∧ a < p.1
    · rw [if_pos h2]
      have ho := h.open_ h2.1
      refine ⟨fun b hb => ?_, fun b hb => ?_, fun _ => ⟨?_, ?_⟩, fun e => by simp at e, by have := h.len; simp [h2.1] at this ⊢; omega⟩
      · have hab : (a == b) = false := by simpa using Ne.symm hb
        simp only [hasL_append, hasL_one, h.has b hb, hab, Bool.or_false]
      · have hab : (a == b) = false := by simpa using Ne.symm hb
        simp only [wordL_append, hasL_append, hasL_one, h.has b hb, h.word b hb, hab, Bool.or_false]
        by_cases hp : hasL P b = true
        · rw [if_pos hp, if_pos hp, if_pos hp]
        · rw [if_neg hp, if_neg hp]
      · simp only [hasL_append, hasL_one]
        simp
      · simp only [wordL_append, hasL_append, hasL_one, ho]
        simp [wordL]
    · rw [if_neg h2]
      refine ⟨fun b hb => ?_, fun b hb => ?_, fun e => ?_, fun e => ?_, by have := h.len; simp at this ⊢; omega⟩
      · simp [hasL_append, h.has b hb]
      · simp only [wordL_append, h.has b hb, h.word b hb]
      · have := h.done e
        simp only [wordL_append, hasL_append, this.1]
        simp [this.2]
      · simp [hasL_append, hasL_one, h.open_ e, h1]

/-- what set's loop keeps: the boxed memory, the result's variable, all that was there -/
def SetRel (w wr : World) (M : Int) (A : Option Addr) (n c : Nat) (A' : Option Addr) (n' c' : Nat) : Prop :=
  Hid (Three wr w.heap.size (.int .i64 M) (.slice A n c) (.slice A' n' c')) ∧ Hid (Three wr (w.heap.size + 1) (.int .i64 0) (.slice none 0 0) (.slice none 0 0)) ∧ Hid (Below w.heap.size w wr) ∧ Hid (w.heap.size + 2 ≤ wr.heap.size)

theorem SetRel.step {w wr w1 : World} {M : Int} {A : Option Addr} {n c : Nat} {A' : Option Addr} {n' c' : Nat} (h : SetRel w wr M A n c A' n' c') (hb : Below (w.heap.size + 2) wr w1) : SetRel w w1 M A n c A' n' c' :=
  ⟨three_below h.1.out hb (by omega), three_below h.2.1.out hb (by omega), h.2.2.1.out.trans (hb.mono (by omega)), Nat.le_trans h.2.2.2.out hb.size⟩

end Go.Proofs.YtddbjbdhbeijjaaDoor
/- The document's slots: each once, rising; rows beside what is turned. -/
namespace Go.Proofs.YtddbjbdhbeijjaaDoor
set_option linter.unusedVariables false
set_option linter.unusedSimpArgs false
open Go.ChangeShapes Go.WideShapes Go.ChangeAt Go.RowKit Go.Joins

/-- each once, rising, each at a slot -/
structure Ris (L : List (Int × Int)) : Prop where
  up : L.Pairwise fun p q => p.1 < q.1
  al : ∀ p ∈ L, p.1 % 8 = 0 ∧ 0 ≤ p.1

theorem Ris.nil : Ris [] := ⟨List.Pairwise.nil, fun _ h => by simp at h⟩

structure RisTo (P : List (Int × Int)) (a : Int) (s : List (Int × Int) × Bool) : Prop where
  r1 : s.1.Pairwise fun p q => p.1 < q.1
  r2 : ∀ q ∈ s.1, q.1 = a ∨ ∃ p ∈ P, p.1 = q.1
  r3 : s.2 = false → ∀ q ∈ s.1, q.1 < a
  r4 : s.2 = true → ∃ p ∈ P, a < p.1

theorem RisTo.step {P : List (Int × Int)} {a x : Int} {s : List (Int × Int) × Bool} (h : RisTo P a s) (p : Int × Int) (hp : ∀ q ∈ P, q.1 < p.1) : RisTo (P ++ [p]) a (stepL a x s p) := by
  have sup : ∀ q : Int × Int, (∃ p ∈ P, p.1 = q.1) → ∃ p' ∈ P ++ [p], p'.1 = q.1 := fun q ⟨p', h1, h2⟩ => ⟨p', by simp [h1], h2⟩
  unfold stepL
  by_cases h1 : p.1 = a
  · rw [if_pos h1]
    exact ⟨h.r1, fun q hq => (h.r2 q hq).imp id (sup q), h.r3, fun e => by obtain ⟨p', h2, h3⟩ := h.r4 e; exact ⟨p', by simp [h2], h3⟩⟩
  · rw [if_neg h1]
    by_cases h2 : s.2 = false ∧ a < p.1
    · rw [if_pos h2]
      refine ⟨?_, fun q hq => ?_, fun e => by simp at e, fun _ => ⟨p, by simp, h2.2⟩⟩
      · refine List.pairwise_append.2 ⟨List.pairwise_append.2 ⟨h.r1, by simp, fun q hq r hr => ?_⟩, by simp, fun q hq r hr => ?_⟩
        · simp at hr; subst hr; exact h.r3 h2.1 q hq
        · simp at hr; subst hr
          rcases List.mem_append.1 hq with hq | hq
          · exact Int.lt_trans (h.r3 h2.1 q hq) h2.2
          · simp at hq; subst hq; exact h2.2
      · rcases List.mem_append.1 hq with hq | hq
        · rcases List.mem_append.1 hq with hq | hq
          · exact (h.r2 q hq).imp id (sup q)
          · simp at hq; subst hq; exact Or.inl rfl
        · simp at hq; subst hq; exact Or.inr ⟨q, by simp, rfl⟩
    · rw [if_neg h2]
      have hlt : ∀ q ∈ s.1, q.1 < p.1 := fun q hq => by
        rcases h.r2 q hq with e | ⟨p', hp', e⟩
        · cases hs : s.2 with
          | false => have := h.r3 hs q hq; omega
          | true => obtain ⟨p', h3, h4⟩ := h.r4 hs; have := hp p' h3; omega
        · have := hp p' hp'; omega
      refine ⟨List.pairwise_append.2 ⟨h.r1, by simp, fun q hq r hr => ?_⟩, fun q hq => ?_, fun e q hq => ?_, fun e => ?_⟩
      · simp at hr; subst hr; exact hlt q hq
      · rcases List.mem_append.1 hq with hq | hq
        · exact (h.r2 q hq).imp id (sup q)
        · simp at hq; subst hq; exact Or.inr ⟨q, by simp, rfl⟩
      · rcases List.mem_append.1 hq with hq | hq
        · exact h.r3 e q hq
        · simp at hq; subst hq
          have : ¬ a < q.1 := fun h3 => h2 ⟨e, h3⟩
          omega
      · obtain ⟨p', h3, h4⟩ := h.r4 e
        exact ⟨p', by simp [h3], h4⟩

theorem risTo_fold (a x : Int) : ∀ (Q P : List (Int × Int)) (s : List (Int × Int) × Bool), RisTo P a s → (P ++ Q).Pairwise (fun p q => p.1 < q.1) → RisTo (P ++ Q) a (Q.foldl (stepL a x) s)
  | [], P, s, h, _ => by simpa using h
  | q :: Q, P, s, h, hp => by
    have h1 : ∀ p ∈ P, p.1 < q.1 := fun p hpm => (List.pairwise_append.1 hp).2.2 p hpm q (by simp)
    have h2 := risTo_fold a x Q (P ++ [q]) (stepL a x s q) (h.step q h1) (by simpa using hp)
    simpa using h2

theorem Ris.set {L : List (Int × Int)} (h : Ris L) {a : Int} (ha : a % 8 = 0) (h0 : 0 ≤ a) (x : Int) : Ris (setL L a x) := by
  have h1 := risTo_fold a x L [] ([], false) ⟨List.Pairwise.nil, fun _ h => by simp at h, fun _ _ h => by simp at h, fun h => by simp at h⟩ (by simpa using h.up)
  have e : stL L a x L.length = L.foldl (stepL a x) ([], false) := by unfold stL; rw [List.take_length]
  rw [List.nil_append, ← e] at h1
  unfold setL
  have al : ∀ q ∈ (stL L a x L.length).1, q.1 % 8 = 0 ∧ 0 ≤ q.1 := fun q hq => by
    rcases h1.r2 q hq with e | ⟨p, hp, e⟩
    · rw [e]; exact ⟨ha, h0⟩
    · rw [← e]; exact h.al p hp
  by_cases hd : (stL L a x L.length).2 = true
  · rw [if_pos hd]; exact ⟨h1.r1, al⟩
  · rw [if_neg hd]
    have hd' : (stL L a x L.length).2 = false := by simpa using hd
    refine ⟨List.pairwise_append.2 ⟨h1.r1, by simp, fun q hq r hr => ?_⟩, fun q hq => ?_⟩
    · simp at hr; subst hr; exact h1.r3 hd' q hq
    · rcases List.mem_append.1 hq with hq | hq
      · exact al q hq
      · simp at hq; subst hq; exact ⟨ha, h0⟩

section
variable {wr w3 : World} {bx : Nat} {F : Nat → Prop}
theorem own_turn {base : Nat} {e : TypeId} {sz : Nat} {v : Value} {k : Nat} {xs : List Value} (h : wr.ownsRow base e sz v k xs) (ht : Turn F wr w3) (hn : ∀ i, v.ownBlock = some i → ¬ F i) : w3.ownsRow base e sz v k xs := by
  refine ⟨h.1, ?_⟩
  rcases h.2 with h2 | ⟨g, cap, cur, hv, hb, hg, r⟩
  · exact Or.inl h2
  · refine Or.inr ⟨g, cap, cur, hv, hb, ?_, r⟩
    rw [ht.block g (lt_of_block hg) (hn g (by rw [hv]; rfl))]; exact hg
theorem not_box {base : Nat} {e : TypeId} {sz : Nat} {v : Value} {k : Nat} {xs : List Value} {t : TypeId} {ys : Array Value} (h : wr.ownsRow base e sz v k xs) (hb : wr.heap[bx]? = some (.cells ys t (0, 0))) (hne : e ≠ t) (i : Nat) (hi : v.ownBlock = some i) : ¬ i = bx := by
  intro e1
  rcases h.2 with ⟨rfl, _⟩ | ⟨g, cap, cur, rfl, _, hg, _⟩
  · simp [Value.ownBlock] at hi
  · simp [Value.ownBlock] at hi
    rw [hi, e1, hb] at hg; simp at hg
    exact hne hg.2.symm
end
end Go.Proofs.YtddbjbdhbeijjaaDoor
/- Boxes and rows that a walk holds, beside what others own: as lists, so that one step carries all of them. Nothing of the program. -/
namespace Go.Proofs.YtddbjbdhbeijjaaDoor
set_option linter.unusedVariables false
set_option linter.unusedSimpArgs false
open Go.ChangeShapes Go.WideShapes Go.ChangeAt Go.RowKit Go.Joins

/-- a box: its block, its cells, its type -/
structure BoxD where
  b : Nat
  cs : Array Value
  t : TypeId
/-- a row that a slice owns -/
structure RowD where
  e : TypeId
  sz : Nat
  v : Value
  n : Nat
  xs : List Value

/-- the boxes bs and the rows rs, none of which is one of G -/
structure Hold (wr : World) (G : Nat → Prop) (bs : List BoxD) (rs : List RowD) : Prop where
  box : ∀ z ∈ bs, Blk wr z.b z.cs z.t ∧ ¬ G z.b
  row : ∀ r ∈ rs, wr.ownsRow 0 r.e r.sz r.v r.n r.xs ∧ ∀ i, r.v.ownBlock = some i → ¬ G i
  once : (bs.map (·.b)).Nodup
  lt : ∀ i, G i → i < wr.heap.size

theorem own_lt {wr : World} {B sz n : Nat} {e : TypeId} {v : Value} {xs : List Value} (h : wr.ownsRow B e sz v n xs) {i : Nat} (hi : v.ownBlock = some i) : B ≤ i ∧ i < wr.heap.size := World.ownsRow.lt h i hi
theorem own_down {wr : World} {B B' sz n : Nat} {e : TypeId} {v : Value} {xs : List Value} (h : wr.ownsRow B e sz v n xs) (hB : B' ≤ B) : wr.ownsRow B' e sz v n xs := by
  refine ⟨h.1, ?_⟩
  rcases h.2 with h2 | ⟨g, cap, cur, hv, hb, r⟩
  · exact Or.inl h2
  · exact Or.inr ⟨g, cap, cur, hv, Nat.le_trans hB hb, r⟩

section
variable {w wr w3 w4 : World} {F G G' H : Nat → Prop} {bs : List BoxD} {rs : List RowD} {b k m n' B n sz : Nat} {cs cs' xs : List Value} {M : Int} {f' : Int → Int} {tr' : List Int} {t e : TypeId} {v : Value}

theorem Hold.at_ (h : Hold wr G bs rs) (k : Nat) {b : Nat} {cs : Array Value} {t : TypeId} (hk : bs[k]? = some ⟨b, cs, t⟩) : Blk wr b cs t := (h.box _ (List.mem_of_getElem? hk)).1
theorem Hold.no (h : Hold wr G bs rs) (k : Nat) {b : Nat} {cs : Array Value} {t : TypeId} (hk : bs[k]? = some ⟨b, cs, t⟩) : ¬ G b := (h.box _ (List.mem_of_getElem? hk)).2
theorem Hold.of_ (h : Hold wr G bs rs) (k : Nat) {e : TypeId} {sz n : Nat} {v : Value} {xs : List Value} (hk : rs[k]? = some ⟨e, sz, v, n, xs⟩) : wr.ownsRow 0 e sz v n xs := (h.row _ (List.mem_of_getElem? hk)).1
theorem Hold.off (h : Hold wr G bs rs) (k : Nat) {e : TypeId} {sz n : Nat} {v : Value} {xs : List Value} (hk : rs[k]? = some ⟨e, sz, v, n, xs⟩) : ∀ i, v.ownBlock = some i → ¬ G i := (h.row _ (List.mem_of_getElem? hk)).2
theorem Hold.nil (wr : World) (G : Nat → Prop) (hG : ∀ i, G i → i < wr.heap.size) : Hold wr G [] [] := ⟨by simp, by simp, by simp, hG⟩
/-- of a call's own: what is older is others' -/
theorem Hold.start (w : World) : Hold w (fun i => i < w.heap.size) [] [] := Hold.nil _ _ fun _ h => h

theorem Hold.turn (h : Hold wr G bs rs) (ht : Turn H wr w3) (hb : ∀ z ∈ bs, ¬ H z.b) (hr : ∀ r ∈ rs, ∀ i, r.v.ownBlock = some i → ¬ H i) : Hold w3 G bs rs :=
  ⟨fun z hz => ⟨(h.box z hz).1.turn ht (hb z hz), (h.box z hz).2⟩, fun r hr' => ⟨own_turn (h.row r hr').1 ht (hr r hr'), (h.row r hr').2⟩, h.once, fun i hi => Nat.lt_of_lt_of_le (h.lt i hi) ht.size⟩
theorem Hold.quiet (h : Hold wr G bs rs) (hb : Below wr.heap.size wr w3) : Hold w3 G bs rs :=
  h.turn (H := fun _ => False) (Turn.of_kept _ hb) (fun _ _ h => h) (fun _ _ _ _ h => h)
theorem Hold.new (h : Hold wr G bs rs) (cs : Array Value) (t : TypeId) : Hold (wr.alloc (.cells cs t)) G (⟨wr.heap.size, cs, t⟩ :: bs) rs := by
  have hq := h.quiet (below_alloc1 wr (.cells cs t))
  refine ⟨fun z hz => ?_, hq.row, ?_, hq.lt⟩
  · rcases List.mem_cons.1 hz with rfl | hz
    · exact ⟨Blk.new _ _ _, fun hg => Nat.lt_irrefl _ (h.lt _ hg)⟩
    · exact hq.box z hz
  · refine List.nodup_cons.2 ⟨fun hm => ?_, h.once⟩
    obtain ⟨z, hz, e⟩ := List.mem_map.1 hm
    have h1 := (h.box z hz).1.lt
    have h2 : z.b = wr.heap.size := e
    omega
/-- a row that a call answered -/
theorem Hold.got (h : Hold wr G bs rs) (hr : wr.ownsRow B e sz v n xs) (hv : ∀ i, v.ownBlock = some i → ¬ G i) : Hold wr G bs (⟨e, sz, v, n, xs⟩ :: rs) :=
  ⟨h.box, fun r hr' => by
    rcases List.mem_cons.1 hr' with rfl | hr'
    · exact ⟨own_down hr (Nat.zero_le _), hv⟩
    · exact h.row r hr', h.once, h.lt⟩
/-- a box is turned -/
theorem Hold.put (h : Hold wr G bs rs) (k : Nat) {b : Nat} {cs cs' : Array Value} {t : TypeId} (hk : bs[k]? = some ⟨b, cs, t⟩) (ht : Turn (fun i => i = b) wr w3) (hb : Blk w3 b cs' t) (hr : rs.all (fun r => r.e != t) = true) : Hold w3 G (bs.set k ⟨b, cs', t⟩) rs := by
  have hkl : k < bs.length := by
    rcases Nat.lt_or_ge k bs.length with h1 | h1
    · exact h1
    · rw [List.getElem?_eq_none h1] at hk; cases hk
  have hkk : bs[k] = ⟨b, cs, t⟩ := by rw [List.getElem?_eq_getElem hkl] at hk; exact Option.some.inj hk
  have hmap : (bs.set k ⟨b, cs', t⟩).map (·.b) = bs.map (·.b) := by
    rw [List.map_set]
    apply List.ext_getElem (by simp)
    intro i h1 h2
    by_cases e : k = i
    · subst e; simp [hkk]
    · simp [List.getElem_set_ne e]
  have hne : ∀ j (hj : j < bs.length), j ≠ k → bs[j].b ≠ b := by
    intro j hj hjk e
    have h1 := List.getElem_inj (i := j) (j := k) (h₀ := by simpa using hj) (h₁ := by simpa using hkl) h.once
    simp [hkk] at h1
    exact hjk (h1.1 e)
  refine ⟨fun z hz => ?_, fun r hr' => ⟨own_turn (h.row r hr').1 ht (not_box (h.row r hr').1 (h.at_ k hk) ?_), (h.row r hr').2⟩, by rw [hmap]; exact h.once, fun i hi => Nat.lt_of_lt_of_le (h.lt i hi) ht.size⟩
  · obtain ⟨j, hj, hz⟩ := List.mem_iff_getElem.1 hz
    have hj' : j < bs.length := by simpa using hj
    by_cases e : k = j
    · subst e
      simp at hz
      subst hz
      exact ⟨hb, h.no k hk⟩
    · rw [List.getElem_set_ne e] at hz
      subst hz
      exact ⟨(h.box _ (List.getElem_mem hj')).1.turn ht (hne j hj' (fun h => e h.symm)), (h.box _ (List.getElem_mem hj')).2⟩
  · have := List.all_eq_true.1 hr r hr'
    simpa using this
/-- fewer are held -/
theorem Hold.less (h : Hold wr G bs rs) {bs' : List BoxD} {rs' : List RowD} (hb : bs'.Sublist bs) (hr : ∀ r ∈ rs', r ∈ rs) : Hold wr G bs' rs' :=
  ⟨fun z hz => h.box z (hb.subset hz), fun r h' => h.row r (hr r h'), h.once.sublist (hb.map _), h.lt⟩
/-- nothing of the call's start was turned -/
theorem Hold.below {B : Nat} (h : Hold wr (fun i => i < B) bs rs) (k : Nat) {b : Nat} {cs : Array Value} {t : TypeId} (hk : bs[k]? = some ⟨b, cs, t⟩) (hw : Below B w wr) (ht : Turn (fun i => i = b) wr w3) : Below B w w3 :=
  hw.trans (ht.below (fun i hi => by have := h.no k hk; omega) (Nat.le_of_not_lt fun hl => Nat.lt_irrefl _ (h.lt _ hl)))
end

/- OWN -/
/-- a call's own boxes and rows; nothing older was turned -/
structure Mine (w wr : World) (bs : List BoxD) (rs : List RowD) : Prop where
  hold : Hold wr (fun i => i < w.heap.size) bs rs
  below : Below w.heap.size w wr

section
variable {w wr w3 : World} {bs : List BoxD} {rs : List RowD} {b B n sz : Nat} {e t : TypeId} {v : Value} {xs : List Value} {cs : Array Value}
theorem Mine.start (w : World) : Mine w w [] [] := ⟨Hold.start w, Below.refl _ _⟩
theorem Mine.world (h : Mine w wr bs rs) (e : wr = w3) : Mine w w3 bs rs := e ▸ h
theorem Mine.size (h : Mine w wr bs rs) : w.heap.size ≤ wr.heap.size := h.below.size
theorem Mine.quiet (h : Mine w wr bs rs) (hb : Below wr.heap.size wr w3) : Mine w w3 bs rs := ⟨h.hold.quiet hb, h.below.trans (hb.mono h.below.size)⟩
theorem Mine.new (h : Mine w wr bs rs) {b : Nat} (hb : wr.heap.size = b) (cs : Array Value) (t : TypeId) : Mine w (wr.alloc (.cells cs t)) (⟨b, cs, t⟩ :: bs) rs := by
  subst hb; exact ⟨h.hold.new cs t, h.below.trans ((below_alloc1 _ _).mono h.below.size)⟩
theorem Mine.got (h : Mine w wr bs rs) (hr : wr.ownsRow B e sz v n xs) (hB : w.heap.size ≤ B) : Mine w wr bs (⟨e, sz, v, n, xs⟩ :: rs) :=
  ⟨h.hold.got hr fun i hi hl => by have := (own_lt hr hi).1; omega, h.below⟩
theorem Mine.put (h : Mine w wr bs rs) (k : Nat) {b : Nat} {cs cs' : Array Value} {t : TypeId} (hk : bs[k]? = some ⟨b, cs, t⟩) (ht : Turn (fun i => i = b) wr w3) (hb : Blk w3 b cs' t) (hr : rs.all (fun r => r.e != t) = true := by rfl) : Mine w w3 (bs.set k ⟨b, cs', t⟩) rs :=
  ⟨h.hold.put k hk ht hb hr, h.hold.below k hk h.below ht⟩
theorem Mine.at_ (h : Mine w wr bs rs) (k : Nat) {b : Nat} {cs : Array Value} {t : TypeId} (hk : bs[k]? = some ⟨b, cs, t⟩) : Blk wr b cs t := h.hold.at_ k hk
theorem Mine.of_ (h : Mine w wr bs rs) (k : Nat) {e : TypeId} {sz n : Nat} {v : Value} {xs : List Value} (hk : rs[k]? = some ⟨e, sz, v, n, xs⟩) : wr.ownsRow 0 e sz v n xs := h.hold.of_ k hk
theorem own_up {wr : World} {B B' sz n : Nat} {e : TypeId} {v : Value} {xs : List Value} (h : wr.ownsRow B' e sz v n xs) (hn : ∀ i, v.ownBlock = some i → B ≤ i) : wr.ownsRow B e sz v n xs := by
  refine ⟨h.1, ?_⟩
  rcases h.2 with h2 | ⟨g, cap, cur, hv, _, r⟩
  · exact Or.inl h2
  · exact Or.inr ⟨g, cap, cur, hv, hn g (by rw [hv]; rfl), r⟩
/-- a row, from the call's start on -/
theorem Mine.mine (h : Mine w wr bs rs) (k : Nat) {e : TypeId} {sz n : Nat} {v : Value} {xs : List Value} (hk : rs[k]? = some ⟨e, sz, v, n, xs⟩) : wr.ownsRow w.heap.size e sz v n xs :=
  own_up (h.hold.of_ k hk) fun i hi => Nat.le_of_not_lt (h.hold.off k hk i hi)
theorem Hold.drop {G : Nat → Prop} (h : Hold wr G bs rs) (n m : Nat) : Hold wr G (bs.drop n) (rs.drop m) := h.less (List.drop_sublist n bs) fun r hr => List.mem_of_mem_drop hr
theorem Hold.pick {G : Nat → Prop} (h : Hold wr G bs rs) (l m : List Nat) (hl : l.Nodup := by decide) : Hold wr G (l.filterMap fun i => bs[i]?) (m.filterMap fun i => rs[i]?) := by
  refine ⟨fun z hz => ?_, fun r hr => ?_, ?_, h.lt⟩
  · obtain ⟨i, _, hi⟩ := List.mem_filterMap.1 hz
    exact h.box z (List.mem_of_getElem? hi)
  · obtain ⟨i, _, hi⟩ := List.mem_filterMap.1 hr
    exact h.row r (List.mem_of_getElem? hi)
  · rw [List.map_filterMap]
    refine List.Pairwise.filterMap (R := fun x y => x ≠ y) _ ?_ hl
    intro i j hij x hx y hy
    obtain ⟨z, hz, rfl⟩ := Option.map_eq_some_iff.1 hx
    obtain ⟨z', hz', rfl⟩ := Option.map_eq_some_iff.1 hy
    intro e
    have h1 : i < bs.length := by
      rcases Nat.lt_or_ge i bs.length with h | h
      · exact h
      · rw [List.getElem?_eq_none h] at hz; cases hz
    have h2 : j < bs.length := by
      rcases Nat.lt_or_ge j bs.length with h | h
      · exact h
      · rw [List.getElem?_eq_none h] at hz'; cases hz'
    rw [List.getElem?_eq_getElem h1] at hz
    rw [List.getElem?_eq_getElem h2] at hz'
    have e1 := Option.some.inj hz
    have e2 := Option.some.inj hz'
    have h3 := List.getElem_inj (i := i) (j := j) (h₀ := by simpa using h1) (h₁ := by simpa using h2) h.once
    simp [e1, e2] at h3
    exact hij (h3.1 e)
theorem Mine.pick (h : Mine w wr bs rs) (l m : List Nat) (hl : l.Nodup := by decide) : Mine w wr (l.filterMap fun i => bs[i]?) (m.filterMap fun i => rs[i]?) := ⟨h.hold.pick l m hl, h.below⟩
theorem Mine.drop (h : Mine w wr bs rs) (n m : Nat) : Mine w wr (bs.drop n) (rs.drop m) := ⟨h.hold.drop n m, h.below⟩
end

section
variable {w wr w3 : World} {G : Nat → Prop} {bs : List BoxD} {rs : List RowD} {b : Nat} {t : TypeId} {x0 x1 y0 y1 : Value}
theorem turnB2 (w : World) (b : Nat) (y0 y1 : Value) : Turn (fun i => i = b) w ((w.setCell ⟨b, 0, none⟩ y0).setCell ⟨b, 1, none⟩ y1) := (turn1 _ _ _ _).and (turn1 _ _ _ _)
theorem setB2 (h : Blk w b #[x0, x1] t) (y0 y1 : Value) : Blk ((w.setCell ⟨b, 0, none⟩ y0).setCell ⟨b, 1, none⟩ y1) b #[y0, y1] t := by
  unfold Blk at *; simp [World.setCell, Array.getElem?_modify, h]
theorem Hold.put2 (h : Hold wr G bs rs) (k : Nat) (hk : bs[k]? = some ⟨b, #[x0, x1], t⟩) (hq : (wr.setCell ⟨b, 0, none⟩ y0).setCell ⟨b, 1, none⟩ y1 = w3) (hr : rs.all (fun r => r.e != t) = true := by rfl) : Hold w3 G (bs.set k ⟨b, #[y0, y1], t⟩) rs := by
  subst hq; exact h.put k hk (turnB2 _ _ _ _) (setB2 (h.at_ k hk) _ _) hr
theorem Mine.put2 (h : Mine w wr bs rs) (k : Nat) (hk : bs[k]? = some ⟨b, #[x0, x1], t⟩) (hq : (wr.setCell ⟨b, 0, none⟩ y0).setCell ⟨b, 1, none⟩ y1 = w3) (hr : rs.all (fun r => r.e != t) = true := by rfl) : Mine w w3 (bs.set k ⟨b, #[y0, y1], t⟩) rs := by
  subst hq; exact h.put k hk (turnB2 _ _ _ _) (setB2 (h.at_ k hk) _ _) hr
end

section
variable {w wr w3 : World} {G : Nat → Prop} {bs : List BoxD} {rs : List RowD} {b : Nat} {t : TypeId} {x0 x1 x2 y0 y1 y2 : Value}
theorem turnB3 (w : World) (b : Nat) (y0 y1 y2 : Value) : Turn (fun i => i = b) w (((w.setCell ⟨b, 0, none⟩ y0).setCell ⟨b, 1, none⟩ y1).setCell ⟨b, 2, none⟩ y2) := ((turn1 _ _ _ _).and (turn1 _ _ _ _)).and (turn1 _ _ _ _)
theorem setB3 (h : Blk w b #[x0, x1, x2] t) (y0 y1 y2 : Value) : Blk (((w.setCell ⟨b, 0, none⟩ y0).setCell ⟨b, 1, none⟩ y1).setCell ⟨b, 2, none⟩ y2) b #[y0, y1, y2] t := by
  unfold Blk at *; simp [World.setCell, Array.getElem?_modify, h]
theorem Hold.put3 (h : Hold wr G bs rs) (k : Nat) (hk : bs[k]? = some ⟨b, #[x0, x1, x2], t⟩) (hq : ((wr.setCell ⟨b, 0, none⟩ y0).setCell ⟨b, 1, none⟩ y1).setCell ⟨b, 2, none⟩ y2 = w3) (hr : rs.all (fun r => r.e != t) = true := by rfl) : Hold w3 G (bs.set k ⟨b, #[y0, y1, y2], t⟩) rs := by
  subst hq; exact h.put k hk (turnB3 _ _ _ _ _) (setB3 (h.at_ k hk) _ _ _) hr
theorem Mine.put3 (h : Mine w wr bs rs) (k : Nat) (hk : bs[k]? = some ⟨b, #[x0, x1, x2], t⟩) (hq : ((wr.setCell ⟨b, 0, none⟩ y0).setCell ⟨b, 1, none⟩ y1).setCell ⟨b, 2, none⟩ y2 = w3) (hr : rs.all (fun r => r.e != t) = true := by rfl) : Mine w w3 (bs.set k ⟨b, #[y0, y1, y2], t⟩) rs := by
  subst hq; exact h.put k hk (turnB3 _ _ _ _ _) (setB3 (h.at_ k hk) _ _ _) hr
end

section
variable {w wr w3 : World} {G : Nat → Prop} {bs : List BoxD} {rs : List RowD} {b : Nat} {t : TypeId} {x0 x1 x2 x3 y0 y1 y2 y3 : Value}
end

section
variable {w wr w3 : World} {G : Nat → Prop} {bs : List BoxD} {rs : List RowD} {b : Nat} {t : TypeId} {x0 x1 x2 x3 x4 y0 y1 y2 y3 y4 : Value}
end

section
variable {w wr w3 : World} {G : Nat → Prop} {bs : List BoxD} {rs : List RowD} {b : Nat} {t : TypeId} {x0 x1 x2 x3 x4 x5 y0 y1 y2 y3 y4 y5 : Value}
theorem turnB6 (w : World) (b : Nat) (y0 y1 y2 y3 y4 y5 : Value) : Turn (fun i => i = b) w ((((((w.setCell ⟨b, 0, none⟩ y0).setCell ⟨b, 1, none⟩ y1).setCell ⟨b, 2, none⟩ y2).setCell ⟨b, 3, none⟩ y3).setCell ⟨b, 4, none⟩ y4).setCell ⟨b, 5, none⟩ y5) := (((((turn1 _ _ _ _).and (turn1 _ _ _ _)).and (turn1 _ _ _ _)).and (turn1 _ _ _ _)).and (turn1 _ _ _ _)).and (turn1 _ _ _ _)
theorem setB6 (h : Blk w b #[x0, x1, x2, x3, x4, x5] t) (y0 y1 y2 y3 y4 y5 : Value) : Blk ((((((w.setCell ⟨b, 0, none⟩ y0).setCell ⟨b, 1, none⟩ y1).setCell ⟨b, 2, none⟩ y2).setCell ⟨b, 3, none⟩ y3).setCell ⟨b, 4, none⟩ y4).setCell ⟨b, 5, none⟩ y5) b #[y0, y1, y2, y3, y4, y5] t := by
  unfold Blk at *; simp [World.setCell, Array.getElem?_modify, h]
theorem Hold.put6 (h : Hold wr G bs rs) (k : Nat) (hk : bs[k]? = some ⟨b, #[x0, x1, x2, x3, x4, x5], t⟩) (hq : (((((wr.setCell ⟨b, 0, none⟩ y0).setCell ⟨b, 1, none⟩ y1).setCell ⟨b, 2, none⟩ y2).setCell ⟨b, 3, none⟩ y3).setCell ⟨b, 4, none⟩ y4).setCell ⟨b, 5, none⟩ y5 = w3) (hr : rs.all (fun r => r.e != t) = true := by rfl) : Hold w3 G (bs.set k ⟨b, #[y0, y1, y2, y3, y4, y5], t⟩) rs := by
  subst hq; exact h.put k hk (turnB6 _ _ _ _ _ _ _ _) (setB6 (h.at_ k hk) _ _ _ _ _ _) hr
theorem Mine.put6 (h : Mine w wr bs rs) (k : Nat) (hk : bs[k]? = some ⟨b, #[x0, x1, x2, x3, x4, x5], t⟩) (hq : (((((wr.setCell ⟨b, 0, none⟩ y0).setCell ⟨b, 1, none⟩ y1).setCell ⟨b, 2, none⟩ y2).setCell ⟨b, 3, none⟩ y3).setCell ⟨b, 4, none⟩ y4).setCell ⟨b, 5, none⟩ y5 = w3) (hr : rs.all (fun r => r.e != t) = true := by rfl) : Mine w w3 (bs.set k ⟨b, #[y0, y1, y2, y3, y4, y5], t⟩) rs := by
  subst hq; exact h.put k hk (turnB6 _ _ _ _ _ _ _ _) (setB6 (h.at_ k hk) _ _ _ _ _ _) hr
end

section
variable {w wr w3 : World} {G : Nat → Prop} {bs : List BoxD} {rs : List RowD} {b : Nat} {t : TypeId} {x0 x1 x2 x3 x4 x5 x6 y0 y1 y2 y3 y4 y5 y6 : Value}
end

section
variable {w wr w3 : World} {G : Nat → Prop} {bs : List BoxD} {rs : List RowD} {b : Nat} {t : TypeId} {x0 x1 x2 x3 x4 x5 x6 x7 y0 y1 y2 y3 y4 y5 y6 y7 : Value}
end

section
variable {w wr w1 w2 w3 w4 : World} {G G' : Nat → Prop} {bs : List BoxD} {rs : List RowD} {m n n' B sz k : Nat} {f f' : Int → Int} {tr tr' : List Int} {e : TypeId} {v : Value} {xs : List Value}
end

section
variable {w wr w1 w2 w3 w4 : World} {G G' H H' : Nat → Prop} {bs : List BoxD} {rs : List RowD} {m m0 n n' n0 n0' B sz k : Nat} {f f' f0 f0' : Int → Int} {tr tr' tr0 tr0' : List Int} {e : TypeId} {v : Value} {xs : List Value}
end

section
variable {w wr w3 : World} {G : Nat → Prop} {bs : List BoxD} {rs : List RowD} {m n b : Nat} {f : Int → Int} {tr : List Int} {t : TypeId}
end
/-- nothing that was there has turned -/
structure Grow (w wr : World) : Prop where
  h : Below w.heap.size w wr
theorem Grow.quiet {w wr w3 : World} (g : Grow w wr) (hb : Below wr.heap.size wr w3) : Grow w w3 := ⟨g.h.trans (hb.mono g.h.size)⟩
theorem Grow.put {w wr w3 : World} {b : Nat} (g : Grow w wr) (hb : w.heap.size ≤ b) (ht : Turn (fun i => i = b) wr w3) : Grow w w3 := ⟨turn_below g.h ht hb g.h.size⟩

/- steps of a region that draws its order, in few words -/
section
variable {P : Program} {ops : Array Oper} {Q : Exit → Act → World → Prop} {md : Region.Mode} {S : World → Prop}
/-- number i is taken first -/
theorem tk (i : Nat) {oi : Oper} {rest : List Oper} {v : Value} {fuel : Nat} {listed : Array Bool} {a : Act} {w : World}
    (hy : ∀ w, S w → (execOp a.eval oi).run P w = .ok (.value v) w) (h : wpAnyH P md ops Q S fuel (listed.setIfInBounds i true) (a.put oi.dst v) w)
    (hi : ops.toList.drop i = oi :: rest := by rfl) (hs : Region.noSelect ops = true := by kernel_rfl) (hf : Region.free md ops listed i = true := by kernel_rfl) (hr : (Region.ready md ops listed).contains i = true := by kernel_rfl)
    (hQ : ∀ c a w, Q (.panic c) (a.put oi.dst v) w → Q (.panic c) a w := by exact fun _ _ _ h => h) (hwt : Region.wanted oi (yielded ops a.tmps) = true := by rfl) (hS : S w := by assumption) : wpAnyH P md ops Q S (fuel + 1) listed a w :=
  anyH_take hi hs hf hr hQ hwt hS hy h
end
end Go.Proofs.YtddbjbdhbeijjaaDoor
