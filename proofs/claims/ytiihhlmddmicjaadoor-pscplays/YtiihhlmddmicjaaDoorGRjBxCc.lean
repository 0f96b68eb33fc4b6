/- Several texts of ours in one: Rj, Bx, Cc. -/
import Derived.Test.YtiihhlmddmicjaaDoorGRfRlRs
import Derived.Test.YtiihhlmddmicjaaDoorGRgHbHc
import Derived.Test.YtiihhlmddmicjaaDoorGCbMcWm
/- The document's slots: each once, rising; rows beside what is turned. -/
namespace Go.Proofs.YtiihhlmddmicjaaDoor
set_option linter.unusedVariables false
set_option linter.unusedSimpArgs false
open Go.ChangeShapes Go.WideShapes Go.ChangeAt Go.RowKit Go.Joins

/-- each once, rising, each at a slot -/
structure Ris (L : List (Int × Int)) : Prop where
  up : L.Pairwise fun p q => p.1 < q.1
  al : ∀ p ∈ L, p.1 % 8 = 0 ∧ 0 ≤ p.1

theorem Ris.nil : Ris [] := ⟨List.Pairwise.nil, fun _ h => by simp at h⟩

structure RisTo (P : List (Int × Int)) (a : Int) (s : List (Int × Int) × Bool) : Prop where
  r1 : s.1.Pairwise fun p q => p.1 < q.1
  r2 : ∀ q ∈ s.1, q.1 = a ∨ ∃ p ∈ P, p.1 = q.1
  r3 : s.2 = false → ∀ q ∈ s.1, q.1 < a
  r4 : s.2 = true → ∃ p ∈ P, a < p.1

theorem RisTo.step {P : List (Int × Int)} {a x : Int} {s : List (Int × Int) × Bool} (h : RisTo P a s) (p : Int × Int) (hp : ∀ q ∈ P, q.1 < p.1) : RisTo (P ++ [p]) a (stepL a x s p) := by
  have sup : ∀ q : Int × Int, (∃ p ∈ P, p.1 = q.1) → ∃ p' ∈ P ++ [p], p'.1 = q.1 := fun q ⟨p', h1, h2⟩ => ⟨p', by simp [h1], h2⟩
  unfold stepL
  by_cases h1 : p.1 = a
  · rw [if_pos h1]
    exact ⟨h.r1, fun q hq => (h.r2 q hq).imp id (sup q), h.r3, fun e => by obtain ⟨p', h2, h3⟩ := h.r4 e; exact ⟨p', by simp [h2], h3⟩⟩
  · rw [if_neg h1]
    by_cases h2 : s.2 = false ∧ a < p.1
    · rw [if_pos h2]
      refine ⟨?_, fun q hq => ?_, fun e => by simp at e, fun _ => ⟨p, by simp, h2.2⟩⟩
      · refine List.pairwise_append.2 ⟨List.pairwise_append.2 ⟨h.r1, by simp, fun q hq r hr => ?_⟩, by simp, fun q hq r hr => ?_⟩
        · simp at hr; subst hr; exact h.r3 h2.1 q hq
        · simp at hr; subst hr
          rcases List.mem_append.1 hq with hq | hq
          · exact Int.lt_trans (h.r3 h2.1 q hq) h2.2
          · simp at hq; subst hq; exact h2.2
      · rcases List.mem_append.1 hq with hq | hq
        · rcases List.mem_append.1 hq with hq | hq
          · exact (h.r2 q hq).imp id (sup q)
          · simp at hq; subst hq; exact Or.inl rfl
        · simp at hq; subst hq; exact Or.inr ⟨q, by simp, rfl⟩
    · rw [if_neg h2]
      have hlt : ∀ q ∈ s.1, q.1 < p.1 := fun q hq => by
        rcases h.r2 q hq with e | ⟨p', hp', e⟩
        · cases hs : s.2 with
          | false => have := h.r3 hs q hq; omega
          | true => obtain ⟨p', h3, h4⟩ := h.r4 hs; have := hp p' h3; omega
        · have := hp p' hp'; omega
      refine ⟨List.pairwise_append.2 ⟨h.r1, by simp, fun q hq r hr => ?_⟩, fun q hq => ?_, fun e q hq => ?_, fun e => ?_⟩
      · simp at hr; subst hr; exact hlt q hq
      · rcases List.mem_append.1 hq with hq | hq
        · exact (h.r2 q hq).imp id (sup q)
        · simp at hq; subst hq; exact Or.inr ⟨q, by simp, rfl⟩
      · rcases List.mem_append.1 hq with hq | hq
        · exact h.r3 e q hq
        · simp at hq; subst hq
          have : ¬ a < q.1 := fun h3 => h2 ⟨e, h3⟩
          omega
      · obtain ⟨p', h3, h4⟩ := h.r4 e
        exact ⟨p', by simp [h3], h4⟩

theorem risTo_fold (a x : Int) : ∀ (Q P : List (Int × Int)) (s : List (Int × Int) × Bool), RisTo P a s → (P ++ Q).Pairwise (fun p q => p.1 < q.1) → RisTo (P ++ Q) a (Q.foldl (stepL a x) s)
  | [], P, s, h, _ => by simpa using h
  | q :: Q, P, s, h, hp => by
    have h1 : ∀ p ∈ P, p.1 < q.1 := fun p hpm => (List.pairwise_append.1 hp).2.2 p hpm q (by simp)
    have h2 := risTo_fold a x Q (P ++ [q]) (stepL a x s q) (h.step q h1) (by simpa using hp)
    simpa using h2

theorem Ris.set {L : List (Int × Int)} (h : Ris L) {a : Int} (ha : a % 8 = 0) (h0 : 0 ≤ a) (x : Int) : Ris (setL L a x) := by
  have h1 := risTo_fold a x L [] ([], false) ⟨List.Pairwise.nil, fun _ h => by simp at h, fun _ _ h => by simp at h, fun h => by simp at h⟩ (by simpa using h.up)
  have e : stL L a x L.length = L.foldl (stepL a x) ([], false) := by unfold stL; rw [List.take_length]
  rw [List.nil_append, ← e] at h1
  unfold setL
  have al : ∀ q ∈ (stL L a x L.length).1, q.1 % 8 = 0 ∧ 0 ≤ q.1 := fun q hq => by
    rcases h1.r2 q hq with e | ⟨p, hp, e⟩
    · rw [e]; exact ⟨ha, h0⟩
    · rw [← e]; exact h.al p hp
  by_cases hd : (stL L a x L.length).2 = true
  · rw [if_pos hd]; exact ⟨h1.r1, al⟩
  · rw [if_neg hd]
    have hd' : (stL L a x L.length).2 = false := by simpa using hd
    refine ⟨List.pairwise_append.2 ⟨h1.r1, by simp, fun q hq r hr => ?_⟩, fun q hq => ?_⟩
    · simp at hr; subst hr; exact h1.r3 hd' q hq
    · rcases List.mem_append.1 hq with hq | hq
      · exact al q hq
      · simp at hq; subst hq; exact ⟨ha, h0⟩

section
variable {wr w3 : World} {bx : Nat} {F : Nat → Prop}
theorem own_turn {base : Nat} {e : TypeId} {sz : Nat} {v : Value} {k : Nat} {xs : List Value} (h : wr.ownsRow base e sz v k xs) (ht : Turn F wr w3) (hn : ∀ i, v.ownBlock = some i → ¬ F i) : w3.ownsRow base e sz v k xs := by
  refine ⟨h.1, ?_⟩
  rcases h.2 with h2 | ⟨g, cap, cur, hv, hb, hg, r⟩
  · exact Or.inl h2
  · refine Or.inr ⟨g, cap, cur, hv, hb, ?_, r⟩
    rw [ht.block g (lt_of_block hg) (hn g (by rw [hv]; rfl))]; exact hg
theorem not_box {base : Nat} {e : TypeId} {sz : Nat} {v : Value} {k : Nat} {xs : List Value} {t : TypeId} {ys : Array Value} (h : wr.ownsRow base e sz v k xs) (hb : wr.heap[bx]? = some (.cells ys t (0, 0))) (hne : e ≠ t) (i : Nat) (hi : v.ownBlock = some i) : ¬ i = bx := by
  intro e1
  rcases h.2 with ⟨rfl, _⟩ | ⟨g, cap, cur, rfl, _, hg, _⟩
  · simp [Value.ownBlock] at hi
  · simp [Value.ownBlock] at hi
    rw [hi, e1, hb] at hg; simp at hg
    exact hne hg.2.symm
end
end Go.Proofs.YtiihhlmddmicjaaDoor
/- Boxes and rows that a walk holds, beside what others own: as lists, so that one step carries all of them. Nothing of the program. -/
namespace Go.Proofs.YtiihhlmddmicjaaDoor
set_option linter.unusedVariables false
set_option linter.unusedSimpArgs false
open Go.ChangeShapes Go.WideShapes Go.ChangeAt Go.RowKit Go.Joins

/-- a box: its block, its cells, its type -/
structure BoxD where
  b : Nat
  cs : Array Value
  t : TypeId
/-- a row that a slice owns -/
structure RowD where
  e : TypeId
  sz : Nat
  v : Value
  n : Nat
  xs : List Value

/-- the boxes bs and the rows rs, none of which is one of G -/
structure Hold (wr : World) (G : Nat → Prop) (bs : List BoxD) (rs : List RowD) : Prop where
  box : ∀ z ∈ bs, Blk wr z.b z.cs z.t ∧ ¬ G z.b
  row : ∀ r ∈ rs, wr.ownsRow 0 r.e r.sz r.v r.n r.xs ∧ ∀ i, r.v.ownBlock = some i → ¬ G i
  once : (bs.map (·.b)).Nodup
  lt : ∀ i, G i → i < wr.heap.size

theorem own_lt {wr : World} {B sz n : Nat} {e : TypeId} {v : Value} {xs : List Value} (h : wr.ownsRow B e sz v n xs) {i : Nat} (hi : v.ownBlock = some i) : B ≤ i ∧ i < wr.heap.size := World.ownsRow.lt h i hi
theorem own_down {wr : World} {B B' sz n : Nat} {e : TypeId} {v : Value} {xs : List Value} (h : wr.ownsRow B e sz v n xs) (hB : B' ≤ B) : wr.ownsRow B' e sz v n xs := by
  refine ⟨h.1, ?_⟩
  rcases h.2 with h2 | ⟨g, cap, cur, hv, hb, r⟩
  · exact Or.inl h2
  · exact Or.inr ⟨g, cap, cur, hv, Nat.le_trans hB hb, r⟩

section
variable {w wr w3 w4 : World} {F G G' H : Nat → Prop} {bs : List BoxD} {rs : List RowD} {b k m n' B n sz : Nat} {cs cs' xs : List Value} {M : Int} {f' : Int → Int} {tr' : List Int} {t e : TypeId} {v : Value}

theorem Hold.at_ (h : Hold wr G bs rs) (k : Nat) {b : Nat} {cs : Array Value} {t : TypeId} (hk : bs[k]? = some ⟨b, cs, t⟩) : Blk wr b cs t := (h.box _ (List.mem_of_getElem? hk)).1
theorem Hold.no (h : Hold wr G bs rs) (k : Nat) {b : Nat} {cs : Array Value} {t : TypeId} (hk : bs[k]? = some ⟨b, cs, t⟩) : ¬ G b := (h.box _ (List.mem_of_getElem? hk)).2
theorem Hold.of_ (h : Hold wr G bs rs) (k : Nat) {e : TypeId} {sz n : Nat} {v : Value} {xs : List Value} (hk : rs[k]? = some ⟨e, sz, v, n, xs⟩) : wr.ownsRow 0 e sz v n xs := (h.row _ (List.mem_of_getElem? hk)).1
theorem Hold.off (h : Hold wr G bs rs) (k : Nat) {e : TypeId} {sz n : Nat} {v : Value} {xs : List Value} (hk : rs[k]? = some ⟨e, sz, v, n, xs⟩) : ∀ i, v.ownBlock = some i → ¬ G i := (h.row _ (List.mem_of_getElem? hk)).2
theorem Hold.nil (wr : World) (G : Nat → Prop) (hG : ∀ i, G i → i < wr.heap.size) : Hold wr G [] [] := ⟨by simp, by simp, by simp, hG⟩
/-- of a call's own: what is older is others' -/
theorem Hold.start (w : World) : Hold w (fun i => i < w.heap.size) [] [] := Hold.nil _ _ fun _ h => h

theorem Hold.turn (h : Hold wr G bs rs) (ht : Turn H wr w3) (hb : ∀ z ∈ bs, ¬ H z.b) (hr : ∀ r ∈ rs, ∀ i, r.v.ownBlock = some i → ¬ H i) : Hold w3 G bs rs :=
  ⟨fun z hz => ⟨(h.box z hz).1.turn ht (hb z hz), (h.box z hz).2⟩, fun r hr' => ⟨own_turn (h.row r hr').1 ht (hr r hr'), (h.row r hr').2⟩, h.once, fun i hi => Nat.lt_of_lt_of_le (h.lt i hi) ht.size⟩
theorem Hold.quiet (h : Hold wr G bs rs) (hb : Below wr.heap.size wr w3) : Hold w3 G bs rs :=
  h.turn (H := fun _ => False) (Turn.of_kept _ hb) (fun _ _ h => h) (fun _ _ _ _ h => h)
/-- what is G's was turned, and G is another one behind it -/
theorem Hold.step (h : Hold wr G bs rs) (k : Wk wr w4 G m M f' tr' n' G') : Hold w4 G' bs rs :=
  ⟨fun z hz => ⟨(h.box z hz).1.turn k.turn (h.box z hz).2, k.free (h.box z hz).2 (h.box z hz).1.lt⟩,
   fun r hr => ⟨own_turn (h.row r hr).1 k.turn (h.row r hr).2, fun i hi => k.free ((h.row r hr).2 i hi) (own_lt (h.row r hr).1 hi).2⟩, h.once, fun i hi => (k.foot i hi).1⟩
theorem Hold.new (h : Hold wr G bs rs) (cs : Array Value) (t : TypeId) : Hold (wr.alloc (.cells cs t)) G (⟨wr.heap.size, cs, t⟩ :: bs) rs := by
  have hq := h.quiet (below_alloc1 wr (.cells cs t))
  refine ⟨fun z hz => ?_, hq.row, ?_, hq.lt⟩
  · rcases List.mem_cons.1 hz with rfl | hz
    · exact ⟨Blk.new _ _ _, fun hg => Nat.lt_irrefl _ (h.lt _ hg)⟩
    · exact hq.box z hz
  · refine List.nodup_cons.2 ⟨fun hm => ?_, h.once⟩
    obtain ⟨z, hz, e⟩ := List.mem_map.1 hm
    have h1 := (h.box z hz).1.lt
    have h2 : z.b = wr.heap.size := e
    omega
/-- a row that a call answered -/
theorem Hold.got (h : Hold wr G bs rs) (hr : wr.ownsRow B e sz v n xs) (hv : ∀ i, v.ownBlock = some i → ¬ G i) : Hold wr G bs (⟨e, sz, v, n, xs⟩ :: rs) :=
  ⟨h.box, fun r hr' => by
    rcases List.mem_cons.1 hr' with rfl | hr'
    · exact ⟨own_down hr (Nat.zero_le _), hv⟩
    · exact h.row r hr', h.once, h.lt⟩
/-- a box is turned -/
theorem Hold.put (h : Hold wr G bs rs) (k : Nat) {b : Nat} {cs cs' : Array Value} {t : TypeId} (hk : bs[k]? = some ⟨b, cs, t⟩) (ht : Turn (fun i => i = b) wr w3) (hb : Blk w3 b cs' t) (hr : rs.all (fun r => r.e != t) = true) : Hold w3 G (bs.set k ⟨b, cs', t⟩) rs := by
  have hkl : k < bs.length := by
    rcases Nat.lt_or_ge k bs.length with h1 | h1
    · exact h1
    · rw [List.getElem?_eq_none h1] at hk; cases hk
  have hkk : bs[k] = ⟨b, cs, t⟩ := by rw [List.getElem?_eq_getElem hkl] at hk; exact Option.some.inj hk
  have hmap : (bs.set k ⟨b, cs', t⟩).map (·.b) = bs.map (·.b) := by
    rw [List.map_set]
    apply List.ext_getElem (by simp)
    intro i h1 h2
    by_cases e : k = i
    · subst e; simp [hkk]
    · simp [List.getElem_set_ne e]
  have hne : ∀ j (hj : j < bs.length), j ≠ k → bs[j].b ≠ b := by
    intro j hj hjk e
    have h1 := List.getElem_inj (i := j) (j := k) (h₀ := by simpa using hj) (h₁ := by simpa using hkl) h.once
    simp [hkk] at h1
    exact hjk (h1.1 e)
  refine ⟨fun z hz => ?_, fun r hr' => ⟨own_turn (h.row r hr').1 ht (not_box (h.row r hr').1 (h.at_ k hk) ?_), (h.row r hr').2⟩, by rw [hmap]; exact h.once, fun i hi => Nat.lt_of_lt_of_le (h.lt i hi) ht.size⟩
  · obtain ⟨j, hj, hz⟩ := List.mem_iff_getElem.1 hz
    have hj' : j < bs.length := by simpa using hj
    by_cases e : k = j
    · subst e
      simp at hz
      subst hz
      exact ⟨hb, h.no k hk⟩
    · rw [List.getElem_set_ne e] at hz
      subst hz
      exact ⟨(h.box _ (List.getElem_mem hj')).1.turn ht (hne j hj' (fun h => e h.symm)), (h.box _ (List.getElem_mem hj')).2⟩
  · have := List.all_eq_true.1 hr r hr'
    simpa using this
/-- fewer are held -/
theorem Hold.less (h : Hold wr G bs rs) {bs' : List BoxD} {rs' : List RowD} (hb : bs'.Sublist bs) (hr : ∀ r ∈ rs', r ∈ rs) : Hold wr G bs' rs' :=
  ⟨fun z hz => h.box z (hb.subset hz), fun r h' => h.row r (hr r h'), h.once.sublist (hb.map _), h.lt⟩
/-- nothing of the call's start was turned -/
theorem Hold.below {B : Nat} (h : Hold wr (fun i => i < B) bs rs) (k : Nat) {b : Nat} {cs : Array Value} {t : TypeId} (hk : bs[k]? = some ⟨b, cs, t⟩) (hw : Below B w wr) (ht : Turn (fun i => i = b) wr w3) : Below B w w3 :=
  hw.trans (ht.below (fun i hi => by have := h.no k hk; omega) (Nat.le_of_not_lt fun hl => Nat.lt_irrefl _ (h.lt _ hl)))
end

/- OWN -/
/-- a call's own boxes and rows; nothing older was turned -/
structure Mine (w wr : World) (bs : List BoxD) (rs : List RowD) : Prop where
  hold : Hold wr (fun i => i < w.heap.size) bs rs
  below : Below w.heap.size w wr

section
variable {w wr w3 : World} {bs : List BoxD} {rs : List RowD} {b B n sz : Nat} {e t : TypeId} {v : Value} {xs : List Value} {cs : Array Value}
theorem Mine.start (w : World) : Mine w w [] [] := ⟨Hold.start w, Below.refl _ _⟩
theorem Mine.world (h : Mine w wr bs rs) (e : wr = w3) : Mine w w3 bs rs := e ▸ h
theorem Mine.size (h : Mine w wr bs rs) : w.heap.size ≤ wr.heap.size := h.below.size
theorem Mine.quiet (h : Mine w wr bs rs) (hb : Below wr.heap.size wr w3) : Mine w w3 bs rs := ⟨h.hold.quiet hb, h.below.trans (hb.mono h.below.size)⟩
theorem Mine.new (h : Mine w wr bs rs) {b : Nat} (hb : wr.heap.size = b) (cs : Array Value) (t : TypeId) : Mine w (wr.alloc (.cells cs t)) (⟨b, cs, t⟩ :: bs) rs := by
  subst hb; exact ⟨h.hold.new cs t, h.below.trans ((below_alloc1 _ _).mono h.below.size)⟩
theorem Mine.got (h : Mine w wr bs rs) (hr : wr.ownsRow B e sz v n xs) (hB : w.heap.size ≤ B) : Mine w wr bs (⟨e, sz, v, n, xs⟩ :: rs) :=
  ⟨h.hold.got hr fun i hi hl => by have := (own_lt hr hi).1; omega, h.below⟩
theorem Mine.put (h : Mine w wr bs rs) (k : Nat) {b : Nat} {cs cs' : Array Value} {t : TypeId} (hk : bs[k]? = some ⟨b, cs, t⟩) (ht : Turn (fun i => i = b) wr w3) (hb : Blk w3 b cs' t) (hr : rs.all (fun r => r.e != t) = true := by rfl) : Mine w w3 (bs.set k ⟨b, cs', t⟩) rs :=
  ⟨h.hold.put k hk ht hb hr, h.hold.below k hk h.below ht⟩
theorem Mine.at_ (h : Mine w wr bs rs) (k : Nat) {b : Nat} {cs : Array Value} {t : TypeId} (hk : bs[k]? = some ⟨b, cs, t⟩) : Blk wr b cs t := h.hold.at_ k hk
theorem Mine.of_ (h : Mine w wr bs rs) (k : Nat) {e : TypeId} {sz n : Nat} {v : Value} {xs : List Value} (hk : rs[k]? = some ⟨e, sz, v, n, xs⟩) : wr.ownsRow 0 e sz v n xs := h.hold.of_ k hk
theorem own_up {wr : World} {B B' sz n : Nat} {e : TypeId} {v : Value} {xs : List Value} (h : wr.ownsRow B' e sz v n xs) (hn : ∀ i, v.ownBlock = some i → B ≤ i) : wr.ownsRow B e sz v n xs := by
  refine ⟨h.1, ?_⟩
  rcases h.2 with h2 | ⟨g, cap, cur, hv, _, r⟩
  · exact Or.inl h2
  · exact Or.inr ⟨g, cap, cur, hv, hn g (by rw [hv]; rfl), r⟩
/-- a row, from the call's start on -/
theorem Mine.mine (h : Mine w wr bs rs) (k : Nat) {e : TypeId} {sz n : Nat} {v : Value} {xs : List Value} (hk : rs[k]? = some ⟨e, sz, v, n, xs⟩) : wr.ownsRow w.heap.size e sz v n xs :=
  own_up (h.hold.of_ k hk) fun i hi => Nat.le_of_not_lt (h.hold.off k hk i hi)
theorem Hold.drop {G : Nat → Prop} (h : Hold wr G bs rs) (n m : Nat) : Hold wr G (bs.drop n) (rs.drop m) := h.less (List.drop_sublist n bs) fun r hr => List.mem_of_mem_drop hr
theorem Hold.pick {G : Nat → Prop} (h : Hold wr G bs rs) (l m : List Nat) (hl : l.Nodup := by decide) : Hold wr G (l.filterMap fun i => bs[i]?) (m.filterMap fun i => rs[i]?) := by
  refine ⟨fun z hz => ?_, fun r hr => ?_, ?_, h.lt⟩
  · obtain ⟨i, _, hi⟩ := List.mem_filterMap.1 hz
    exact h.box z (List.mem_of_getElem? hi)
  · obtain ⟨i, _, hi⟩ := List.mem_filterMap.1 hr
    exact h.row r (List.mem_of_getElem? hi)
  · rw [List.map_filterMap]
    refine List.Pairwise.filterMap (R := fun x y => x ≠ y) _ ?_ hl
    intro i j hij x hx y hy
    obtain ⟨z, hz, rfl⟩ := Option.map_eq_some_iff.1 hx
    obtain ⟨z', hz', rfl⟩ := Option.map_eq_some_iff.1 hy
    intro e
    have h1 : i < bs.length := by
      rcases Nat.lt_or_ge i bs.length with h | h
      · exact h
      · rw [List.getElem?_eq_none h] at hz; cases hz
    have h2 : j < bs.length := by
      rcases Nat.lt_or_ge j bs.length with h | h
      · exact h
      · rw [List.getElem?_eq_none h] at hz'; cases hz'
    rw [List.getElem?_eq_getElem h1] at hz
    rw [List.getElem?_eq_getElem h2] at hz'
    have e1 := Option.some.inj hz
    have e2 := Option.some.inj hz'
    have h3 := List.getElem_inj (i := i) (j := j) (h₀ := by simpa using h1) (h₁ := by simpa using h2) h.once
    simp [e1, e2] at h3
    exact hij (h3.1 e)
theorem Mine.pick (h : Mine w wr bs rs) (l m : List Nat) (hl : l.Nodup := by decide) : Mine w wr (l.filterMap fun i => bs[i]?) (m.filterMap fun i => rs[i]?) := ⟨h.hold.pick l m hl, h.below⟩
theorem Mine.drop (h : Mine w wr bs rs) (n m : Nat) : Mine w wr (bs.drop n) (rs.drop m) := ⟨h.hold.drop n m, h.below⟩
end

section
variable {w wr w3 : World} {G : Nat → Prop} {bs : List BoxD} {rs : List RowD} {b : Nat} {t : TypeId} {x0 x1 y0 y1 : Value}
theorem turnB2 (w : World) (b : Nat) (y0 y1 : Value) : Turn (fun i => i = b) w ((w.setCell ⟨b, 0, none⟩ y0).setCell ⟨b, 1, none⟩ y1) := (turn1 _ _ _ _).and (turn1 _ _ _ _)
theorem setB2 (h : Blk w b #[x0, x1] t) (y0 y1 : Value) : Blk ((w.setCell ⟨b, 0, none⟩ y0).setCell ⟨b, 1, none⟩ y1) b #[y0, y1] t := by
  unfold Blk at *; simp [World.setCell, Array.getElem?_modify, h]
theorem Hold.put2 (h : Hold wr G bs rs) (k : Nat) (hk : bs[k]? = some ⟨b, #[x0, x1], t⟩) (hq : (wr.setCell ⟨b, 0, none⟩ y0).setCell ⟨b, 1, none⟩ y1 = w3) (hr : rs.all (fun r => r.e != t) = true := by rfl) : Hold w3 G (bs.set k ⟨b, #[y0, y1], t⟩) rs := by
  subst hq; exact h.put k hk (turnB2 _ _ _ _) (setB2 (h.at_ k hk) _ _) hr
theorem Mine.put2 (h : Mine w wr bs rs) (k : Nat) (hk : bs[k]? = some ⟨b, #[x0, x1], t⟩) (hq : (wr.setCell ⟨b, 0, none⟩ y0).setCell ⟨b, 1, none⟩ y1 = w3) (hr : rs.all (fun r => r.e != t) = true := by rfl) : Mine w w3 (bs.set k ⟨b, #[y0, y1], t⟩) rs := by
  subst hq; exact h.put k hk (turnB2 _ _ _ _) (setB2 (h.at_ k hk) _ _) hr
end

section
variable {w wr w3 : World} {G : Nat → Prop} {bs : List BoxD} {rs : List RowD} {b : Nat} {t : TypeId} {x0 x1 x2 y0 y1 y2 : Value}
theorem turnB3 (w : World) (b : Nat) (y0 y1 y2 : Value) : Turn (fun i => i = b) w (((w.setCell ⟨b, 0, none⟩ y0).setCell ⟨b, 1, none⟩ y1).setCell ⟨b, 2, none⟩ y2) := ((turn1 _ _ _ _).and (turn1 _ _ _ _)).and (turn1 _ _ _ _)
theorem setB3 (h : Blk w b #[x0, x1, x2] t) (y0 y1 y2 : Value) : Blk (((w.setCell ⟨b, 0, none⟩ y0).setCell ⟨b, 1, none⟩ y1).setCell ⟨b, 2, none⟩ y2) b #[y0, y1, y2] t := by
  unfold Blk at *; simp [World.setCell, Array.getElem?_modify, h]
theorem Hold.put3 (h : Hold wr G bs rs) (k : Nat) (hk : bs[k]? = some ⟨b, #[x0, x1, x2], t⟩) (hq : ((wr.setCell ⟨b, 0, none⟩ y0).setCell ⟨b, 1, none⟩ y1).setCell ⟨b, 2, none⟩ y2 = w3) (hr : rs.all (fun r => r.e != t) = true := by rfl) : Hold w3 G (bs.set k ⟨b, #[y0, y1, y2], t⟩) rs := by
  subst hq; exact h.put k hk (turnB3 _ _ _ _ _) (setB3 (h.at_ k hk) _ _ _) hr
theorem Mine.put3 (h : Mine w wr bs rs) (k : Nat) (hk : bs[k]? = some ⟨b, #[x0, x1, x2], t⟩) (hq : ((wr.setCell ⟨b, 0, none⟩ y0).setCell ⟨b, 1, none⟩ y1).setCell ⟨b, 2, none⟩ y2 = w3) (hr : rs.all (fun r => r.e != t) = true := by rfl) : Mine w w3 (bs.set k ⟨b, #[y0, y1, y2], t⟩) rs := by
  subst hq; exact h.put k hk (turnB3 _ _ _ _ _) (setB3 (h.at_ k hk) _ _ _) hr
end

section
variable {w wr w3 : World} {G : Nat → Prop} {bs : List BoxD} {rs : List RowD} {b : Nat} {t : TypeId} {x0 x1 x2 x3 y0 y1 y2 y3 : Value}
end

section
variable {w wr w3 : World} {G : Nat → Prop} {bs : List BoxD} {rs : List RowD} {b : Nat} {t : TypeId} {x0 x1 x2 x3 x4 y0 y1 y2 y3 y4 : Value}
theorem turnB5 (w : World) (b : Nat) (y0 y1 y2 y3 y4 : Value) : Turn (fun i => i = b) w (((((w.setCell ⟨b, 0, none⟩ y0).setCell ⟨b, 1, none⟩ y1).setCell ⟨b, 2, none⟩ y2).setCell ⟨b, 3, none⟩ y3).setCell ⟨b, 4, none⟩ y4) := ((((turn1 _ _ _ _).and (turn1 _ _ _ _)).and (turn1 _ _ _ _)).and (turn1 _ _ _ _)).and (turn1 _ _ _ _)
theorem setB5 (h : Blk w b #[x0, x1, x2, x3, x4] t) (y0 y1 y2 y3 y4 : Value) : Blk (((((w.setCell ⟨b, 0, none⟩ y0).setCell ⟨b, 1, none⟩ y1).setCell ⟨b, 2, none⟩ y2).setCell ⟨b, 3, none⟩ y3).setCell ⟨b, 4, none⟩ y4) b #[y0, y1, y2, y3, y4] t := by
  unfold Blk at *; simp [World.setCell, Array.getElem?_modify, h]
theorem Hold.put5 (h : Hold wr G bs rs) (k : Nat) (hk : bs[k]? = some ⟨b, #[x0, x1, x2, x3, x4], t⟩) (hq : ((((wr.setCell ⟨b, 0, none⟩ y0).setCell ⟨b, 1, none⟩ y1).setCell ⟨b, 2, none⟩ y2).setCell ⟨b, 3, none⟩ y3).setCell ⟨b, 4, none⟩ y4 = w3) (hr : rs.all (fun r => r.e != t) = true := by rfl) : Hold w3 G (bs.set k ⟨b, #[y0, y1, y2, y3, y4], t⟩) rs := by
  subst hq; exact h.put k hk (turnB5 _ _ _ _ _ _ _) (setB5 (h.at_ k hk) _ _ _ _ _) hr
theorem Mine.put5 (h : Mine w wr bs rs) (k : Nat) (hk : bs[k]? = some ⟨b, #[x0, x1, x2, x3, x4], t⟩) (hq : ((((wr.setCell ⟨b, 0, none⟩ y0).setCell ⟨b, 1, none⟩ y1).setCell ⟨b, 2, none⟩ y2).setCell ⟨b, 3, none⟩ y3).setCell ⟨b, 4, none⟩ y4 = w3) (hr : rs.all (fun r => r.e != t) = true := by rfl) : Mine w w3 (bs.set k ⟨b, #[y0, y1, y2, y3, y4], t⟩) rs := by
  subst hq; exact h.put k hk (turnB5 _ _ _ _ _ _ _) (setB5 (h.at_ k hk) _ _ _ _ _) hr
end

section
variable {w wr w3 : World} {G : Nat → Prop} {bs : List BoxD} {rs : List RowD} {b : Nat} {t : TypeId} {x0 x1 x2 x3 x4 x5 y0 y1 y2 y3 y4 y5 : Value}
theorem turnB6 (w : World) (b : Nat) (y0 y1 y2 y3 y4 y5 : Value) : Turn (fun i => i = b) w ((((((w.setCell ⟨b, 0, none⟩ y0).setCell ⟨b, 1, none⟩ y1).setCell ⟨b, 2, none⟩ y2).setCell ⟨b, 3, none⟩ y3).setCell ⟨b, 4, none⟩ y4).setCell ⟨b, 5, none⟩ y5) := (((((turn1 _ _ _ _).and (turn1 _ _ _ _)).and (turn1 _ _ _ _)).and (turn1 _ _ _ _)).and (turn1 _ _ _ _)).and (turn1 _ _ _ _)
theorem setB6 (h : Blk w b #[x0, x1, x2, x3, x4, x5] t) (y0 y1 y2 y3 y4 y5 : Value) : Blk ((((((w.setCell ⟨b, 0, none⟩ y0).setCell ⟨b, 1, none⟩ y1).setCell ⟨b, 2, none⟩ y2).setCell ⟨b, 3, none⟩ y3).setCell ⟨b, 4, none⟩ y4).setCell ⟨b, 5, none⟩ y5) b #[y0, y1, y2, y3, y4, y5] t := by
  unfold Blk at *; simp [World.setCell, Array.getElem?_modify, h]
theorem Hold.put6 (h : Hold wr G bs rs) (k : Nat) (hk : bs[k]? = some ⟨b, #[x0, x1, x2, x3, x4, x5], t⟩) (hq : (((((wr.setCell ⟨b, 0, none⟩ y0).setCell ⟨b, 1, none⟩ y1).setCell ⟨b, 2, none⟩ y2).setCell ⟨b, 3, none⟩ y3).setCell ⟨b, 4, none⟩ y4).setCell ⟨b, 5, none⟩ y5 = w3) (hr : rs.all (fun r => r.e != t) = true := by rfl) : Hold w3 G (bs.set k ⟨b, #[y0, y1, y2, y3, y4, y5], t⟩) rs := by
  subst hq; exact h.put k hk (turnB6 _ _ _ _ _ _ _ _) (setB6 (h.at_ k hk) _ _ _ _ _ _) hr
theorem Mine.put6 (h : Mine w wr bs rs) (k : Nat) (hk : bs[k]? = some ⟨b, #[x0, x1, x2, x3, x4, x5], t⟩) (hq : (((((wr.setCell ⟨b, 0, none⟩ y0).setCell ⟨b, 1, none⟩ y1).setCell ⟨b, 2, none⟩ y2).setCell ⟨b, 3, none⟩ y3).setCell ⟨b, 4, none⟩ y4).setCell ⟨b, 5, none⟩ y5 = w3) (hr : rs.all (fun r => r.e != t) = true := by rfl) : Mine w w3 (bs.set k ⟨b, #[y0, y1, y2, y3, y4, y5], t⟩) rs := by
  subst hq; exact h.put k hk (turnB6 _ _ _ _ _ _ _ _) (setB6 (h.at_ k hk) _ _ _ _ _ _) hr
end

section
variable {w wr w3 : World} {G : Nat → Prop} {bs : List BoxD} {rs : List RowD} {b : Nat} {t : TypeId} {x0 x1 x2 x3 x4 x5 x6 y0 y1 y2 y3 y4 y5 y6 : Value}
end

section
variable {w wr w3 : World} {G : Nat → Prop} {bs : List BoxD} {rs : List RowD} {b : Nat} {t : TypeId} {x0 x1 x2 x3 x4 x5 x6 x7 y0 y1 y2 y3 y4 y5 y6 y7 : Value}
end

/-- a memory of a law's own, and the law's boxes and rows beside it; nothing older was turned -/
structure Law (w wr : World) (m : Nat) (f : Int → Int) (tr : List Int) (n : Nat) (G : Nat → Prop) (bs : List BoxD) (rs : List RowD) : Prop where
  wk : Wk w wr (From w.heap.size) m 16 f tr n G
  hold : Hold wr G bs rs
  low : ∀ z ∈ bs, w.heap.size ≤ z.b

section
variable {w wr w1 w2 w3 w4 : World} {G G' : Nat → Prop} {bs : List BoxD} {rs : List RowD} {m n n' B sz k : Nat} {f f' : Int → Int} {tr tr' : List Int} {e : TypeId} {v : Value} {xs : List Value}
theorem Law.start (h : Mine w w1 bs rs) (hM : Mem w2 (From w1.heap.size) m 16 f tr n) (hB : Below w1.heap.size w1 w2) : Law w w2 m f tr n (fun i => From w1.heap.size i ∧ i < w2.heap.size) bs rs := by
  have hq := h.quiet hB
  refine ⟨Wk.made hM hq.below h.size, ⟨fun z hz => ⟨(hq.hold.box z hz).1, fun hg => ?_⟩, fun r hr => ⟨(hq.hold.row r hr).1, fun i hi hg => ?_⟩, hq.hold.once, fun i hi => hi.2⟩, fun z hz => Nat.le_of_not_lt (h.hold.box z hz).2⟩
  · have h1 := (h.hold.box z hz).1.lt
    have h2 : w1.heap.size ≤ z.b := hg.1
    omega
  · have h1 := (own_lt (h.hold.row r hr).1 hi).2
    have h2 : w1.heap.size ≤ i := hg.1
    omega
theorem Law.world (h : Law w wr m f tr n G bs rs) (e : wr = w3) : Law w w3 m f tr n G bs rs := e ▸ h
theorem Law.below (h : Law w wr m f tr n G bs rs) : Below w.heap.size w wr := h.wk.belowW
theorem Law.size (h : Law w wr m f tr n G bs rs) : w.heap.size ≤ wr.heap.size := h.wk.belowW.size
theorem Law.quiet (h : Law w wr m f tr n G bs rs) (hb : Below wr.heap.size wr w3) : Law w w3 m f tr n G bs rs := ⟨h.wk.quiet hb, h.hold.quiet hb, h.low⟩
theorem Law.step (h : Law w wr m f tr n G bs rs) (k : Wk wr w4 G m 16 f' tr' n' G') : Law w w4 m f' tr' n' G' bs rs := ⟨h.wk.join k, h.hold.step k, h.low⟩
theorem Law.new (h : Law w wr m f tr n G bs rs) {b : Nat} (hb : wr.heap.size = b) (cs : Array Value) (t : TypeId) : Law w (wr.alloc (.cells cs t)) m f tr n G (⟨b, cs, t⟩ :: bs) rs := by
  subst hb; exact ⟨h.wk.quiet (below_alloc1 _ _), h.hold.new cs t, fun z hz => by
    rcases List.mem_cons.1 hz with rfl | hz
    · exact h.size
    · exact h.low z hz⟩
theorem Law.got (h : Law w wr m f tr n G bs rs) (hr : wr.ownsRow B e sz v k xs) (hv : ∀ i, v.ownBlock = some i → ¬ G i) : Law w wr m f tr n G bs (⟨e, sz, v, k, xs⟩ :: rs) := ⟨h.wk, h.hold.got hr hv, h.low⟩
/-- a row that a quiet call made -/
theorem Law.made (h : Law w wr m f tr n G bs rs) (hb : Below wr.heap.size wr w3) (hr : w3.ownsRow B e sz v k xs) (hB : wr.heap.size ≤ B) : Law w w3 m f tr n G bs (⟨e, sz, v, k, xs⟩ :: rs) :=
  (h.quiet hb).got hr fun i hi hg => by have := h.hold.lt i hg; have := (own_lt hr hi).1; omega
theorem Law.at_ (h : Law w wr m f tr n G bs rs) (k : Nat) {b : Nat} {cs : Array Value} {t : TypeId} (hk : bs[k]? = some ⟨b, cs, t⟩) : Blk wr b cs t := h.hold.at_ k hk
theorem Law.no (h : Law w wr m f tr n G bs rs) (k : Nat) {b : Nat} {cs : Array Value} {t : TypeId} (hk : bs[k]? = some ⟨b, cs, t⟩) : ¬ G b := h.hold.no k hk
theorem Law.of_ (h : Law w wr m f tr n G bs rs) (k : Nat) {e : TypeId} {sz n : Nat} {v : Value} {xs : List Value} (hk : rs[k]? = some ⟨e, sz, v, n, xs⟩) : wr.ownsRow 0 e sz v n xs := h.hold.of_ k hk
theorem Law.off (h : Law w wr m f tr n G bs rs) (k : Nat) {e : TypeId} {sz n : Nat} {v : Value} {xs : List Value} (hk : rs[k]? = some ⟨e, sz, v, n, xs⟩) : ∀ i, v.ownBlock = some i → ¬ G i := h.hold.off k hk
theorem Law.put (h : Law w wr m f tr n G bs rs) (k : Nat) {b : Nat} {cs cs' : Array Value} {t : TypeId} (hk : bs[k]? = some ⟨b, cs, t⟩) (ht : Turn (fun i => i = b) wr w3) (hb : Blk w3 b cs' t) (hr : rs.all (fun r => r.e != t) = true := by rfl) : Law w w3 m f tr n G (bs.set k ⟨b, cs', t⟩) rs :=
  ⟨h.wk.set ht (h.hold.no k hk) (h.low _ (List.mem_of_getElem? hk)), h.hold.put k hk ht hb hr, fun z hz => by
    rcases List.mem_or_eq_of_mem_set hz with hz | rfl
    · exact h.low z hz
    · exact h.low ⟨b, cs, t⟩ (List.mem_of_getElem? hk)⟩
theorem Law.pick (h : Law w wr m f tr n G bs rs) (l k : List Nat) (hl : l.Nodup := by decide) : Law w wr m f tr n G (l.filterMap fun i => bs[i]?) (k.filterMap fun i => rs[i]?) := ⟨h.wk, h.hold.pick l k hl, fun z hz => by
    obtain ⟨i, _, hi⟩ := List.mem_filterMap.1 hz
    exact h.low z (List.mem_of_getElem? hi)⟩
end

/-- two memories of a law's own, apart -/
structure Law2 (w wr : World) (m : Nat) (f : Int → Int) (tr : List Int) (n : Nat) (G : Nat → Prop) (m0 : Nat) (f0 : Int → Int) (tr0 : List Int) (n0 : Nat) (H : Nat → Prop) (bs : List BoxD) (rs : List RowD) : Prop where
  m : Wk w wr (From w.heap.size) m 16 f tr n G
  k : Wk w wr (From w.heap.size) m0 16 f0 tr0 n0 H
  free : ∀ i, G i → ¬ H i
  hold : Hold wr (fun i => G i ∨ H i) bs rs

section
variable {w wr w1 w2 w3 w4 : World} {G G' H H' : Nat → Prop} {bs : List BoxD} {rs : List RowD} {m m0 n n' n0 n0' B sz k : Nat} {f f' f0 f0' : Int → Int} {tr tr' tr0 tr0' : List Int} {e : TypeId} {v : Value} {xs : List Value}
/-- a second memory was made -/
theorem Law.two (h : Law w wr m f tr n G bs rs) (hM : Mem w3 (From wr.heap.size) m0 16 f0 tr0 n0) (hB : Below wr.heap.size wr w3) : Law2 w w3 m f tr n G m0 f0 tr0 n0 (fun i => From wr.heap.size i ∧ i < w3.heap.size) bs rs := by
  have hq := h.quiet hB
  refine ⟨hq.wk, Wk.made hM hq.below h.size, fun i hi hg => ?_, fun z hz => ⟨(hq.hold.box z hz).1, ?_⟩, fun r hr => ⟨(hq.hold.row r hr).1, fun i hi => ?_⟩, hq.hold.once, ?_⟩
  · have h1 := h.hold.lt i hi
    have h2 : wr.heap.size ≤ i := hg.1
    omega
  · rintro (hg | hg)
    · exact (hq.hold.box z hz).2 hg
    · have h1 := (h.hold.box z hz).1.lt
      have h2 : wr.heap.size ≤ z.b := hg.1
      omega
  · rintro (hg | hg)
    · exact (hq.hold.row r hr).2 i hi hg
    · have h1 := (own_lt (h.hold.row r hr).1 hi).2
      have h2 : wr.heap.size ≤ i := hg.1
      omega
  · rintro i (hg | hg)
    · exact hq.hold.lt i hg
    · exact hg.2
theorem Law2.world (h : Law2 w wr m f tr n G m0 f0 tr0 n0 H bs rs) (e : wr = w3) : Law2 w w3 m f tr n G m0 f0 tr0 n0 H bs rs := e ▸ h
theorem Law2.below (h : Law2 w wr m f tr n G m0 f0 tr0 n0 H bs rs) : Below w.heap.size w wr := h.m.belowW
theorem Law2.quiet (h : Law2 w wr m f tr n G m0 f0 tr0 n0 H bs rs) (hb : Below wr.heap.size wr w3) : Law2 w w3 m f tr n G m0 f0 tr0 n0 H bs rs := ⟨h.m.quiet hb, h.k.quiet hb, h.free, h.hold.quiet hb⟩
theorem Law2.step (h : Law2 w wr m f tr n G m0 f0 tr0 n0 H bs rs) (j : Wk wr w4 G m 16 f' tr' n' G') : Law2 w w4 m f' tr' n' G' m0 f0 tr0 n0 H bs rs := by
  refine ⟨h.m.join j, h.k.other j.turn (fun i _ hg hh => h.free i hg hh) (fun i hi => (h.m.foot i hi).2), fun i hi hh => j.free (fun hg => h.free i hg hh) (h.k.foot i hh).1 hi, ?_⟩
  have hb : ∀ i, ¬ (G i ∨ H i) → i < wr.heap.size → ¬ (G' i ∨ H i) := fun i hn hl hg => by
    rcases hg with hg | hg
    · exact j.free (fun h' => hn (Or.inl h')) hl hg
    · exact hn (Or.inr hg)
  exact ⟨fun z hz => ⟨(h.hold.box z hz).1.turn j.turn (fun hg => (h.hold.box z hz).2 (Or.inl hg)), hb _ (h.hold.box z hz).2 (h.hold.box z hz).1.lt⟩,
    fun r hr => ⟨own_turn (h.hold.row r hr).1 j.turn (fun i hi hg => (h.hold.row r hr).2 i hi (Or.inl hg)), fun i hi => hb i ((h.hold.row r hr).2 i hi) (own_lt (h.hold.row r hr).1 hi).2⟩, h.hold.once,
    fun i hi => hi.elim (fun hg => (j.foot i hg).1) (fun hg => Nat.lt_of_lt_of_le (h.k.foot i hg).1 j.turn.size)⟩
theorem Law2.got (h : Law2 w wr m f tr n G m0 f0 tr0 n0 H bs rs) (hr : wr.ownsRow B e sz v k xs) (hv : ∀ i, v.ownBlock = some i → ¬ G i) (hh : ∀ i, v.ownBlock = some i → ¬ H i) : Law2 w wr m f tr n G m0 f0 tr0 n0 H bs (⟨e, sz, v, k, xs⟩ :: rs) :=
  ⟨h.m, h.k, h.free, h.hold.got hr fun i hi hg => hg.elim (hv i hi) (hh i hi)⟩
theorem Law2.new (h : Law2 w wr m f tr n G m0 f0 tr0 n0 H bs rs) {b : Nat} (hb : wr.heap.size = b) (cs : Array Value) (t : TypeId) : Law2 w (wr.alloc (.cells cs t)) m f tr n G m0 f0 tr0 n0 H (⟨b, cs, t⟩ :: bs) rs := by
  subst hb; exact ⟨h.m.quiet (below_alloc1 _ _), h.k.quiet (below_alloc1 _ _), h.free, h.hold.new cs t⟩
theorem Law2.at_ (h : Law2 w wr m f tr n G m0 f0 tr0 n0 H bs rs) (k : Nat) {b : Nat} {cs : Array Value} {t : TypeId} (hk : bs[k]? = some ⟨b, cs, t⟩) : Blk wr b cs t := h.hold.at_ k hk
theorem Law2.of_ (h : Law2 w wr m f tr n G m0 f0 tr0 n0 H bs rs) (k : Nat) {e : TypeId} {sz n' : Nat} {v : Value} {xs : List Value} (hk : rs[k]? = some ⟨e, sz, v, n', xs⟩) : wr.ownsRow 0 e sz v n' xs := h.hold.of_ k hk
theorem Law2.off (h : Law2 w wr m f tr n G m0 f0 tr0 n0 H bs rs) (k : Nat) {e : TypeId} {sz n' : Nat} {v : Value} {xs : List Value} (hk : rs[k]? = some ⟨e, sz, v, n', xs⟩) : (∀ i, v.ownBlock = some i → ¬ G i) ∧ ∀ i, v.ownBlock = some i → ¬ H i :=
  ⟨fun i hi hg => h.hold.off k hk i hi (Or.inl hg), fun i hi hg => h.hold.off k hk i hi (Or.inr hg)⟩
end

section
variable {w wr w3 : World} {G : Nat → Prop} {bs : List BoxD} {rs : List RowD} {m n b : Nat} {f : Int → Int} {tr : List Int} {t : TypeId}
theorem Law.put2 {x0 x1 y0 y1 : Value} (h : Law w wr m f tr n G bs rs) (k : Nat) (hk : bs[k]? = some ⟨b, #[x0, x1], t⟩) (hq : (wr.setCell ⟨b, 0, none⟩ y0).setCell ⟨b, 1, none⟩ y1 = w3) (hr : rs.all (fun r => r.e != t) = true := by rfl) : Law w w3 m f tr n G (bs.set k ⟨b, #[y0, y1], t⟩) rs := by
  subst hq; exact h.put k hk (turnB2 _ _ _ _) (setB2 (h.at_ k hk) _ _) hr
theorem Law.put3 {x0 x1 x2 y0 y1 y2 : Value} (h : Law w wr m f tr n G bs rs) (k : Nat) (hk : bs[k]? = some ⟨b, #[x0, x1, x2], t⟩) (hq : ((wr.setCell ⟨b, 0, none⟩ y0).setCell ⟨b, 1, none⟩ y1).setCell ⟨b, 2, none⟩ y2 = w3) (hr : rs.all (fun r => r.e != t) = true := by rfl) : Law w w3 m f tr n G (bs.set k ⟨b, #[y0, y1, y2], t⟩) rs := by
  subst hq; exact h.put k hk (turnB3 _ _ _ _ _) (setB3 (h.at_ k hk) _ _ _) hr
theorem Law.put5 {x0 x1 x2 x3 x4 y0 y1 y2 y3 y4 : Value} (h : Law w wr m f tr n G bs rs) (k : Nat) (hk : bs[k]? = some ⟨b, #[x0, x1, x2, x3, x4], t⟩) (hq : ((((wr.setCell ⟨b, 0, none⟩ y0).setCell ⟨b, 1, none⟩ y1).setCell ⟨b, 2, none⟩ y2).setCell ⟨b, 3, none⟩ y3).setCell ⟨b, 4, none⟩ y4 = w3) (hr : rs.all (fun r => r.e != t) = true := by rfl) : Law w w3 m f tr n G (bs.set k ⟨b, #[y0, y1, y2, y3, y4], t⟩) rs := by
  subst hq; exact h.put k hk (turnB5 _ _ _ _ _ _ _) (setB5 (h.at_ k hk) _ _ _ _ _) hr
theorem Law.put6 {x0 x1 x2 x3 x4 x5 y0 y1 y2 y3 y4 y5 : Value} (h : Law w wr m f tr n G bs rs) (k : Nat) (hk : bs[k]? = some ⟨b, #[x0, x1, x2, x3, x4, x5], t⟩) (hq : (((((wr.setCell ⟨b, 0, none⟩ y0).setCell ⟨b, 1, none⟩ y1).setCell ⟨b, 2, none⟩ y2).setCell ⟨b, 3, none⟩ y3).setCell ⟨b, 4, none⟩ y4).setCell ⟨b, 5, none⟩ y5 = w3) (hr : rs.all (fun r => r.e != t) = true := by rfl) : Law w w3 m f tr n G (bs.set k ⟨b, #[y0, y1, y2, y3, y4, y5], t⟩) rs := by
  subst hq; exact h.put k hk (turnB6 _ _ _ _ _ _ _ _) (setB6 (h.at_ k hk) _ _ _ _ _ _) hr
end
/-- nothing that was there has turned -/
structure Grow (w wr : World) : Prop where
  h : Below w.heap.size w wr
theorem Grow.quiet {w wr w3 : World} (g : Grow w wr) (hb : Below wr.heap.size wr w3) : Grow w w3 := ⟨g.h.trans (hb.mono g.h.size)⟩
theorem Grow.put {w wr w3 : World} {b : Nat} (g : Grow w wr) (hb : w.heap.size ≤ b) (ht : Turn (fun i => i = b) wr w3) : Grow w w3 := ⟨turn_below g.h ht hb g.h.size⟩

/- steps of a region that draws its order, in few words -/
section
variable {P : Program} {ops : Array Oper} {Q : Exit → Act → World → Prop} {md : Region.Mode} {S : World → Prop}
/-- number i is taken first -/
theorem tk (i : Nat) {oi : Oper} {rest : List Oper} {v : Value} {fuel : Nat} {listed : Array Bool} {a : Act} {w : World}
    (hy : ∀ w, S w → (execOp a.eval oi).run P w = .ok (.value v) w) (h : wpAnyH P md ops Q S fuel (listed.setIfInBounds i true) (a.put oi.dst v) w)
    (hi : ops.toList.drop i = oi :: rest := by rfl) (hs : Region.noSelect ops = true := by kernel_rfl) (hf : Region.free md ops listed i = true := by kernel_rfl) (hr : (Region.ready md ops listed).contains i = true := by kernel_rfl)
    (hQ : ∀ c a w, Q (.panic c) (a.put oi.dst v) w → Q (.panic c) a w := by exact fun _ _ _ h => h) (hwt : Region.wanted oi (yielded ops a.tmps) = true := by rfl) (hS : S w := by assumption) : wpAnyH P md ops Q S (fuel + 1) listed a w :=
  anyH_take hi hs hf hr hQ hwt hS hy h
end
end Go.Proofs.YtiihhlmddmicjaaDoor
/- A cache of package cache as it lies in the world; a cache beside other blocks. -/
namespace Go.Proofs.YtiihhlmddmicjaaDoor
set_option linter.unusedVariables false
set_option linter.unusedSimpArgs false
open Go.ChangeShapes Go.WideShapes Go.ChangeAt Go.RowKit Go.Joins

/- CELLS OF ELEMENTS, ONE BEHIND THE OTHER -/
section
variable {α : Type} {f : α → List Value} {s : Nat}
theorem flat_len (hs : ∀ x, (f x).length = s) (L : List α) : (L.flatMap f).length = L.length * s := by
  induction L with
  | nil => simp
  | cons x L ih => rw [List.flatMap_cons, List.length_append, hs, ih, List.length_cons, Nat.succ_mul]; omega
theorem flat_get (hs : ∀ x, (f x).length = s) (L : List α) (z : α) : ∀ k j, k < L.length → j < s → (L.flatMap f)[k * s + j]? = (f (L.getD k z))[j]? := by
  induction L with
  | nil => intro k j hk; simp at hk
  | cons x L ih =>
    intro k j hk hj
    rw [List.flatMap_cons]
    rcases k with _ | k
    · rw [List.getElem?_append_left (by rw [hs]; omega)]
      simp
    · rw [List.getElem?_append_right (by rw [hs, Nat.succ_mul]; omega), hs, show (k + 1) * s + j - s = k * s + j by rw [Nat.succ_mul]; omega, ih k j (by simpa using hk) hj]
      simp
theorem flat_take (hs : ∀ x, (f x).length = s) (L : List α) : ∀ k, (L.flatMap f).take (k * s) = (L.take k).flatMap f := by
  induction L with
  | nil => intro k; simp
  | cons x L ih =>
    intro k
    rcases k with _ | k
    · simp
    · rw [List.flatMap_cons, List.take_append, hs, show (k + 1) * s - s = k * s by rw [Nat.succ_mul]; omega, ih k, List.take_succ_cons, List.flatMap_cons]
      rw [List.take_of_length_le (by rw [hs, Nat.succ_mul]; omega)]
theorem flat_drop (hs : ∀ x, (f x).length = s) (L : List α) : ∀ k, (L.flatMap f).drop (k * s) = (L.drop k).flatMap f := by
  induction L with
  | nil => intro k; simp
  | cons x L ih =>
    intro k
    rcases k with _ | k
    · simp
    · rw [List.flatMap_cons, List.drop_append, hs, show (k + 1) * s - s = k * s by rw [Nat.succ_mul]; omega, ih k, List.drop_succ_cons]
      rw [List.drop_of_length_le (by rw [hs, Nat.succ_mul]; omega)]
      simp
end

def kc (k : Ky) : List Value := [.int .i64 k.1, .int .i64 k.2.1, .int .u64 k.2.2]
def pc (x : Pr) : List Value := [.int .i64 x.1.1, .int .i64 x.1.2.1, .int .u64 x.1.2.2, .int .u64 x.2.1, .bool x.2.2.1, .bool x.2.2.2.1, .bool x.2.2.2.2.1, .bool x.2.2.2.2.2.1, .int .u8 x.2.2.2.2.2.2]
def kcs (ks : List Ky) : List Value := ks.flatMap kc
def pcs (L : List Pr) : List Value := L.flatMap pc
theorem kc_len (k : Ky) : (kc k).length = 3 := rfl
theorem pc_len (x : Pr) : (pc x).length = 9 := rfl
theorem kc_one (k : Ky) : ∀ u ∈ kc k, u.oneCell' = true := by
  intro u hu
  simp [kc] at hu
  rcases hu with rfl | rfl | rfl <;> rfl
theorem pc_one (x : Pr) : ∀ u ∈ pc x, u.oneCell' = true := by
  intro u hu
  simp [pc] at hu
  rcases hu with rfl | rfl | rfl | rfl | rfl | rfl | rfl | rfl | rfl <;> rfl
theorem kcs_one (ks : List Ky) : ∀ u ∈ kcs ks, u.oneCell' = true := by
  intro u hu
  obtain ⟨k, _, h⟩ := List.mem_flatMap.1 hu
  exact kc_one k u h
theorem kcs_len (ks : List Ky) : (kcs ks).length = ks.length * 3 := flat_len kc_len ks
theorem pcs_len (L : List Pr) : (pcs L).length = L.length * 9 := flat_len pc_len L

/-- v is the order of the keys ks; its block may be longer than its room -/
def OrdIs (w : World) (v : Value) (ks : List Ky) : Prop :=
  (v = .slice none 0 0 ∧ ks = []) ∨ ∃ g cap cur, v = .slice (some ⟨g, 0, none⟩) ks.length cap ∧ w.heap[g]? = some (.cells cur 102 (0, 0)) ∧ ks.length ≤ cap ∧ cap * 3 ≤ cur.size ∧ cur.toList.take (ks.length * 3) = kcs ks

section
variable {w w' : World} {v : Value} {ks : List Ky}
theorem OrdIs.lt (h : OrdIs w v ks) {i : Nat} (hi : v.ownBlock = some i) : i < w.heap.size := by
  rcases h with ⟨rfl, _⟩ | ⟨g, cap, cur, rfl, hg, _⟩
  · simp [Value.ownBlock] at hi
  · simp [Value.ownBlock] at hi
    exact hi ▸ lt_of_block hg
theorem OrdIs.same (h : OrdIs w v ks) (he : ∀ i, v.ownBlock = some i → w'.heap[i]? = w.heap[i]?) : OrdIs w' v ks := by
  rcases h with h | ⟨g, cap, cur, rfl, hg, r⟩
  · exact Or.inl h
  · exact Or.inr ⟨g, cap, cur, rfl, (he g rfl).trans hg, r⟩
theorem OrdIs.form (h : OrdIs w v ks) : ∃ A cap, v = .slice A ks.length cap := by
  rcases h with ⟨rfl, rfl⟩ | ⟨g, cap, cur, rfl, _⟩
  · exact ⟨none, 0, rfl⟩
  · exact ⟨_, _, rfl⟩
theorem OrdIs.type (h : OrdIs w v ks) {i : Nat} (hi : v.ownBlock = some i) : ∃ cur, w.heap[i]? = some (.cells cur 102 (0, 0)) := by
  rcases h with ⟨rfl, _⟩ | ⟨g, cap, cur, rfl, hg, _⟩
  · simp [Value.ownBlock] at hi
  · simp [Value.ownBlock] at hi
    exact ⟨cur, hi ▸ hg⟩
theorem ord_cells {g cap : Nat} {cur : Array Value} {n : Nat} (hg : w.heap[g]? = some (.cells cur 102 (0, 0))) (ht : cur.toList.take (n * 3) = kcs ks) (hn : ks.length = n) : ∀ j u, (kcs ks)[j]? = some u → w.cell? ((⟨g, 0, none⟩ : Addr).add j) = some u := by
  intro j u hj
  rw [add2, cell_of_row w g j cur _ _ hg]
  rw [← ht, List.getElem?_take] at hj
  split at hj
  · simpa using hj
  · cases hj
/-- the key at a place -/
theorem OrdIs.at_ (h : OrdIs w v ks) {k : Nat} (hk : k < ks.length) : ∃ g cap, v = .slice (some ⟨g, 0, none⟩) ks.length cap ∧ w.cell? ⟨g, k * 3, none⟩ = some (.int .i64 (ks.getD k zK).1) ∧ w.cell? ⟨g, k * 3 + 1, none⟩ = some (.int .i64 (ks.getD k zK).2.1) ∧ w.cell? ⟨g, k * 3 + 2, none⟩ = some (.int .u64 (ks.getD k zK).2.2) := by
  rcases h with ⟨_, rfl⟩ | ⟨g, cap, cur, rfl, hg, h1, h2, h3⟩
  · simp at hk
  · have hc := ord_cells (ks := ks) (n := ks.length) (cap := 0) hg h3 rfl
    have e : ∀ j, j < 3 → (kcs ks)[k * 3 + j]? = (kc (ks.getD k zK))[j]? := fun j hj => flat_get kc_len ks zK k j hk hj
    refine ⟨g, cap, rfl, ?_, ?_, ?_⟩
    · have := hc (k * 3 + 0) _ (e 0 (by omega)); rwa [add2] at this
    · have := hc (k * 3 + 1) _ (e 1 (by omega)); rwa [add2] at this
    · have := hc (k * 3 + 2) _ (e 2 (by omega)); rwa [add2] at this
end

/-- block c of w is a cache of room R with the lines L; mb: its map's block, v: its order -/
structure Cch (w : World) (c : Nat) (R : Nat) (L : List Pr) (mb : Nat) (v : Value) : Prop where
  here : w.heap[c]? = some (.cells #[.int .i64 R, .map (some mb), v] 133 (0, 0))
  map : MapAt w mb (getK L)
  ord : OrdIs w v (keysK L)
  nodup : (keysK L).Nodup
  ok : ∀ k ∈ keysK L, OkK k
  len : L.length ≤ R
  room : R ≤ 64

def OwnC (c mb : Nat) (v : Value) (i : Nat) : Prop := i = c ∨ i = mb ∨ v.ownBlock = some i
/-- .. all of whose blocks are G's -/
def Cac (w : World) (G : Nat → Prop) (c R : Nat) (L : List Pr) : Prop := ∃ mb v, Cch w c R L mb v ∧ ∀ i, OwnC c mb v i → G i

section
variable {w w' : World} {F G : Nat → Prop} {c R mb : Nat} {L : List Pr} {v : Value}

theorem Cch.own_lt (h : Cch w c R L mb v) {i : Nat} (hi : OwnC c mb v i) : i < w.heap.size := by
  rcases hi with rfl | rfl | hv
  · exact lt_of_block h.here
  · exact h.map.lt
  · exact h.ord.lt hv
theorem Cch.same (h : Cch w c R L mb v) (he : ∀ i, OwnC c mb v i → w'.heap[i]? = w.heap[i]?) : Cch w' c R L mb v :=
  ⟨(he c (Or.inl rfl)).trans h.here, h.map.same (he mb (Or.inr (Or.inl rfl))), h.ord.same fun i hi => he i (Or.inr (Or.inr hi)), h.nodup, h.ok, h.len, h.room⟩
theorem Cch.apart (h : Cch w c R L mb v) : c ≠ mb ∧ v.ownBlock ≠ some c ∧ v.ownBlock ≠ some mb := by
  refine ⟨fun e => ?_, fun e => ?_, fun e => ?_⟩
  · obtain ⟨es, clock, hm, _⟩ := h.map
    rw [← e, h.here] at hm; simp at hm
  · obtain ⟨cur, hg⟩ := h.ord.type e
    rw [h.here] at hg; simp at hg
  · obtain ⟨cur, hg⟩ := h.ord.type e
    obtain ⟨es, clock, hm, _⟩ := h.map
    rw [hm] at hg; simp at hg
theorem Cch.cells (h : Cch w c R L mb v) : w.cell? ⟨c, 0, none⟩ = some (.int .i64 R) ∧ w.cell? ⟨c, 1, none⟩ = some (.map (some mb)) ∧ w.cell? ⟨c, 2, none⟩ = some v ∧ w.frozen? ⟨c, 2, none⟩ = false := by
  simp [World.cell?, World.frozen?, h.here]
theorem Cac.mono (h : Cac w F c R L) (hG : ∀ i, F i → G i) : Cac w G c R L := by
  obtain ⟨mb, v, h, hF⟩ := h
  exact ⟨mb, v, h, fun i hi => hG i (hF i hi)⟩
theorem Cac.turned (h : Cac w F c R L) (ht : Turn G w w') (ha : ∀ i, i < w.heap.size → F i → ¬ G i) : Cac w' F c R L := by
  obtain ⟨mb, v, h, hF⟩ := h
  exact ⟨mb, v, h.same (fun i hi => ht.block i (h.own_lt hi) (ha i (h.own_lt hi) (hF i hi))), hF⟩
theorem Cac.kept (h : Cac w F c R L) (ht : Below w.heap.size w w') : Cac w' F c R L := h.turned (Turn.of_kept (fun _ => False) ht) (fun _ _ _ h => h)
theorem Cac.room (h : Cac w F c R L) : R ≤ 64 := by obtain ⟨mb, v, h, _⟩ := h; exact h.room
theorem Cac.len (h : Cac w F c R L) : L.length ≤ R := by obtain ⟨mb, v, h, _⟩ := h; exact h.len
theorem Cac.nodup (h : Cac w F c R L) : (keysK L).Nodup := by obtain ⟨mb, v, h, _⟩ := h; exact h.nodup
theorem Cac.ok (h : Cac w F c R L) : ∀ k ∈ keysK L, OkK k := by obtain ⟨mb, v, h, _⟩ := h; exact h.ok
theorem Cac.here (h : Cac w F c R L) : F c ∧ c < w.heap.size := by obtain ⟨mb, v, h, hF⟩ := h; exact ⟨hF c (Or.inl rfl), h.own_lt (Or.inl rfl)⟩
end

/-- a cache beside other blocks: G are its own; nothing but F has turned since w -/
structure Ck (w wr : World) (F : Nat → Prop) (c R : Nat) (L : List Pr) (G : Nat → Prop) : Prop where
  cac : Cac wr G c R L
  foot : ∀ i, G i → i < wr.heap.size ∧ (F i ∨ w.heap.size ≤ i)
  turn : Turn F w wr

section
variable {w wr w3 w4 : World} {F G H G' : Nat → Prop} {c R R' : Nat} {L L' : List Pr}

theorem Ck.start (h : Cac w F c R L) : Ck w w F c R L (fun i => F i ∧ i < w.heap.size) := by
  obtain ⟨mb, v, hM, hF⟩ := h
  exact ⟨⟨mb, v, hM, fun i hi => ⟨hF i hi, hM.own_lt hi⟩⟩, fun i hi => ⟨hi.2, Or.inl hi.1⟩, Turn.refl _ _⟩
theorem Ck.step (h : Ck w wr F c R L G) (hm : Cac w3 (Since G wr) c R L') (ht : Turn G wr w3) : Ck w w3 F c R L' (fun i => Since G wr i ∧ i < w3.heap.size) := by
  refine ⟨?_, ?_, ?_⟩
  · obtain ⟨mb, v, hM, hF⟩ := hm
    exact ⟨mb, v, hM, fun i hi => ⟨hF i hi, hM.own_lt hi⟩⟩
  · rintro i ⟨hi, hl⟩
    refine ⟨hl, ?_⟩
    rcases hi with hi | hi
    · exact (h.foot i hi).2
    · exact Or.inr (Nat.le_trans h.turn.size hi)
  · exact h.turn.trans (ht.mono fun i _ hi => (h.foot i hi).2)
theorem Ck.other (h : Ck w wr F c R L G) (ht : Turn H wr w3) (h1 : ∀ i, i < wr.heap.size → H i → ¬ G i) (h2 : ∀ i, H i → F i ∨ w.heap.size ≤ i) : Ck w w3 F c R L G :=
  ⟨h.cac.turned ht (fun i hl hg hh => h1 i hl hh hg), fun i hi => ⟨Nat.lt_of_lt_of_le (h.foot i hi).1 ht.size, (h.foot i hi).2⟩, h.turn.trans (ht.mono fun i _ hi => h2 i hi)⟩
theorem Ck.quiet (h : Ck w wr F c R L G) (hb : Below wr.heap.size wr w3) : Ck w w3 F c R L G :=
  h.other (H := fun _ => False) (Turn.of_kept _ hb) (fun _ _ h => h.elim) (fun _ h => h.elim)
theorem Ck.set (h : Ck w wr F c R L G) {b : Nat} (ht : Turn (fun i => i = b) wr w3) (hb : ¬ G b) (hl : w.heap.size ≤ b) : Ck w w3 F c R L G :=
  h.other ht (fun i _ e => e ▸ hb) (fun i e => Or.inr (e ▸ hl))
theorem Ck.join (h : Ck w wr F c R L G) (k : Ck wr w4 G c R L' G') : Ck w w4 F c R L' G' := by
  refine ⟨k.cac, fun i hi => ⟨(k.foot i hi).1, ?_⟩, h.turn.trans (k.turn.mono fun i _ hi => (h.foot i hi).2)⟩
  rcases (k.foot i hi).2 with hg | hg
  · exact (h.foot i hg).2
  · exact Or.inr (Nat.le_trans h.turn.size hg)
theorem Ck.free {i : Nat} (k : Ck wr w4 G c R L' G') (hi : ¬ G i) (hl : i < wr.heap.size) : ¬ G' i := fun hg => by
  rcases (k.foot i hg).2 with h | h
  · exact hi h
  · omega
/-- a cache that was made behind w -/
theorem Ck.made {B : Nat} (h : Cac wr (From B) c R L) (hb : Below w.heap.size w wr) (hB : w.heap.size ≤ B) : Ck w wr (From w.heap.size) c R L (fun i => From B i ∧ i < wr.heap.size) := by
  obtain ⟨mb, v, hM, hF⟩ := h
  exact ⟨⟨mb, v, hM, fun i hi => ⟨hF i hi, hM.own_lt hi⟩⟩, fun i hi => ⟨hi.2, Or.inr (Nat.le_trans hB hi.1)⟩, Turn.of_below hb⟩
theorem Ck.belowW (h : Ck w wr (From w.heap.size) c R L G) : Below w.heap.size w wr := h.turn.below (fun _ hi => hi) (Nat.le_refl _)
/-- what a call's contract says of the cache -/
theorem Ck.out (h : Ck w wr F c R L G) : Cac wr (Since F w) c R L ∧ Turn F w wr := ⟨h.cac.mono fun i hi => (h.foot i hi).2, h.turn⟩
end

/-- a cache of others' (or made behind w), and a call's boxes and rows beside it -/
structure LawC (w wr : World) (F : Nat → Prop) (c R : Nat) (L : List Pr) (G : Nat → Prop) (bs : List BoxD) (rs : List RowD) : Prop where
  wk : Ck w wr F c R L G
  hold : Hold wr G bs rs
  low : ∀ z ∈ bs, w.heap.size ≤ z.b

section
variable {w wr w1 w2 w3 w4 : World} {F G G' : Nat → Prop} {bs : List BoxD} {rs : List RowD} {c R B sz k : Nat} {L L' : List Pr} {e : TypeId} {v : Value} {xs : List Value}
theorem Hold.stepC (h : Hold wr G bs rs) (k : Ck wr w4 G c R L' G') : Hold w4 G' bs rs :=
  ⟨fun z hz => ⟨(h.box z hz).1.turn k.turn (h.box z hz).2, k.free (h.box z hz).2 (h.box z hz).1.lt⟩,
   fun r hr => ⟨own_turn (h.row r hr).1 k.turn (h.row r hr).2, fun i hi => k.free ((h.row r hr).2 i hi) (own_lt (h.row r hr).1 hi).2⟩, h.once, fun i hi => (k.foot i hi).1⟩
/-- a call over a cache of others' begins -/
theorem LawC.start (h : Cac w F c R L) : LawC w w F c R L (fun i => F i ∧ i < w.heap.size) [] [] := ⟨Ck.start h, Hold.nil _ _ fun _ h => h.2, by simp⟩
/-- a cache was made -/
theorem LawC.first (h : Mine w w1 bs rs) (hM : Cac w2 (From w1.heap.size) c R L) (hB : Below w1.heap.size w1 w2) : LawC w w2 (From w.heap.size) c R L (fun i => From w1.heap.size i ∧ i < w2.heap.size) bs rs := by
  have hq := h.quiet hB
  refine ⟨Ck.made hM hq.below h.size, ⟨fun z hz => ⟨(hq.hold.box z hz).1, fun hg => ?_⟩, fun r hr => ⟨(hq.hold.row r hr).1, fun i hi hg => ?_⟩, hq.hold.once, fun i hi => hi.2⟩, fun z hz => Nat.le_of_not_lt (h.hold.box z hz).2⟩
  · have h1 := (h.hold.box z hz).1.lt
    have h2 : w1.heap.size ≤ z.b := hg.1
    omega
  · have h1 := (own_lt (h.hold.row r hr).1 hi).2
    have h2 : w1.heap.size ≤ i := hg.1
    omega
theorem LawC.world (h : LawC w wr F c R L G bs rs) (e : wr = w3) : LawC w w3 F c R L G bs rs := e ▸ h
theorem LawC.size (h : LawC w wr F c R L G bs rs) : w.heap.size ≤ wr.heap.size := h.wk.turn.size
theorem LawC.below (h : LawC w wr (From w.heap.size) c R L G bs rs) : Below w.heap.size w wr := h.wk.belowW
theorem LawC.quiet (h : LawC w wr F c R L G bs rs) (hb : Below wr.heap.size wr w3) : LawC w w3 F c R L G bs rs := ⟨h.wk.quiet hb, h.hold.quiet hb, h.low⟩
theorem LawC.step (h : LawC w wr F c R L G bs rs) (k : Ck wr w4 G c R L' G') : LawC w w4 F c R L' G' bs rs := ⟨h.wk.join k, h.hold.stepC k, h.low⟩
/-- a call turned the cache -/
theorem LawC.did (h : LawC w wr F c R L G bs rs) (hm : Cac w4 (Since G wr) c R L') (ht : Turn G wr w4) : LawC w w4 F c R L' (fun i => Since G wr i ∧ i < w4.heap.size) bs rs := by
  have k : Ck wr w4 G c R L' (fun i => Since G wr i ∧ i < w4.heap.size) := by
    obtain ⟨mb, v, hM, hF⟩ := hm
    exact ⟨⟨mb, v, hM, fun i hi => ⟨hF i hi, hM.own_lt hi⟩⟩, fun i hi => ⟨hi.2, hi.1⟩, ht⟩
  exact h.step k
theorem LawC.new (h : LawC w wr F c R L G bs rs) {b : Nat} (hb : wr.heap.size = b) (cs : Array Value) (t : TypeId) : LawC w (wr.alloc (.cells cs t)) F c R L G (⟨b, cs, t⟩ :: bs) rs := by
  subst hb; exact ⟨h.wk.quiet (below_alloc1 _ _), h.hold.new cs t, fun z hz => by
    rcases List.mem_cons.1 hz with rfl | hz
    · exact h.size
    · exact h.low z hz⟩
theorem LawC.got (h : LawC w wr F c R L G bs rs) (hr : wr.ownsRow B e sz v k xs) (hv : ∀ i, v.ownBlock = some i → ¬ G i) : LawC w wr F c R L G bs (⟨e, sz, v, k, xs⟩ :: rs) := ⟨h.wk, h.hold.got hr hv, h.low⟩
theorem LawC.made (h : LawC w wr F c R L G bs rs) (hb : Below wr.heap.size wr w3) (hr : w3.ownsRow B e sz v k xs) (hB : wr.heap.size ≤ B) : LawC w w3 F c R L G bs (⟨e, sz, v, k, xs⟩ :: rs) :=
  (h.quiet hb).got hr fun i hi hg => by have := h.hold.lt i hg; have := (own_lt hr hi).1; omega
theorem LawC.at_ (h : LawC w wr F c R L G bs rs) (k : Nat) {b : Nat} {cs : Array Value} {t : TypeId} (hk : bs[k]? = some ⟨b, cs, t⟩) : Blk wr b cs t := h.hold.at_ k hk
theorem LawC.no (h : LawC w wr F c R L G bs rs) (k : Nat) {b : Nat} {cs : Array Value} {t : TypeId} (hk : bs[k]? = some ⟨b, cs, t⟩) : ¬ G b := h.hold.no k hk
theorem LawC.of_ (h : LawC w wr F c R L G bs rs) (k : Nat) {e : TypeId} {sz n : Nat} {v : Value} {xs : List Value} (hk : rs[k]? = some ⟨e, sz, v, n, xs⟩) : wr.ownsRow 0 e sz v n xs := h.hold.of_ k hk
theorem LawC.off (h : LawC w wr F c R L G bs rs) (k : Nat) {e : TypeId} {sz n : Nat} {v : Value} {xs : List Value} (hk : rs[k]? = some ⟨e, sz, v, n, xs⟩) : ∀ i, v.ownBlock = some i → ¬ G i := h.hold.off k hk
theorem LawC.put (h : LawC w wr F c R L G bs rs) (k : Nat) {b : Nat} {cs cs' : Array Value} {t : TypeId} (hk : bs[k]? = some ⟨b, cs, t⟩) (ht : Turn (fun i => i = b) wr w3) (hb : Blk w3 b cs' t) (hr : rs.all (fun r => r.e != t) = true := by rfl) : LawC w w3 F c R L G (bs.set k ⟨b, cs', t⟩) rs :=
  ⟨h.wk.set ht (h.hold.no k hk) (h.low _ (List.mem_of_getElem? hk)), h.hold.put k hk ht hb hr, fun z hz => by
    rcases List.mem_or_eq_of_mem_set hz with hz | rfl
    · exact h.low z hz
    · exact h.low ⟨b, cs, t⟩ (List.mem_of_getElem? hk)⟩
theorem LawC.pick (h : LawC w wr F c R L G bs rs) (l k : List Nat) (hl : l.Nodup := by decide) : LawC w wr F c R L G (l.filterMap fun i => bs[i]?) (k.filterMap fun i => rs[i]?) := ⟨h.wk, h.hold.pick l k hl, fun z hz => by
    obtain ⟨i, _, hi⟩ := List.mem_filterMap.1 hz
    exact h.low z (List.mem_of_getElem? hi)⟩
theorem LawC.out (h : LawC w wr F c R L G bs rs) : Cac wr (Since F w) c R L ∧ Turn F w wr := h.wk.out
end
end Go.Proofs.YtiihhlmddmicjaaDoor
