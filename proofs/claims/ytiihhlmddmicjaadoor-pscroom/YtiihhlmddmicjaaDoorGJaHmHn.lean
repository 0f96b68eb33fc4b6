/- Several texts of ours in one: Ja, Hm, Hn. -/
import Derived.Test.YtiihhlmddmicjaaDoorGRjBxCc
import Derived.Test.YtiihhlmddmicjaaDoorGHeHfHg
import Derived.Test.YtiihhlmddmicjaaDoorGEaHaGm
import Derived.Test.YtiihhlmddmicjaaDoorGVmRN
/- Objects that a call, or a law, holds apart from each other, and its boxes and rows beside them: one list, one step for each kind of turn. Nothing of the program. -/
namespace Go.Proofs.YtiihhlmddmicjaaDoor
set_option linter.unusedVariables false
set_option linter.unusedSimpArgs false
open Go.ChangeShapes Go.WideShapes Go.ChangeAt Go.RowKit Go.Joins

/-- what an object is: a property of a world and of the blocks that are its own -/
abbrev Thing := World → (Nat → Prop) → Prop
/-- it hangs on its own blocks alone -/
structure Firm (P : Thing) : Prop where
  same : ∀ {w w' : World} {G : Nat → Prop}, P w G → w.heap.size ≤ w'.heap.size → (∀ i, i < w.heap.size → G i → w'.heap[i]? = w.heap[i]?) → P w' G
  more : ∀ {w : World} {G G' : Nat → Prop}, P w G → (∀ i, i < w.heap.size → G i → G' i) → P w G'

def memT (m : Nat) (M : Int) (f : Int → Int) (tr : List Int) (n : Nat) : Thing := fun w G => Mem w G m M f tr n
def cacT (c R : Nat) (L : List Pr) : Thing := fun w G => Cac w G c R L
theorem firm_mem (m : Nat) (M : Int) (f : Int → Int) (tr : List Int) (n : Nat) : Firm (memT m M f tr n) :=
  ⟨fun h _ he => by obtain ⟨mb, v, D, hM, hF⟩ := h; exact ⟨mb, v, D, hM.same fun i hi => he i (hM.own_lt hi) (hF i hi), hF⟩,
   fun h hG => by obtain ⟨mb, v, D, hM, hF⟩ := h; exact ⟨mb, v, D, hM, fun i hi => hG i (hM.own_lt hi) (hF i hi)⟩⟩
theorem firm_cac (c R : Nat) (L : List Pr) : Firm (cacT c R L) :=
  ⟨fun h _ he => by obtain ⟨mb, v, hM, hF⟩ := h; exact ⟨mb, v, hM.same fun i hi => he i (hM.own_lt hi) (hF i hi), hF⟩,
   fun h hG => by obtain ⟨mb, v, hM, hF⟩ := h; exact ⟨mb, v, hM, fun i hi => hG i (hM.own_lt hi) (hF i hi)⟩⟩

structure ObjT where
  P : Thing
  G : Nat → Prop

/-- objects os, each in blocks of F or new since w, apart; boxes bs and rows rs that are none of theirs; nothing but F was turned since w -/
structure Has (w wr : World) (F : Nat → Prop) (os : List ObjT) (bs : List BoxD) (rs : List RowD) : Prop where
  obj : ∀ o ∈ os, Firm o.P ∧ o.P wr o.G ∧ ∀ i, o.G i → i < wr.heap.size ∧ (F i ∨ w.heap.size ≤ i)
  apart : os.Pairwise fun o p => ∀ i, o.G i → ¬ p.G i
  hold : Hold wr (fun i => ∃ o ∈ os, o.G i) bs rs
  low : ∀ z ∈ bs, w.heap.size ≤ z.b
  turn : Turn F w wr

section
variable {w wr w1 w3 w4 : World} {F G G' : Nat → Prop} {P P' : Thing} {os ns : List ObjT} {bs : List BoxD} {rs : List RowD} {k B n sz : Nat} {e : TypeId} {v : Value} {xs : List Value}

theorem Has.start0 (w : World) (F : Nat → Prop) : Has w w F [] [] [] := ⟨by simp, by simp, Hold.nil _ _ (by simp), by simp, Turn.refl _ _⟩
/-- a call over an object of others' begins -/
theorem Has.start (hf : Firm P) (h : P w F) : Has w w F [⟨P, fun i => F i ∧ i < w.heap.size⟩] [] [] :=
  ⟨fun o ho => by
    obtain rfl := List.mem_singleton.1 ho
    exact ⟨hf, hf.more h fun i hi hF => ⟨hF, hi⟩, fun i hi => ⟨hi.2, Or.inl hi.1⟩⟩, by simp, Hold.nil _ _ fun i ⟨o, ho, hg⟩ => by
    obtain rfl := List.mem_singleton.1 ho
    exact hg.2, by simp, Turn.refl _ _⟩
theorem Has.world (h : Has w wr F os bs rs) (e : wr = w3) : Has w w3 F os bs rs := e ▸ h
theorem Has.size (h : Has w wr F os bs rs) : w.heap.size ≤ wr.heap.size := h.turn.size
theorem Has.below0 (h : Has w wr (fun _ => False) os bs rs) : Below w.heap.size w wr := h.turn.below (fun _ hi => hi.elim) (Nat.le_refl _)
theorem Has.below (h : Has w wr (From w.heap.size) os bs rs) : Below w.heap.size w wr := h.turn.below (fun _ hi => hi) (Nat.le_refl _)
theorem Has.quiet (h : Has w wr F os bs rs) (hb : Below wr.heap.size wr w3) : Has w w3 F os bs rs :=
  ⟨fun o ho => by
    obtain ⟨h1, h2, h3⟩ := h.obj o ho
    exact ⟨h1, h1.same h2 hb.size fun i hi _ => hb.block i hi, fun i hi => ⟨Nat.lt_of_lt_of_le (h3 i hi).1 hb.size, (h3 i hi).2⟩⟩, h.apart, h.hold.quiet hb, h.low, h.turn.trans (Turn.of_kept _ hb)⟩
theorem Has.new (h : Has w wr F os bs rs) {b : Nat} (hb : wr.heap.size = b) (cs : Array Value) (t : TypeId) : Has w (wr.alloc (.cells cs t)) F os (⟨b, cs, t⟩ :: bs) rs := by
  have hq := h.quiet (below_alloc1 wr (.cells cs t))
  subst hb
  exact ⟨hq.obj, hq.apart, h.hold.new cs t, fun z hz => by
    rcases List.mem_cons.1 hz with rfl | hz
    · exact h.size
    · exact h.low z hz, hq.turn⟩
theorem Has.got (h : Has w wr F os bs rs) (hr : wr.ownsRow B e sz v n xs) (hv : ∀ i, v.ownBlock = some i → ¬ ∃ o ∈ os, o.G i) : Has w wr F os bs (⟨e, sz, v, n, xs⟩ :: rs) :=
  ⟨h.obj, h.apart, h.hold.got hr hv, h.low, h.turn⟩
theorem Has.at_ (h : Has w wr F os bs rs) (k : Nat) {b : Nat} {cs : Array Value} {t : TypeId} (hk : bs[k]? = some ⟨b, cs, t⟩) : Blk wr b cs t := h.hold.at_ k hk
theorem Has.no (h : Has w wr F os bs rs) (k : Nat) {b : Nat} {cs : Array Value} {t : TypeId} (hk : bs[k]? = some ⟨b, cs, t⟩) : ¬ ∃ o ∈ os, o.G b := h.hold.no k hk
theorem Has.of_ (h : Has w wr F os bs rs) (k : Nat) {e : TypeId} {sz n : Nat} {v : Value} {xs : List Value} (hk : rs[k]? = some ⟨e, sz, v, n, xs⟩) : wr.ownsRow 0 e sz v n xs := h.hold.of_ k hk
theorem Has.off (h : Has w wr F os bs rs) (k : Nat) {e : TypeId} {sz n : Nat} {v : Value} {xs : List Value} (hk : rs[k]? = some ⟨e, sz, v, n, xs⟩) : ∀ i, v.ownBlock = some i → ¬ ∃ o ∈ os, o.G i := h.hold.off k hk
/-- the object at a place -/
theorem Has.the (h : Has w wr F os bs rs) (k : Nat) (hk : os[k]? = some ⟨P, G⟩) : P wr G := (h.obj _ (List.mem_of_getElem? hk)).2.1
theorem Has.foot (h : Has w wr F os bs rs) (k : Nat) (hk : os[k]? = some ⟨P, G⟩) : ∀ i, G i → i < wr.heap.size ∧ (F i ∨ w.heap.size ≤ i) := (h.obj _ (List.mem_of_getElem? hk)).2.2
theorem Has.firm (h : Has w wr F os bs rs) (k : Nat) (hk : os[k]? = some ⟨P, G⟩) : Firm P := (h.obj _ (List.mem_of_getElem? hk)).1
/-- what a call's contract says of its object -/
theorem Has.out (h : Has w wr F os bs rs) (k : Nat) (hk : os[k]? = some ⟨P, G⟩) : P wr (Since F w) ∧ Turn F w wr :=
  ⟨(h.firm k hk).more (h.the k hk) fun i _ hi => (h.foot k hk i hi).2, h.turn⟩
theorem Has.put (h : Has w wr F os bs rs) (k : Nat) {b : Nat} {cs cs' : Array Value} {t : TypeId} (hk : bs[k]? = some ⟨b, cs, t⟩) (ht : Turn (fun i => i = b) wr w3) (hb : Blk w3 b cs' t) (hr : rs.all (fun r => r.e != t) = true := by rfl) : Has w w3 F os (bs.set k ⟨b, cs', t⟩) rs :=
  ⟨fun o ho => by
    obtain ⟨h1, h2, h3⟩ := h.obj o ho
    exact ⟨h1, h1.same h2 ht.size fun i hi hg => ht.block i hi fun e => h.hold.no k hk ⟨o, ho, e ▸ hg⟩, fun i hi => ⟨Nat.lt_of_lt_of_le (h3 i hi).1 ht.size, (h3 i hi).2⟩⟩, h.apart, h.hold.put k hk ht hb hr, fun z hz => by
    rcases List.mem_or_eq_of_mem_set hz with hz | rfl
    · exact h.low z hz
    · exact h.low ⟨b, cs, t⟩ (List.mem_of_getElem? hk), h.turn.trans (ht.mono fun i _ e => Or.inr (by subst e; exact h.low ⟨i, cs, t⟩ (List.mem_of_getElem? hk)))⟩
theorem Has.pick (h : Has w wr F os bs rs) (l m : List Nat) (hl : l.Nodup := by decide) : Has w wr F os (l.filterMap fun i => bs[i]?) (m.filterMap fun i => rs[i]?) :=
  ⟨h.obj, h.apart, h.hold.pick l m hl, fun z hz => by
    obtain ⟨i, _, hi⟩ := List.mem_filterMap.1 hz
    exact h.low z (List.mem_of_getElem? hi), h.turn⟩

/-- a call over the object k turned it (and nothing else), and made others -/
theorem Has.call (h : Has w wr F os bs rs) (k : Nat) (hk : os[k]? = some ⟨P, G⟩) (g : Has wr w4 G (⟨P', G'⟩ :: ns) [] []) : Has w w4 F (os.set k ⟨P', G'⟩ ++ ns) bs rs := by
  have hG := h.foot k hk
  have hkl : k < os.length := by
    rcases Nat.lt_or_ge k os.length with h1 | h1
    · exact h1
    · rw [List.getElem?_eq_none h1] at hk; cases hk
  have hkk : os[k] = ⟨P, G⟩ := by rw [List.getElem?_eq_getElem hkl] at hk; exact Option.some.inj hk
  -- an old object but k's doesn't meet what the call has
  have hoff : ∀ j (hj : j < os.length), j ≠ k → ∀ i, os[j].G i → ¬ G i := fun j hj hne i hi hg => by
    have hp := List.pairwise_iff_getElem.1 h.apart
    rcases Nat.lt_or_gt_of_ne hne with h1 | h1
    · exact hp j k hj hkl h1 i hi (by rw [hkk]; exact hg)
    · exact hp k j hkl hj h1 i (by rw [hkk]; exact hg) hi
  have hfar : ∀ j (hj : j < os.length), j ≠ k → ∀ o ∈ (⟨P', G'⟩ :: ns : List ObjT), ∀ i, os[j].G i → ¬ o.G i := fun j hj hne o ho i hi hg => by
    rcases ((g.obj o ho).2.2 i hg).2 with h1 | h1
    · exact hoff j hj hne i hi h1
    · have := ((h.obj _ (List.getElem_mem hj)).2.2 i hi).1; omega
  have hin : ∀ o ∈ (⟨P', G'⟩ :: ns : List ObjT), ∀ i, o.G i → i < wr.heap.size → ∃ o ∈ os, o.G i := fun o ho i hi hl => by
    rcases ((g.obj o ho).2.2 i hi).2 with h1 | h1
    · exact ⟨_, List.mem_of_getElem? hk, h1⟩
    · omega
  have hmem : ∀ o ∈ os.set k ⟨P', G'⟩ ++ ns, o ∈ (⟨P', G'⟩ :: ns : List ObjT) ∨ ∃ j, ∃ hj : j < os.length, j ≠ k ∧ o = os[j] := fun o ho => by
    rcases List.mem_append.1 ho with ho | ho
    · obtain ⟨j, hj, ho⟩ := List.mem_iff_getElem.1 ho
      have hj' : j < os.length := by simpa using hj
      by_cases e : k = j
      · subst e; simp at ho; subst ho; exact Or.inl (List.mem_cons_self ..)
      · rw [List.getElem_set_ne e] at ho
        exact Or.inr ⟨j, hj', fun h => e h.symm, ho.symm⟩
    · exact Or.inl (List.mem_cons_of_mem _ ho)
  have hno : ∀ i, (∃ o ∈ os.set k ⟨P', G'⟩ ++ ns, o.G i) → i < wr.heap.size → ∃ o ∈ os, o.G i := fun i ⟨o, ho, hi⟩ hl => by
    rcases hmem o ho with h1 | ⟨j, hj, _, rfl⟩
    · exact hin o h1 i hi hl
    · exact ⟨_, List.getElem_mem hj, hi⟩
  have hbl : ∀ i, i < wr.heap.size → ¬ (∃ o ∈ os, o.G i) → w4.heap[i]? = wr.heap[i]? := fun i hi hn => g.turn.block i hi fun hg => hn ⟨_, List.mem_of_getElem? hk, hg⟩
  have htn : Turn (fun i => ∃ o ∈ os, o.G i) wr w4 := g.turn.mono fun i _ hg => ⟨_, List.mem_of_getElem? hk, hg⟩
  refine ⟨fun o ho => ?_, ?_, ⟨fun z hz => ?_, fun r hr => ?_, h.hold.once, fun i ⟨o, ho, hi⟩ => ?_⟩, h.low, h.turn.trans (g.turn.mono fun i _ hg => (hG i hg).2)⟩
  · rcases hmem o ho with h1 | ⟨j, hj, hne, rfl⟩
    · obtain ⟨a, b, c⟩ := g.obj o h1
      refine ⟨a, b, fun i hi => ⟨(c i hi).1, ?_⟩⟩
      rcases (c i hi).2 with h2 | h2
      · exact (hG i h2).2
      · exact Or.inr (Nat.le_trans h.size h2)
    · obtain ⟨a, b, c⟩ := h.obj _ (List.getElem_mem hj)
      exact ⟨a, a.same b g.turn.size fun i hi hg => g.turn.block i hi (hoff j hj hne i hg), fun i hi => ⟨Nat.lt_of_lt_of_le (c i hi).1 g.turn.size, (c i hi).2⟩⟩
  · have hg := List.pairwise_cons.1 g.apart
    refine List.pairwise_append.2 ⟨?_, hg.2, fun a ha b hb i hi => ?_⟩
    · refine List.pairwise_iff_getElem.2 fun i j hi hj hij x => ?_
      have hi' : i < os.length := by simpa using hi
      have hj' : j < os.length := by simpa using hj
      by_cases e1 : k = i
      · subst e1
        rw [List.getElem_set_self, List.getElem_set_ne (by omega)]
        exact fun hx hy => hfar j hj' (by omega) _ (List.mem_cons_self ..) x hy hx
      · rw [List.getElem_set_ne e1]
        by_cases e2 : k = j
        · subst e2
          rw [List.getElem_set_self]
          exact fun hx hy => hfar i hi' (by omega) _ (List.mem_cons_self ..) x hx hy
        · rw [List.getElem_set_ne e2]
          exact List.pairwise_iff_getElem.1 h.apart i j hi' hj' hij x
    · obtain ⟨j, hj, ha⟩ := List.mem_iff_getElem.1 ha
      have hj' : j < os.length := by simpa using hj
      by_cases e : k = j
      · subst e; simp at ha; subst ha; exact hg.1 b hb i hi
      · rw [List.getElem_set_ne e] at ha
        subst ha
        exact hfar j hj' (fun h => e h.symm) b (List.mem_cons_of_mem _ hb) i hi
  · exact ⟨(h.hold.box z hz).1.turn htn (h.hold.box z hz).2, fun hg => (h.hold.box z hz).2 (hno _ hg (h.hold.box z hz).1.lt)⟩
  · exact ⟨own_turn (h.hold.row r hr).1 htn (h.hold.row r hr).2, fun i hi hg => (h.hold.row r hr).2 i hi (hno _ hg (own_lt (h.hold.row r hr).1 hi).2)⟩
  · rcases hmem o ho with h1 | ⟨j, hj, _, rfl⟩
    · exact ((g.obj o h1).2.2 i hi).1
    · exact Nat.lt_of_lt_of_le ((h.obj _ (List.getElem_mem hj)).2.2 i hi).1 g.turn.size

/-- .. made none -/
theorem Has.did (h : Has w wr F os bs rs) (k : Nat) (hk : os[k]? = some ⟨P, G⟩) (hf : Firm P') (hm : P' w4 (Since G wr)) (ht : Turn G wr w4) : Has w w4 F (os.set k ⟨P', fun i => Since G wr i ∧ i < w4.heap.size⟩) bs rs := by
  have := h.call (P' := P') (G' := fun i => Since G wr i ∧ i < w4.heap.size) (ns := []) k hk ⟨fun o ho => by
    obtain rfl := List.mem_singleton.1 ho
    exact ⟨hf, hf.more hm fun i hi hg => ⟨hg, hi⟩, fun i hi => ⟨hi.2, hi.1⟩⟩, by simp, Hold.nil _ _ (fun i ⟨o, ho, hg⟩ => by
    obtain rfl := List.mem_singleton.1 ho
    exact hg.2), by simp, ht⟩
  simpa using this
/-- a call that turned nothing made objects -/
theorem Has.join (h : Has w wr F os bs rs) (g : Has wr w4 (fun _ => False) ns [] []) : Has w w4 F (os ++ ns) bs rs := by
  have hq := h.quiet g.below0
  have hge : ∀ o ∈ ns, ∀ i, o.G i → wr.heap.size ≤ i := fun o ho i hi => by
    rcases ((g.obj o ho).2.2 i hi).2 with h1 | h1
    · exact h1.elim
    · exact h1
  refine ⟨fun o ho => ?_, List.pairwise_append.2 ⟨hq.apart, g.apart, fun a ha b hb i hi hj => ?_⟩, ⟨fun z hz => ⟨(hq.hold.box z hz).1, ?_⟩, fun r hr => ⟨(hq.hold.row r hr).1, fun i hi => ?_⟩, hq.hold.once, fun i ⟨o, ho, hi⟩ => ?_⟩, hq.low, hq.turn⟩
  · rcases List.mem_append.1 ho with ho | ho
    · exact hq.obj o ho
    · obtain ⟨a, b, c⟩ := g.obj o ho
      exact ⟨a, b, fun i hi => ⟨(c i hi).1, Or.inr (Nat.le_trans h.size (hge o ho i hi))⟩⟩
  · have h1 := ((h.obj a ha).2.2 i hi).1
    have h2 := hge b hb i hj
    omega
  · rintro ⟨o, ho, hg⟩
    rcases List.mem_append.1 ho with ho | ho
    · exact (hq.hold.box z hz).2 ⟨o, ho, hg⟩
    · have h1 := (h.hold.box z hz).1.lt
      have h2 := hge o ho _ hg
      omega
  · rintro ⟨o, ho, hg⟩
    rcases List.mem_append.1 ho with ho | ho
    · exact (hq.hold.row r hr).2 i hi ⟨o, ho, hg⟩
    · have h1 := (own_lt (h.hold.row r hr).1 hi).2
      have h2 := hge o ho _ hg
      omega
  · rcases List.mem_append.1 ho with ho | ho
    · exact ((hq.obj o ho).2.2 i hi).1
    · exact ((g.obj o ho).2.2 i hi).1
/-- .. one -/
theorem Has.made (h : Has w wr F os bs rs) (hf : Firm P') (hm : P' w4 (From wr.heap.size)) (hb : Below wr.heap.size wr w4) : Has w w4 F (os ++ [⟨P', fun i => From wr.heap.size i ∧ i < w4.heap.size⟩]) bs rs :=
  h.join ⟨fun o ho => by
    obtain rfl := List.mem_singleton.1 ho
    exact ⟨hf, hf.more hm fun i hi hg => ⟨hg, hi⟩, fun i hi => ⟨hi.2, Or.inr hi.1⟩⟩, by simp, Hold.nil _ _ (fun i ⟨o, ho, hg⟩ => by
    obtain rfl := List.mem_singleton.1 ho
    exact hg.2), by simp, Turn.of_kept _ hb⟩
/-- the same blocks, said otherwise -/
theorem Has.same2 (h : Has w wr F os bs rs) (k : Nat) (hk : os[k]? = some ⟨P, G⟩) (hf : Firm P') (hm : P' wr G) : Has w wr F (os.set k ⟨P', G⟩) bs rs := by
  have hkl : k < os.length := by
    rcases Nat.lt_or_ge k os.length with h1 | h1
    · exact h1
    · rw [List.getElem?_eq_none h1] at hk; cases hk
  have hkk : os[k] = ⟨P, G⟩ := by rw [List.getElem?_eq_getElem hkl] at hk; exact Option.some.inj hk
  have hG : ∀ j (hj : j < (os.set k ⟨P', G⟩).length), (os.set k ⟨P', G⟩)[j].G = (os[j]'(by simpa using hj)).G := fun j hj => by
    by_cases e : k = j
    · subst e; simp [hkk]
    · rw [List.getElem_set_ne e]
  have hmem : ∀ i, (∃ o ∈ os.set k ⟨P', G⟩, o.G i) ↔ ∃ o ∈ os, o.G i := fun i => by
    constructor
    · rintro ⟨o, ho, hi⟩
      obtain ⟨j, hj, rfl⟩ := List.mem_iff_getElem.1 ho
      rw [hG j hj] at hi
      exact ⟨_, List.getElem_mem _, hi⟩
    · rintro ⟨o, ho, hi⟩
      obtain ⟨j, hj, rfl⟩ := List.mem_iff_getElem.1 ho
      exact ⟨_, List.getElem_mem (n := j) (by simpa using hj), by rw [hG j (by simpa using hj)]; exact hi⟩
  refine ⟨fun o ho => ?_, ?_, ⟨fun z hz => ⟨(h.hold.box z hz).1, fun hg => (h.hold.box z hz).2 ((hmem _).1 hg)⟩, fun r hr => ⟨(h.hold.row r hr).1, fun i hi hg => (h.hold.row r hr).2 i hi ((hmem _).1 hg)⟩, h.hold.once, fun i hi => h.hold.lt i ((hmem _).1 hi)⟩, h.low, h.turn⟩
  · obtain ⟨j, hj, rfl⟩ := List.mem_iff_getElem.1 ho
    have hj' : j < os.length := by simpa using hj
    by_cases e : k = j
    · subst e
      rw [List.getElem_set_self]
      exact ⟨hf, hm, h.foot k hk⟩
    · rw [List.getElem_set_ne e]
      exact h.obj _ (List.getElem_mem hj')
  · refine List.pairwise_iff_getElem.2 fun i j hi hj hij x hx hy => ?_
    rw [hG i hi] at hx
    rw [hG j hj] at hy
    exact List.pairwise_iff_getElem.1 h.apart i j (by simpa using hi) (by simpa using hj) hij x hx hy
/-- a row that a call made -/
theorem Has.row (h : Has w wr F os bs rs) (hb : Below wr.heap.size wr w3) (hr : w3.ownsRow B e sz v n xs) (hB : wr.heap.size ≤ B) : Has w w3 F os bs (⟨e, sz, v, n, xs⟩ :: rs) :=
  (h.quiet hb).got hr fun i hi ⟨o, ho, hg⟩ => by
    have h1 := ((h.obj o ho).2.2 i hg).1
    have h2 := (own_lt hr hi).1
    omega
/-- the memory behind a walk -/
theorem Has.walked {m : Nat} {M : Int} {f : Int → Int} {tr : List Int} {n : Nat} (k : Wk wr w4 G m M f tr n G') : Has wr w4 G [⟨memT m M f tr n, G'⟩] [] [] :=
  ⟨fun o ho => by
    obtain rfl := List.mem_singleton.1 ho
    exact ⟨firm_mem _ _ _ _ _, k.mem, k.foot⟩, by simp, Hold.nil _ _ (fun i ⟨o, ho, hg⟩ => by
    obtain rfl := List.mem_singleton.1 ho
    exact (k.foot i hg).1), by simp, k.turn⟩
/-- the variable of shifts is none of theirs, and stands -/
theorem Has.no0 (h : Has w wr F os bs rs) (hs : Shifts w) (h0 : ¬ F 0) (k : Nat) (hk : os[k]? = some ⟨P, G⟩) : ¬ G 0 := fun hg => by
  rcases (h.foot k hk _ hg).2 with h1 | h1
  · exact h0 h1
  · have := size_shifts hs; omega
theorem Has.shifts (h : Has w wr F os bs rs) (hs : Shifts w) (h0 : ¬ F 0) : Shifts wr := shifts_turn hs h.turn h0
end
end Go.Proofs.YtiihhlmddmicjaaDoor
/- What is true of every walk: its levels, its words, why it ended. Nothing of the program. -/
namespace Go.Proofs.YtiihhlmddmicjaaDoor
set_option linter.unusedVariables false
set_option linter.unusedSimpArgs false

abbrev stepAt (S : List (Int × Int × Int)) (k : Nat) : Int × Int × Int := S.getD k (0, 0, 0)

theorem odd_bit {x : Int} (hx : W64 x) : bitF x 0 = decide (x % 2 = 1) := by
  have e := bit_nat hx (k := 0) (by decide)
  rw [show ((0 : Nat) : Int) = 0 from rfl] at e
  rw [e]
  unfold tb
  have h0 := hx.1
  rw [Nat.testBit_zero]
  by_cases h : x % 2 = 1
  · rw [decide_eq_true h, decide_eq_true (by omega)]
  · rw [decide_eq_false h, decide_eq_false (by omega)]

theorem bits16 {x : Int} (hx : W64 x) (h : hasF x (beyondF 16) = false) : tableF x < 65536 := by
  have e := has_get hx (lo := 16) (n := 36) (by decide) (by simpa [beyondF, lowB] using h)
  have h0 := hx.1
  have e' : x / 65536 % 68719476736 = 0 := by simpa using e
  unfold tableF
  omega

theorem res16 {x l : Int} {nxe : Bool} (hx : W64 x) (h : resF x l 16 nxe = false) : tableF x < 65536 := by
  apply bits16 hx
  unfold resF at h
  cases hh : hasF x (beyondF 16)
  · rfl
  · rw [hh] at h; simp at h

theorem frame_le (x l : Int) : 0 ≤ frameF x l ∧ frameF x l ≤ tableF x := by
  have h := table_bd x
  unfold frameF pageF
  split
  · have h1 : 0 ≤ lowF (tableF x) l ∧ lowF (tableF x) l ≤ tableF x := low_bd h.1 l
    omega
  · omega

theorem leaf4 {x : Int} : leafF x 4 = false := by unfold leafF; simp

structure Snd (f : Int → Int) (l : Int) (P : Pth) : Prop where
  len : (P.steps.length : Int) ≤ l
  lev : ∀ k, k < P.steps.length → (stepAt P.steps k).1 = l - k
  odd : ∀ k, k < P.steps.length → (stepAt P.steps k).2.2 % 2 = if k + 1 = P.steps.length ∧ P.why = 1 then 0 else 1
  off : P.why ≠ 0 → P.W = false ∧ P.U = false ∧ P.X = false ∧ P.lev = 0 ∧ P.fr = 0
  yes : P.why = 0 → P.lev = l + 1 - P.steps.length ∧ 1 ≤ P.lev ∧ P.lev ≤ 3 ∧ 0 ≤ P.fr ∧ P.fr < 65536
  kind : P.why = 0 ∨ P.why = 1 ∨ P.why = 2
  some : P.why ≠ 2 → 1 ≤ P.steps.length
  at_ : ∀ k, k < P.steps.length → errS 16 (stepAt P.steps k).2.1 = 0 ∧ (stepAt P.steps k).2.2 = f ((stepAt P.steps k).2.1 / 8) ∧ 0 ≤ (stepAt P.steps k).2.1

theorem snd_off2 (f : Int → Int) {l : Int} (hl : 0 ≤ l) : Snd f l (offP 2) :=
  ⟨hl, fun k hk => absurd hk (by simp [offP]), fun k hk => absurd hk (by simp [offP]), fun _ => ⟨rfl, rfl, rfl, rfl, rfl⟩, fun h => absurd h (by decide), Or.inr (Or.inr rfl), fun h => absurd rfl h, fun k hk => absurd hk (by simp [offP])⟩

section
variable {f : Int → Int} {l s x : Int} {Q : Pth}

theorem snd_cons (h : Snd f (l - 1) Q) (hx : x % 2 = 1) (he : errS 16 s = 0) (hs : 0 ≤ s) (hw : x = f (s / 8)) : Snd f l (preP [(l, s, x)] Q) := by
  have e : (preP [(l, s, x)] Q).steps.length = Q.steps.length + 1 := by simp [preP]
  have h0 : stepAt (preP [(l, s, x)] Q).steps 0 = (l, s, x) := rfl
  have hS : ∀ k, stepAt (preP [(l, s, x)] Q).steps (k + 1) = stepAt Q.steps k := fun k => by simp [preP, stepAt]
  refine ⟨?_, ?_, ?_, h.off, ?_, h.kind, ?_, ?_⟩
  · have := h.len; rw [e]; omega
  · intro k hk
    rcases k with _ | k
    · rw [h0]; simp
    · rw [hS]
      have := h.lev k (by omega)
      omega
  · intro k hk
    rcases k with _ | k
    · rw [h0, e]
      rw [if_neg]
      · exact hx
      · rintro ⟨h1, h2⟩
        have : 1 ≤ Q.steps.length := h.some (by rw [show Q.why = 1 from h2]; decide)
        omega
    · rw [hS, h.odd k (by omega), e]
      have : (k + 1 = Q.steps.length ∧ Q.why = 1) ↔ (k + 1 + 1 = Q.steps.length + 1 ∧ (preP [(l, s, x)] Q).why = 1) := by
        show _ ↔ (_ ∧ Q.why = 1)
        constructor <;> rintro ⟨a, b⟩ <;> exact ⟨by omega, b⟩
      by_cases c : k + 1 = Q.steps.length ∧ Q.why = 1
      · rw [if_pos c, if_pos (this.1 c)]
      · rw [if_neg c, if_neg (fun h => c (this.2 h))]
  · intro hy
    obtain ⟨a, b⟩ := h.yes hy
    refine ⟨?_, b⟩
    rw [e]
    show Q.lev = _
    rw [a]
    push_cast
    omega
  · intro _; rw [e]; omega
  · intro k hk
    rcases k with _ | k
    · rw [h0]; exact ⟨he, hw, hs⟩
    · rw [hS]; exact h.at_ k (by omega)

theorem snd_last {y : Int} {W U X : Bool} {lv fr : Int} (hl : 1 ≤ l) (hodd : x % 2 = if y = 1 then 0 else 1) (he : errS 16 s = 0) (hs : 0 ≤ s) (hw : x = f (s / 8)) (hy : y = 0 ∨ y = 1 ∨ y = 2)
    (hoff : y ≠ 0 → W = false ∧ U = false ∧ X = false ∧ lv = 0 ∧ fr = 0) (hyes : y = 0 → lv = l ∧ 1 ≤ lv ∧ lv ≤ 3 ∧ 0 ≤ fr ∧ fr < 65536) : Snd f l (preP [(l, s, x)] ⟨[], y, W, U, X, lv, fr⟩) := by
  have h0 : ∀ k, k < 1 → k = 0 := fun k hk => by omega
  refine ⟨by simpa [preP] using hl, ?_, ?_, hoff, ?_, hy, by simp [preP], ?_⟩
  · intro k hk
    obtain rfl := h0 k (by simpa [preP] using hk)
    simp [preP, stepAt]
  · intro k hk
    obtain rfl := h0 k (by simpa [preP] using hk)
    simpa [preP, stepAt] using hodd
  · intro h
    obtain ⟨a, b⟩ := hyes h
    refine ⟨?_, b⟩
    show lv = _
    simp [preP]
    omega
  · intro k hk
    obtain rfl := h0 k (by simpa [preP] using hk)
    exact ⟨he, hw, hs⟩
end

theorem walk_snd (f : Int → Int) (hw : ∀ s, W64 (f s)) (a : Int) (nxe : Bool) : ∀ (n : Nat), n ≤ 4 → ∀ (t : Int) (W U X : Bool), Snd f n (walkZ 16 f a nxe n t W U X)
  | 0, _, t, W, U, X => by
    rw [walk_off (by omega)]; exact snd_off2 f (by omega)
  | n + 1, hn, t, W, U, X => by
    rw [walk_in (by omega) (by omega)]
    by_cases he : errS 16 (slotF t a ((n + 1 : Nat) : Int)) = 0
    · rw [if_pos he]
      have hs := (slot_bd t a ((n + 1 : Nat) : Int)).1
      generalize slotF t a ((n + 1 : Nat) : Int) = s at *
      obtain ⟨x, hx⟩ : ∃ x, f (s / 8) = x := ⟨_, rfl⟩
      have hxw : W64 x := hx ▸ hw _
      rw [hx]
      cases hP : bitF x 0
      · rw [on_abs hP]
        rw [odd_bit hxw] at hP
        have : ¬ x % 2 = 1 := by simpa using hP
        have h0 := hxw.1
        exact snd_last (by omega) (by rw [if_pos rfl]; omega) he hs hx.symm (Or.inr (Or.inl rfl)) (fun _ => ⟨rfl, rfl, rfl, rfl, rfl⟩) (fun h => absurd h (by decide))
      · have hodd : x % 2 = 1 := by rw [odd_bit hxw] at hP; simpa using hP
        cases hR : resF x ((n + 1 : Nat) : Int) 16 nxe
        · cases hL : leafF x ((n + 1 : Nat) : Int)
          · rw [on_on hP hR hL, show (((n + 1 : Nat) : Int)) - 1 = (n : Int) by omega]
            refine snd_cons ?_ hodd he hs hx.symm
            rw [show (((n + 1 : Nat) : Int)) - 1 = (n : Int) by omega]
            exact walk_snd f hw a nxe n (by omega) _ _ _ _
          · rw [on_leaf hP hR hL]
            have h3 : n + 1 ≠ 4 := fun e => by rw [e] at hL; rw [show ((4 : Nat) : Int) = 4 from rfl, leaf4] at hL; cases hL
            have := frame_le x ((n + 1 : Nat) : Int)
            have := res16 hxw hR
            exact snd_last (by omega) (by rw [if_neg (by decide)]; exact hodd) he hs hx.symm (Or.inl rfl) (fun h => absurd rfl h) (fun _ => ⟨rfl, by omega, by omega, by omega, by omega⟩)
        · rw [on_res hP hR]
          exact snd_last (by omega) (by rw [if_neg (by decide)]; exact hodd) he hs hx.symm (Or.inr (Or.inr rfl)) (fun _ => ⟨rfl, rfl, rfl, rfl, rfl⟩) (fun h => absurd h (by decide))
    · rw [if_neg he]; exact snd_off2 f (by omega)

/-- a root's walk has a step -/
theorem root_step (f : Int → Int) (a : Int) (nxe : Bool) (r : Int) (h0 : 0 ≤ r) (h1 : r < 16) (W U X : Bool) : 1 ≤ (walkZ 16 f a nxe 4 (tableF (r * 4096)) W U X).steps.length := by
  have ht : tableF (tableF (r * 4096)) = r * 4096 := by rw [table_table]; unfold tableF; omega
  have hi := index_bd0 a 4
  have he : errS 16 (slotF (tableF (r * 4096)) a 4) = 0 := by
    have e : sizeM 16 = 65536 := by decide
    unfold errS slotF
    rw [ht, if_neg (by omega), if_pos (by omega)]
  rw [walk_in (by omega) (by omega), if_pos he]
  simp [preP]
end Go.Proofs.YtiihhlmddmicjaaDoor
/- A walk goes on from the place to which a step leads as the whole one does. Nothing of the program. -/
namespace Go.Proofs.YtiihhlmddmicjaaDoor
set_option linter.unusedVariables false
set_option linter.unusedSimpArgs false

/-- the rights behind the first k words -/
def rgtF : Bool → Bool → Bool → List (Int × Int × Int) → Nat → Bool × Bool × Bool
  | W, U, X, _, 0 => (W, U, X)
  | W, U, X, [], _ + 1 => (W, U, X)
  | W, U, X, p :: S, k + 1 => rgtF (W && bitF p.2.2 1) (U && bitF p.2.2 2) (X && !bitF p.2.2 63) S k

theorem rgt_step : ∀ (S : List (Int × Int × Int)) (k : Nat) (W U X : Bool), k < S.length →
    rgtF W U X S (k + 1) = ((rgtF W U X S k).1 && bitF (stepAt S k).2.2 1, (rgtF W U X S k).2.1 && bitF (stepAt S k).2.2 2, (rgtF W U X S k).2.2 && !bitF (stepAt S k).2.2 63)
  | [], k, W, U, X, h => by simp at h
  | p :: S, 0, W, U, X, _ => by simp [rgtF, stepAt]
  | p :: S, k + 1, W, U, X, h => by
    have := rgt_step S k (W && bitF p.2.2 1) (U && bitF p.2.2 2) (X && !bitF p.2.2 63) (by simpa using h)
    simpa [rgtF, stepAt] using this

end Go.Proofs.YtiihhlmddmicjaaDoor
