/- Several texts of ours in one: Ja, Hm, Hn. -/
import Derived.Test.YtddbjbdhbeijjaaDoorGCcHdSm
import Derived.Test.YtddbjbdhbeijjaaDoorGHeHfHg
import Derived.Test.YtddbjbdhbeijjaaDoorGHaRgHb
import Derived.Test.YtddbjbdhbeijjaaDoorGVmRN
/- Objects that a call, or a law, holds apart from each other, and its boxes and rows beside them: one list, one step for each kind of turn. Nothing of the program. -/
namespace Go.Proofs.YtddbjbdhbeijjaaDoor
set_option linter.unusedVariables false
set_option linter.unusedSimpArgs false
open Go.ChangeShapes Go.WideShapes Go.ChangeAt Go.RowKit Go.Joins

/-- what an object is: a property of a world and of the blocks that are its own -/
abbrev Thing := World → (Nat → Prop) → Prop
/-- it hangs on its own blocks alone -/
structure Firm (P : Thing) : Prop where
  same : ∀ {w w' : World} {G : Nat → Prop}, P w G → w.heap.size ≤ w'.heap.size → (∀ i, i < w.heap.size → G i → w'.heap[i]? = w.heap[i]?) → P w' G
  more : ∀ {w : World} {G G' : Nat → Prop}, P w G → (∀ i, i < w.heap.size → G i → G' i) → P w G'

def cacT (c R : Nat) (L : List Pr) : Thing := fun w G => Cac w G c R L
theorem firm_cac (c R : Nat) (L : List Pr) : Firm (cacT c R L) :=
  ⟨fun h _ he => by obtain ⟨mb, v, hM, hF⟩ := h; exact ⟨mb, v, hM.same fun i hi => he i (hM.own_lt hi) (hF i hi), hF⟩,
   fun h hG => by obtain ⟨mb, v, hM, hF⟩ := h; exact ⟨mb, v, hM, fun i hi => hG i (hM.own_lt hi) (hF i hi)⟩⟩

structure ObjT where
  P : Thing
  G : Nat → Prop

/-- objects os, each in blocks of F or new since w, apart; boxes bs and rows rs that are none of theirs; nothing but F was turned since w -/
structure Has (w wr : World) (F : Nat → Prop) (os : List ObjT) (bs : List BoxD) (rs : List RowD) : Prop where
  obj : ∀ o ∈ os, Firm o.P ∧ o.P wr o.G ∧ ∀ i, o.G i → i < wr.heap.size ∧ (F i ∨ w.heap.size ≤ i)
  apart : os.Pairwise fun o p => ∀ i, o.G i → ¬ p.G i
  hold : Hold wr (fun i => ∃ o ∈ os, o.G i) bs rs
  low : ∀ z ∈ bs, w.heap.size ≤ z.b
  turn : Turn F w wr

section
variable {w wr w1 w3 w4 : World} {F G G' : Nat → Prop} {P P' : Thing} {os ns : List ObjT} {bs : List BoxD} {rs : List RowD} {k B n sz : Nat} {e : TypeId} {v : Value} {xs : List Value}

theorem Has.start0 (w : World) (F : Nat → Prop) : Has w w F [] [] [] := ⟨by simp, by simp, Hold.nil _ _ (by simp), by simp, Turn.refl _ _⟩
/-- a call over an object of others' begins -/
theorem Has.start (hf : Firm P) (h : P w F) : Has w w F [⟨P, fun i => F i ∧ i < w.heap.size⟩] [] [] :=
  ⟨fun o ho => by
    obtain rfl := List.mem_singleton.1 ho
    exact ⟨hf, hf.more h fun i hi hF => ⟨hF, hi⟩, fun i hi => ⟨hi.2, Or.inl hi.1⟩⟩, by simp, Hold.nil _ _ fun i ⟨o, ho, hg⟩ => by
    obtain rfl := List.mem_singleton.1 ho
    exact hg.2, by simp, Turn.refl _ _⟩
theorem Has.world (h : Has w wr F os bs rs) (e : wr = w3) : Has w w3 F os bs rs := e ▸ h
theorem Has.size (h : Has w wr F os bs rs) : w.heap.size ≤ wr.heap.size := h.turn.size
theorem Has.below0 (h : Has w wr (fun _ => False) os bs rs) : Below w.heap.size w wr := h.turn.below (fun _ hi => hi.elim) (Nat.le_refl _)
theorem Has.below (h : Has w wr (From w.heap.size) os bs rs) : Below w.heap.size w wr := h.turn.below (fun _ hi => hi) (Nat.le_refl _)
theorem Has.quiet (h : Has w wr F os bs rs) (hb : Below wr.heap.size wr w3) : Has w w3 F os bs rs :=
  ⟨fun o ho => by
    obtain ⟨h1, h2, h3⟩ := h.obj o ho
    exact ⟨h1, h1.same h2 hb.size fun i hi _ => hb.block i hi, fun i hi => ⟨Nat.lt_of_lt_of_le (h3 i hi).1 hb.size, (h3 i hi).2⟩⟩, h.apart, h.hold.quiet hb, h.low, h.turn.trans (Turn.of_kept _ hb)⟩
theorem Has.new (h : Has w wr F os bs rs) {b : Nat} (hb : wr.heap.size = b) (cs : Array Value) (t : TypeId) : Has w (wr.alloc (.cells cs t)) F os (⟨b, cs, t⟩ :: bs) rs := by
  have hq := h.quiet (below_alloc1 wr (.cells cs t))
  subst hb
  exact ⟨hq.obj, hq.apart, h.hold.new cs t, fun z hz => by
    rcases List.mem_cons.1 hz with rfl | hz
    · exact h.size
    · exact h.low z hz, hq.turn⟩
theorem Has.got (h : Has w wr F os bs rs) (hr : wr.ownsRow B e sz v n xs) (hv : ∀ i, v.ownBlock = some i → ¬ ∃ o ∈ os, o.G i) : Has w wr F os bs (⟨e, sz, v, n, xs⟩ :: rs) :=
  ⟨h.obj, h.apart, h.hold.got hr hv, h.low, h.turn⟩
theorem Has.at_ (h : Has w wr F os bs rs) (k : Nat) {b : Nat} {cs : Array Value} {t : TypeId} (hk : bs[k]? = some ⟨b, cs, t⟩) : Blk wr b cs t := h.hold.at_ k hk
theorem Has.no (h : Has w wr F os bs rs) (k : Nat) {b : Nat} {cs : Array Value} {t : TypeId} (hk : bs[k]? = some ⟨b, cs, t⟩) : ¬ ∃ o ∈ os, o.G b := h.hold.no k hk
theorem Has.of_ (h : Has w wr F os bs rs) (k : Nat) {e : TypeId} {sz n : Nat} {v : Value} {xs : List Value} (hk : rs[k]? = some ⟨e, sz, v, n, xs⟩) : wr.ownsRow 0 e sz v n xs := h.hold.of_ k hk
theorem Has.off (h : Has w wr F os bs rs) (k : Nat) {e : TypeId} {sz n : Nat} {v : Value} {xs : List Value} (hk : rs[k]? = some ⟨e, sz, v, n, xs⟩) : ∀ i, v.ownBlock = some i → ¬ ∃ o ∈ os, o.G i := h.hold.off k hk
/-- the object at a place -/
theorem Has.the (h : Has w wr F os bs rs) (k : Nat) (hk : os[k]? = some ⟨P, G⟩) : P wr G := (h.obj _ (List.mem_of_getElem? hk)).2.1
theorem Has.foot (h : Has w wr F os bs rs) (k : Nat) (hk : os[k]? = some ⟨P, G⟩) : ∀ i, G i → i < wr.heap.size ∧ (F i ∨ w.heap.size ≤ i) := (h.obj _ (List.mem_of_getElem? hk)).2.2
theorem Has.firm (h : Has w wr F os bs rs) (k : Nat) (hk : os[k]? = some ⟨P, G⟩) : Firm P := (h.obj _ (List.mem_of_getElem? hk)).1
/-- what a call's contract says of its object -/
theorem Has.out (h : Has w wr F os bs rs) (k : Nat) (hk : os[k]? = some ⟨P, G⟩) : P wr (Since F w) ∧ Turn F w wr :=
  ⟨(h.firm k hk).more (h.the k hk) fun i _ hi => (h.foot k hk i hi).2, h.turn⟩
theorem Has.put (h : Has w wr F os bs rs) (k : Nat) {b : Nat} {cs cs' : Array Value} {t : TypeId} (hk : bs[k]? = some ⟨b, cs, t⟩) (ht : Turn (fun i => i = b) wr w3) (hb : Blk w3 b cs' t) (hr : rs.all (fun r => r.e != t) = true := by rfl) : Has w w3 F os (bs.set k ⟨b, cs', t⟩) rs :=
  ⟨fun o ho => by
    obtain ⟨h1, h2, h3⟩ := h.obj o ho
    exact ⟨h1, h1.same h2 ht.size fun i hi hg => ht.block i hi fun e => h.hold.no k hk ⟨o, ho, e ▸ hg⟩, fun i hi => ⟨Nat.lt_of_lt_of_le (h3 i hi).1 ht.size, (h3 i hi).2⟩⟩, h.apart, h.hold.put k hk ht hb hr, fun z hz => by
    rcases List.mem_or_eq_of_mem_set hz with hz | rfl
    · exact h.low z hz
    · exact h.low ⟨b, cs, t⟩ (List.mem_of_getElem? hk), h.turn.trans (ht.mono fun i _ e => Or.inr (by subst e; exact h.low ⟨i, cs, t⟩ (List.mem_of_getElem? hk)))⟩
theorem Has.pick (h : Has w wr F os bs rs) (l m : List Nat) (hl : l.Nodup := by decide) : Has w wr F os (l.filterMap fun i => bs[i]?) (m.filterMap fun i => rs[i]?) :=
  ⟨h.obj, h.apart, h.hold.pick l m hl, fun z hz => by
    obtain ⟨i, _, hi⟩ := List.mem_filterMap.1 hz
    exact h.low z (List.mem_of_getElem? hi), h.turn⟩

/-- a call over the object k turned it (and nothing else), and made others -/
theorem Has.call (h : Has w wr F os bs rs) (k : Nat) (hk : os[k]? = some ⟨P, G⟩) (g : Has wr w4 G (⟨P', G'⟩ :: ns) [] []) : Has w w4 F (os.set k ⟨P', G'⟩ ++ ns) bs rs := by
  have hG := h.foot k hk
  have hkl : k < os.length := by
    rcases Nat.lt_or_ge k os.length with h1 | h1
    · exact h1
    · rw [List.getElem?_eq_none h1] at hk; cases hk
  have hkk : os[k] = ⟨P, G⟩ := by rw [List.getElem?_eq_getElem hkl] at hk; exact Option.some.inj hk
  -- an old object but k's doesn't meet what the call has
  have hoff : ∀ j (hj : j < os.length), j ≠ k → ∀ i, os[j].G i → ¬ G i := fun j hj hne i hi hg => by
    have hp := List.pairwise_iff_getElem.1 h.apart
    rcases Nat.lt_or_gt_of_ne hne with h1 | h1
    · exact hp j k hj hkl h1 i hi (by rw [hkk]; exact hg)
    · exact hp k j hkl hj h1 i (by rw [hkk]; exact hg) hi
  have hfar : ∀ j (hj : j < os.length), j ≠ k → ∀ o ∈ (⟨P', G'⟩ :: ns : List ObjT), ∀ i, os[j].G i → ¬ o.G i := fun j hj hne o ho i hi hg => by
    rcases ((g.obj o ho).2.2 i hg).2 with h1 | h1
    · exact hoff j hj hne i hi h1
    · have := ((h.obj _ (List.getElem_mem hj)).2.2 i hi).1; omega
  have hin : ∀ o ∈ (⟨P', G'⟩ :: ns : List ObjT), ∀ i, o.G i → i < wr.heap.size → ∃ o ∈ os, o.G i := fun o ho i hi hl => by
    rcases ((g.obj o ho).2.2 i hi).2 with h1 | h1
    · exact ⟨_, List.mem_of_getElem? hk, h1⟩
    · omega
  have hmem : ∀ o ∈ os.set k ⟨P', G'⟩ ++ ns, o ∈ (⟨P', G'⟩ :: ns : List ObjT) ∨ ∃ j, ∃ hj : j < os.length, j ≠ k ∧ o = os[j] := fun o ho => by
    rcases List.mem_append.1 ho with ho | ho
    · obtain ⟨j, hj, ho⟩ := List.mem_iff_getElem.1 ho
      have hj' : j < os.length := by simpa using hj
      by_cases e : k = j
      · subst e; simp at ho; subst ho; exact Or.inl (List.mem_cons_self ..)
      · rw [List.getElem_set_ne e] at ho
        exact Or.inr ⟨j, hj', fun h => e h.symm, ho.symm⟩
    · exact Or.inl (List.mem_cons_of_mem _ ho)
  have hno : ∀ i, (∃ o ∈ os.set k ⟨P', G'⟩ ++ ns, o.G i) → i < wr.heap.size → ∃ o ∈ os, o.G i := fun i ⟨o, ho, hi⟩ hl => by
    rcases hmem o ho with h1 | ⟨j, hj, _, rfl⟩
    · exact hin o h1 i hi hl
    · exact ⟨_, List.getElem_mem hj, hi⟩
  have hbl : ∀ i, i < wr.heap.size → ¬ (∃ o ∈ os, o.G i) → w4.heap[i]? = wr.heap[i]? := fun i hi hn => g.turn.block i hi fun hg => hn ⟨_, List.mem_of_getElem? hk, hg⟩
  have htn : Turn (fun i => ∃ o ∈ os, o.G i) wr w4 := g.turn.mono fun i _ hg => ⟨_, List.mem_of_getElem? hk, hg⟩
  refine ⟨fun o ho => ?_, ?_, ⟨fun z hz => ?_, fun r hr => ?_, h.hold.once, fun i ⟨o, ho, hi⟩ => ?_⟩, h.low, h.turn.trans (g.turn.mono fun i _ hg => (hG i hg).2)⟩
  · rcases hmem o ho with h1 | ⟨j, hj, hne, rfl⟩
    · obtain ⟨a, b, c⟩ := g.obj o h1
      refine ⟨a, b, fun i hi => ⟨(c i hi).1, ?_⟩⟩
      rcases (c i hi).2 with h2 | h2
      · exact (hG i h2).2
      · exact Or.inr (Nat.le_trans h.size h2)
    · obtain ⟨a, b, c⟩ := h.obj _ (List.getElem_mem hj)
      exact ⟨a, a.same b g.turn.size fun i hi hg => g.turn.block i hi (hoff j hj hne i hg), fun i hi => ⟨Nat.lt_of_lt_of_le (c i hi).1 g.turn.size, (c i hi).2⟩⟩
  · have hg := List.pairwise_cons.1 g.apart
    refine List.pairwise_append.2 ⟨?_, hg.2, fun a ha b hb i hi => ?_⟩
    · refine List.pairwise_iff_getElem.2 fun i j hi hj hij x => ?_
      have hi' : i < os.length := by simpa using hi
      have hj' : j < os.length := by simpa using hj
      by_cases e1 : k = i
      · subst e1
        rw [List.getElem_set_self, List.getElem_set_ne (by omega)]
        exact fun hx hy => hfar j hj' (by omega) _ (List.mem_cons_self ..) x hy hx
      · rw [List.getElem_set_ne e1]
        by_cases e2 : k = j
        · subst e2
          rw [List.getElem_set_self]
          exact fun hx hy => hfar i hi' (by omega) _ (List.mem_cons_self ..) x hx hy
        · rw [List.getElem_set_ne e2]
          exact List.pairwise_iff_getElem.1 h.apart i j hi' hj' hij x
    · obtain ⟨j, hj, ha⟩ := List.mem_iff_getElem.1 ha
      have hj' : j < os.length := by simpa using hj
      by_cases e : k = j
      · subst e; simp at ha; subst ha; exact hg.1 b hb i hi
      · rw [List.getElem_set_ne e] at ha
        subst ha
        exact hfar j hj' (fun h => e h.symm) b (List.mem_cons_of_mem _ hb) i hi
  · exact ⟨(h.hold.box z hz).1.turn htn (h.hold.box z hz).2, fun hg => (h.hold.box z hz).2 (hno _ hg (h.hold.box z hz).1.lt)⟩
  · exact ⟨own_turn (h.hold.row r hr).1 htn (h.hold.row r hr).2, fun i hi hg => (h.hold.row r hr).2 i hi (hno _ hg (own_lt (h.hold.row r hr).1 hi).2)⟩
  · rcases hmem o ho with h1 | ⟨j, hj, _, rfl⟩
    · exact ((g.obj o h1).2.2 i hi).1
    · exact Nat.lt_of_lt_of_le ((h.obj _ (List.getElem_mem hj)).2.2 i hi).1 g.turn.size

/-- .. made none -/
theorem Has.did (h : Has w wr F os bs rs) (k : Nat) (hk : os[k]? = some ⟨P, G⟩) (hf : Firm P') (hm : P' w4 (Since G wr)) (ht : Turn G wr w4) : Has w w4 F (os.set k ⟨P', fun i => Since G wr i ∧ i < w4.heap.size⟩) bs rs := by
  have := h.call (P' := P') (G' := fun i => Since G wr i ∧ i < w4.heap.size) (ns := []) k hk ⟨fun o ho => by
    obtain rfl := List.mem_singleton.1 ho
    exact ⟨hf, hf.more hm fun i hi hg => ⟨hg, hi⟩, fun i hi => ⟨hi.2, hi.1⟩⟩, by simp, Hold.nil _ _ (fun i ⟨o, ho, hg⟩ => by
    obtain rfl := List.mem_singleton.1 ho
    exact hg.2), by simp, ht⟩
  simpa using this
/-- a call that turned nothing made objects -/
theorem Has.join (h : Has w wr F os bs rs) (g : Has wr w4 (fun _ => False) ns [] []) : Has w w4 F (os ++ ns) bs rs := by
  have hq := h.quiet g.below0
  have hge : ∀ o ∈ ns, ∀ i, o.G i → wr.heap.size ≤ i := fun o ho i hi => by
    rcases ((g.obj o ho).2.2 i hi).2 with h1 | h1
    · exact h1.elim
    · exact h1
  refine ⟨fun o ho => ?_, List.pairwise_append.2 ⟨hq.apart, g.apart, fun a ha b hb i hi hj => ?_⟩, ⟨fun z hz => ⟨(hq.hold.box z hz).1, ?_⟩, fun r hr => ⟨(hq.hold.row r hr).1, fun i hi => ?_⟩, hq.hold.once, fun i ⟨o, ho, hi⟩ => ?_⟩, hq.low, hq.turn⟩
  · rcases List.mem_append.1 ho with ho | ho
    · exact hq.obj o ho
    · obtain ⟨a, b, c⟩ := g.obj o ho
      exact ⟨a, b, fun i hi => ⟨(c i hi).1, Or.inr (Nat.le_trans h.size (hge o ho i hi))⟩⟩
  · have h1 := ((h.obj a ha).2.2 i hi).1
    have h2 := hge b hb i hj
    omega
  · rintro ⟨o, ho, hg⟩
    rcases List.mem_append.1 ho with ho | ho
    · exact (hq.hold.box z hz).2 ⟨o, ho, hg⟩
    · have h1 := (h.hold.box z hz).1.lt
      have h2 := hge o ho _ hg
      omega
  · rintro ⟨o, ho, hg⟩
    rcases List.mem_append.1 ho with ho | ho
    · exact (hq.hold.row r hr).2 i hi ⟨o, ho, hg⟩
    · have h1 := (own_lt (h.hold.row r hr).1 hi).2
      have h2 := hge o ho _ hg
      omega
  · rcases List.mem_append.1 ho with ho | ho
    · exact ((hq.obj o ho).2.2 i hi).1
    · exact ((g.obj o ho).2.2 i hi).1
/-- .. one -/
theorem Has.made (h : Has w wr F os bs rs) (hf : Firm P') (hm : P' w4 (From wr.heap.size)) (hb : Below wr.heap.size wr w4) : Has w w4 F (os ++ [⟨P', fun i => From wr.heap.size i ∧ i < w4.heap.size⟩]) bs rs :=
  h.join ⟨fun o ho => by
    obtain rfl := List.mem_singleton.1 ho
    exact ⟨hf, hf.more hm fun i hi hg => ⟨hg, hi⟩, fun i hi => ⟨hi.2, Or.inr hi.1⟩⟩, by simp, Hold.nil _ _ (fun i ⟨o, ho, hg⟩ => by
    obtain rfl := List.mem_singleton.1 ho
    exact hg.2), by simp, Turn.of_kept _ hb⟩
/-- a row that a call made -/
theorem Has.row (h : Has w wr F os bs rs) (hb : Below wr.heap.size wr w3) (hr : w3.ownsRow B e sz v n xs) (hB : wr.heap.size ≤ B) : Has w w3 F os bs (⟨e, sz, v, n, xs⟩ :: rs) :=
  (h.quiet hb).got hr fun i hi ⟨o, ho, hg⟩ => by
    have h1 := ((h.obj o ho).2.2 i hg).1
    have h2 := (own_lt hr hi).1
    omega
/-- the variable of shifts is none of theirs, and stands -/
theorem Has.no0 (h : Has w wr F os bs rs) (hs : Shifts w) (h0 : ¬ F 1) (k : Nat) (hk : os[k]? = some ⟨P, G⟩) : ¬ G 1 := fun hg => by
  rcases (h.foot k hk _ hg).2 with h1 | h1
  · exact h0 h1
  · have := size_shifts hs; omega
theorem Has.shifts (h : Has w wr F os bs rs) (hs : Shifts w) (h0 : ¬ F 1) : Shifts wr := shifts_turn hs h.turn h0
end
end Go.Proofs.YtddbjbdhbeijjaaDoor
/- What is true of every walk: its levels, its words, why it ended. Nothing of the program. -/
namespace Go.Proofs.YtddbjbdhbeijjaaDoor
set_option linter.unusedVariables false
set_option linter.unusedSimpArgs false

section
variable {f : Int → Int} {l s x : Int} {Q : Pth}

end

end Go.Proofs.YtddbjbdhbeijjaaDoor
/- A walk goes on from the place to which a step leads as the whole one does. Nothing of the program. -/
namespace Go.Proofs.YtddbjbdhbeijjaaDoor
set_option linter.unusedVariables false
set_option linter.unusedSimpArgs false

end Go.Proofs.YtddbjbdhbeijjaaDoor
