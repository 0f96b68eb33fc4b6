/- The document's slots: each once, rising; two lists of slots side by side. Nothing of the program. -/
import Derived.Test.YtfakfmefjfemhaaPl
import Derived.Test.YtfakfmefjfemhaaDh
namespace Go.Proofs.Ytfakfmefjfemhaa
set_option linter.unusedVariables false
set_option linter.unusedSimpArgs false
open Go.RowKit

def atL (L : List (Int × Int)) (j : Nat) : Int := (L.getD j (0, 0)).1

/-- each once, rising, each at a slot -/
structure Ris (L : List (Int × Int)) : Prop where
  up : L.Pairwise fun p q => p.1 < q.1
  al : ∀ p ∈ L, p.1 % 8 = 0 ∧ 0 ≤ p.1

theorem Ris.nil : Ris [] := ⟨List.Pairwise.nil, fun _ h => by simp at h⟩

structure RisTo (P : List (Int × Int)) (a : Int) (s : List (Int × Int) × Bool) : Prop where
  r1 : s.1.Pairwise fun p q => p.1 < q.1
  r2 : ∀ q ∈ s.1, q.1 = a ∨ ∃ p ∈ P, p.1 = q.1
  r3 : s.2 = false → ∀ q ∈ s.1, q.1 < a
  r4 : s.2 = true → ∃ p ∈ P, a < p.1

theorem RisTo.step {P : List (Int × Int)} {a x : Int} {s : List (Int × Int) × Bool} (h : RisTo P a s) (p : Int × Int) (hp : ∀ q ∈ P, q.1 < p.1) : RisTo (P ++ [p]) a (stepL a x s p) := by
  have sup : ∀ q : Int × Int, (∃ p ∈ P, p.1 = q.1) → ∃ p' ∈ P ++ [p], p'.1 = q.1 := fun q ⟨p', h1, h2⟩ => ⟨p', by simp [h1], h2⟩
  unfold stepL
  by_cases h1 : p.1 = a
  · rw [if_pos h1]
    exact ⟨h.r1, fun q hq => (h.r2 q hq).imp id (sup q), h.r3, fun e => by obtain ⟨p', h2, h3⟩ := h.r4 e; exact ⟨p', by simp [h2], h3⟩⟩
  · rw [if_neg h1]
    by_cases h2 : s.2 = false ∧ a < p.1
    · rw [if_pos h2]
      refine ⟨?_, fun q hq => ?_, fun e => by simp at e, fun _ => ⟨p, by simp, h2.2⟩⟩
      · refine List.pairwise_append.2 ⟨List.pairwise_append.2 ⟨h.r1, by simp, fun q hq r hr => ?_⟩, by simp, fun q hq r hr => ?_⟩
        · simp at hr; subst hr; exact h.r3 h2.1 q hq
        · simp at hr; subst hr
          rcases List.mem_append.1 hq with hq | hq
          · exact Int.lt_trans (h.r3 h2.1 q hq) h2.2
          · simp at hq; subst hq; exact h2.2
      · rcases List.mem_append.1 hq with hq | hq
        · rcases List.mem_append.1 hq with hq | hq
          · exact (h.r2 q hq).imp id (sup q)
          · simp at hq; subst hq; exact Or.inl rfl
        · simp at hq; subst hq; exact Or.inr ⟨q, by simp, rfl⟩
    · rw [if_neg h2]
      have hlt : ∀ q ∈ s.1, q.1 < p.1 := fun q hq => by
        rcases h.r2 q hq with e | ⟨p', hp', e⟩
        · cases hs : s.2 with
          | false => have := h.r3 hs q hq; omega
          | true => obtain ⟨p', h3, h4⟩ := h.r4 hs; have := hp p' h3; omega
        · have := hp p' hp'; omega
      refine ⟨List.pairwise_append.2 ⟨h.r1, by simp, fun q hq r hr => ?_⟩, fun q hq => ?_, fun e q hq => ?_, fun e => ?_⟩
      · simp at hr; subst hr; exact hlt q hq
      · rcases List.mem_append.1 hq with hq | hq
        · exact (h.r2 q hq).imp id (sup q)
        · simp at hq; subst hq; exact Or.inr ⟨q, by simp, rfl⟩
      · rcases List.mem_append.1 hq with hq | hq
        · exact h.r3 e q hq
        · simp at hq; subst hq
          have : ¬ a < q.1 := fun h3 => h2 ⟨e, h3⟩
          omega
      · obtain ⟨p', h3, h4⟩ := h.r4 e
        exact ⟨p', by simp [h3], h4⟩

theorem risTo_fold (a x : Int) : ∀ (Q P : List (Int × Int)) (s : List (Int × Int) × Bool), RisTo P a s → (P ++ Q).Pairwise (fun p q => p.1 < q.1) → RisTo (P ++ Q) a (Q.foldl (stepL a x) s)
  | [], P, s, h, _ => by simpa using h
  | q :: Q, P, s, h, hp => by
    have h1 : ∀ p ∈ P, p.1 < q.1 := fun p hpm => (List.pairwise_append.1 hp).2.2 p hpm q (by simp)
    have h2 := risTo_fold a x Q (P ++ [q]) (stepL a x s q) (h.step q h1) (by simpa using hp)
    simpa using h2

theorem Ris.set {L : List (Int × Int)} (h : Ris L) {a : Int} (ha : a % 8 = 0) (h0 : 0 ≤ a) (x : Int) : Ris (setL L a x) := by
  have h1 := risTo_fold a x L [] ([], false) ⟨List.Pairwise.nil, fun _ h => by simp at h, fun _ _ h => by simp at h, fun h => by simp at h⟩ (by simpa using h.up)
  have e : stL L a x L.length = L.foldl (stepL a x) ([], false) := by unfold stL; rw [List.take_length]
  rw [List.nil_append, ← e] at h1
  unfold setL
  have al : ∀ q ∈ (stL L a x L.length).1, q.1 % 8 = 0 ∧ 0 ≤ q.1 := fun q hq => by
    rcases h1.r2 q hq with e | ⟨p, hp, e⟩
    · rw [e]; exact ⟨ha, h0⟩
    · rw [← e]; exact h.al p hp
  by_cases hd : (stL L a x L.length).2 = true
  · rw [if_pos hd]; exact ⟨h1.r1, al⟩
  · rw [if_neg hd]
    have hd' : (stL L a x L.length).2 = false := by simpa using hd
    refine ⟨List.pairwise_append.2 ⟨h1.r1, by simp, fun q hq r hr => ?_⟩, fun q hq => ?_⟩
    · simp at hr; subst hr; exact h1.r3 hd' q hq
    · rcases List.mem_append.1 hq with hq | hq
      · exact al q hq
      · simp at hq; subst hq; exact ⟨ha, h0⟩

theorem Ris.pair {L : List (Int × Int)} (h : Ris L) (M : Int) (f : Int → Int) {k a x : Int} (ha : W64 a) : Ris (pairL M f L k a x) := by
  have h0 := ha.1
  unfold pairL putL storeL
  split
  · split
    · exact h
    · exact h.set (by omega) (by omega) _
  · split
    · split
      · rename_i he; exact h.set (errS_in he).2 h0 _
      · exact h
    · exact h

theorem ris_play (M : Int) (ds : List (Int × Int × Int)) (hok : DeedsOk ds) : ∀ k, k ≤ ds.length → Ris (playL M ds k)
  | 0, _ => Ris.nil
  | k + 1, hk => Ris.pair (ris_play M ds hok k (by omega)) M _ (hok k (by omega)).1

theorem Ris.lt {L : List (Int × Int)} (h : Ris L) {i j : Nat} (hij : i < j) (hj : j < L.length) : atL L i < atL L j := by
  have := List.pairwise_iff_getElem.1 h.up i j (by omega) hj hij
  unfold atL
  simpa [List.getD, List.getElem?_eq_getElem hj, List.getElem?_eq_getElem (show i < L.length by omega)] using this
theorem Ris.eight {L : List (Int × Int)} (h : Ris L) {j : Nat} (hj : j < L.length) : atL L j % 8 = 0 ∧ 0 ≤ atL L j := by
  have := h.al (L.getD j (0, 0)) (by simp [List.getD, List.getElem?_eq_getElem hj])
  exact this
theorem word_at {f : Int → Int} {L : List (Int × Int)} (h : Agree f L) {x : Int} (hx : x % 8 = 0) : f (x / 8) = wordL L x := by
  rw [h, show x / 8 * 8 = x by omega]
theorem word_none {L : List (Int × Int)} {x : Int} (h : wordL L x ≠ 0) : ∃ j, j < L.length ∧ atL L j = x := by
  by_cases c : ∃ j, j < L.length ∧ atL L j = x
  · exact c
  · exact absurd (wordL_miss L x fun j hj e => c ⟨j, hj, e⟩) h

/-- how far two lists of slots have been gone through -/
structure Mrg (f g : Int → Int) (L K : List (Int × Int)) (i k : Nat) (ds : List Int) (X : Int) : Prop where
  dif : DifTo f g ds X
  il : i ≤ L.length
  kl : k ≤ K.length
  loL : ∀ j, j < i → atL L j < X
  hiL : ∀ j, i ≤ j → j < L.length → X ≤ atL L j
  loK : ∀ j, j < k → atL K j < X
  hiK : ∀ j, k ≤ j → j < K.length → X ≤ atL K j

section
variable {f g : Int → Int} {L K : List (Int × Int)} {i k : Nat} {ds ds' : List Int} {X p : Int}

theorem Mrg.start (hL : Ris L) (hK : Ris K) (fL : Agree f L) (gK : Agree g K) : Mrg f g L K 0 0 [] 0 := by
  refine ⟨⟨List.Pairwise.nil, fun x => ?_⟩, Nat.zero_le _, Nat.zero_le _, fun j hj => by omega, fun j _ hj => (hL.eight hj).2, fun j hj => by omega, fun j _ hj => (hK.eight hj).2⟩
  simp only [List.not_mem_nil, false_iff]
  rintro ⟨⟨h1, h2⟩, h3⟩
  rw [word_at fL h1, word_at gK h1] at h2
  by_cases c : wordL L x = 0
  · obtain ⟨j, hj, e⟩ := word_none (L := K) (x := x) (by omega)
    have := (hK.eight hj).2
    omega
  · obtain ⟨j, hj, e⟩ := word_none c
    have := (hL.eight hj).2
    omega

theorem Mrg.skip (h : Mrg f g L K i k ds X) (hL : Ris L) (hK : Ris K) (fL : Agree f L) (gK : Agree g K) (hX : X ≤ p) (h1 : i < L.length → p ≤ atL L i) (h2 : k < K.length → p ≤ atL K k) : DifTo f g ds p := by
  refine h.dif.skip hX fun x hx hle => ?_
  obtain ⟨e1, e2⟩ := hx
  rw [word_at fL e1, word_at gK e1] at e2
  by_cases c : wordL L x = 0
  · obtain ⟨j, hj, e⟩ := word_none (L := K) (x := x) (by omega)
    by_cases hjk : j < k
    · have := h.loK j hjk; omega
    · have h3 := h2 (by omega)
      by_cases ejk : j = k
      · subst ejk; omega
      · have := hK.lt (i := k) (j := j) (by omega) hj; omega
  · obtain ⟨j, hj, e⟩ := word_none c
    by_cases hji : j < i
    · have := h.loL j hji; omega
    · have h3 := h1 (by omega)
      by_cases eji : j = i
      · subst eji; omega
      · have := hL.lt (i := i) (j := j) (by omega) hj; omega

/-- one side's index behind a place -/
theorem on_side {L : List (Int × Int)} (hL : Ris L) {i i' : Nat} {X p : Int} (hX : X ≤ p) (hp : p % 8 = 0) (hl : i ≤ L.length) (lo : ∀ j, j < i → atL L j < X) (h1 : i < L.length → p ≤ atL L i)
    (hi : (i < L.length ∧ atL L i = p ∧ i' = i + 1) ∨ ((i < L.length → atL L i ≠ p) ∧ i' = i)) : i' ≤ L.length ∧ (∀ j, j < i' → atL L j < p + 8) ∧ ∀ j, i' ≤ j → j < L.length → p + 8 ≤ atL L j := by
  rcases hi with ⟨a, b, rfl⟩ | ⟨a, rfl⟩
  · refine ⟨a, fun j hj => ?_, fun j hj hjl => ?_⟩
    · by_cases e : j = i
      · subst e; omega
      · have := lo j (by omega); omega
    · have := hL.lt (i := i) (j := j) (by omega) hjl
      have := (hL.eight hjl).1
      omega
  · refine ⟨hl, fun j hj => by have := lo j hj; omega, fun j hj hjl => ?_⟩
    have h2 := h1 (by omega)
    have h3 := a (by omega)
    have h4 := (hL.eight (show i' < L.length by omega)).1
    by_cases e : j = i'
    · subst e; omega
    · have := hL.lt (i := i') (j := j) (by omega) hjl
      omega

theorem Mrg.on (h : Mrg f g L K i k ds X) (hL : Ris L) (hK : Ris K) (hX : X ≤ p) (hp : p % 8 = 0) (h1 : i < L.length → p ≤ atL L i) (h2 : k < K.length → p ≤ atL K k) (hd : DifTo f g ds' (p + 8)) {i' k' : Nat}
    (hi : (i < L.length ∧ atL L i = p ∧ i' = i + 1) ∨ ((i < L.length → atL L i ≠ p) ∧ i' = i)) (hk : (k < K.length ∧ atL K k = p ∧ k' = k + 1) ∨ ((k < K.length → atL K k ≠ p) ∧ k' = k)) : Mrg f g L K i' k' ds' (p + 8) := by
  obtain ⟨a1, a2, a3⟩ := on_side hL hX hp h.il h.loL h1 hi
  obtain ⟨b1, b2, b3⟩ := on_side hK hX hp h.kl h.loK h2 hk
  exact ⟨hd, a1, b1, a2, a3, b2, b3⟩

theorem Mrg.done (h : Mrg f g L K L.length K.length ds X) (fL : Agree f L) (gK : Agree g K) : IsDif f g ds := by
  refine ⟨h.dif.1, fun x => ?_⟩
  rw [h.dif.2 x]
  constructor
  · exact fun a => a.1
  · rintro ⟨e1, e2⟩
    refine ⟨⟨e1, e2⟩, ?_⟩
    rw [word_at fL e1, word_at gK e1] at e2
    by_cases c : wordL L x = 0
    · obtain ⟨j, hj, e⟩ := word_none (L := K) (x := x) (by omega)
      have := h.loK j hj; omega
    · obtain ⟨j, hj, e⟩ := word_none c
      have := h.loL j hj; omega
end

end Go.Proofs.Ytfakfmefjfemhaa
