/- Where two memories differ: nothing of the program's walks. -/
import Derived.Test.YtfakfmefjfemhaaSi
namespace Go.Proofs.Ytfakfmefjfemhaa
set_option linter.unusedVariables false
set_option linter.unusedSimpArgs false
open Go.RowKit

/-- the slot at x differs -/
def Dif (f g : Int → Int) (x : Int) : Prop := x % 8 = 0 ∧ f (x / 8) ≠ g (x / 8)

/-- ds is where f and g differ, below X -/
def DifTo (f g : Int → Int) (ds : List Int) (X : Int) : Prop := ds.Pairwise (· < ·) ∧ ∀ x, x ∈ ds ↔ (Dif f g x ∧ x < X)

/-- ds is where f and g differ -/
def IsDif (f g : Int → Int) (ds : List Int) : Prop := ds.Pairwise (· < ·) ∧ ∀ x, x ∈ ds ↔ Dif f g x

theorem DifTo.skip {f g : Int → Int} {ds : List Int} {X Y : Int} (h : DifTo f g ds X) (hXY : X ≤ Y) (hn : ∀ x, Dif f g x → X ≤ x → Y ≤ x) : DifTo f g ds Y :=
  ⟨h.1, fun x => by
    rw [h.2 x]
    constructor
    · rintro ⟨a, b⟩; exact ⟨a, by omega⟩
    · rintro ⟨a, b⟩
      refine ⟨a, ?_⟩
      by_cases c : x < X
      · exact c
      · have := hn x a (by omega); omega⟩

theorem DifTo.add {f g : Int → Int} {ds : List Int} {X : Int} (h : DifTo f g ds X) (hX : X % 8 = 0) (hd : f (X / 8) ≠ g (X / 8)) : DifTo f g (ds ++ [X]) (X + 8) := by
  refine ⟨List.pairwise_append.2 ⟨h.1, by simp, fun a ha b hb => ?_⟩, fun x => ?_⟩
  · simp at hb; subst hb
    exact ((h.2 a).1 ha).2
  · rw [List.mem_append, h.2 x]
    simp only [List.mem_singleton]
    constructor
    · rintro (⟨a, b⟩ | rfl)
      · exact ⟨a, by omega⟩
      · exact ⟨⟨hX, hd⟩, by omega⟩
    · rintro ⟨a, b⟩
      by_cases c : x < X
      · exact Or.inl ⟨a, c⟩
      · right; have := a.1; omega

theorem DifTo.pass {f g : Int → Int} {ds : List Int} {X : Int} (h : DifTo f g ds X) (hX : X % 8 = 0) (hd : f (X / 8) = g (X / 8)) : DifTo f g ds (X + 8) :=
  h.skip (by omega) fun x hx hle => by
    by_cases e : x = X
    · subst e; exact absurd hd hx.2
    · have := hx.1; omega

theorem rising_ext : ∀ (l l' : List Int), l.Pairwise (· < ·) → l'.Pairwise (· < ·) → (∀ x, x ∈ l ↔ x ∈ l') → l = l'
  | [], [], _, _, _ => rfl
  | [], b :: l', _, _, h => by have := (h b).2 (by simp); simp at this
  | a :: l, [], _, _, h => by have := (h a).1 (by simp); simp at this
  | a :: l, b :: l', h1, h2, h => by
    obtain ⟨a1, a2⟩ := List.pairwise_cons.1 h1
    obtain ⟨b1, b2⟩ := List.pairwise_cons.1 h2
    have e : a = b := by
      have ha := (h a).1 (by simp)
      have hb := (h b).2 (by simp)
      rcases List.mem_cons.1 ha with ha | ha
      · exact ha
      · rcases List.mem_cons.1 hb with hb | hb
        · exact hb.symm
        · have := b1 a ha; have := a1 b hb; omega
    subst e
    rw [rising_ext l l' a2 b2 fun x => ?_]
    constructor
    · intro hx
      rcases List.mem_cons.1 ((h x).1 (by simp [hx])) with e | e
      · subst e; have := a1 x hx; omega
      · exact e
    · intro hx
      rcases List.mem_cons.1 ((h x).2 (by simp [hx])) with e | e
      · subst e; have := b1 x hx; omega
      · exact e

theorem IsDif.same {f g : Int → Int} {ds ds' : List Int} (h : IsDif f g ds) (h' : IsDif f g ds') : ds = ds' := rising_ext _ _ h.1 h'.1 fun x => by rw [h.2, h'.2]
theorem Dif.comm {f g : Int → Int} {x : Int} : Dif f g x ↔ Dif g f x := ⟨fun h => ⟨h.1, fun e => h.2 e.symm⟩, fun h => ⟨h.1, fun e => h.2 e.symm⟩⟩
theorem IsDif.comm {f g : Int → Int} {ds : List Int} (h : IsDif f g ds) : IsDif g f ds := ⟨h.1, fun x => (h.2 x).trans Dif.comm⟩
theorem IsDif.none {f : Int → Int} {ds : List Int} (h : IsDif f f ds) : ds = [] := by
  cases ds with
  | nil => rfl
  | cons a l => exact absurd rfl ((h.2 a).1 (by simp)).2

/-- what is left when j pages have been looked at -/
structure Left (f g : Int → Int) (ps : List Int) (j : Nat) (ds : List Int) (X : Int) : Prop where
  dif : DifTo f g ds X
  rest : ∀ x, Dif f g x → X ≤ x → x / 4096 ∈ ps.drop j
  low : ∀ k ∈ ps.drop j, X ≤ k * 4096

theorem Left.start {f g : Int → Int} {ps : List Int} (h0 : ∀ k ∈ ps, 0 ≤ k) (h : ∀ x, Dif f g x → x / 4096 ∈ ps) : Left f g ps 0 [] 0 :=
  ⟨⟨List.Pairwise.nil, fun x => by
    simp only [List.not_mem_nil, false_iff]
    rintro ⟨a, b⟩
    have := h0 _ (h x a)
    omega⟩, fun x hx _ => h x hx, fun k hk => by have := h0 k hk; omega⟩

theorem Left.enter {f g : Int → Int} {ps : List Int} {j : Nat} {ds : List Int} {X k : Int} {r : List Int} (h : Left f g ps j ds X) (hr : ps.Pairwise (· < ·)) (hd : ps.drop j = k :: r) : DifTo f g ds (k * 4096) := by
  have hp : (ps.drop j).Pairwise (· < ·) := hr.sublist (List.drop_sublist _ _)
  rw [hd] at hp
  obtain ⟨p1, _⟩ := List.pairwise_cons.1 hp
  refine h.dif.skip (h.low k (by rw [hd]; simp)) fun x hx hle => ?_
  have := h.rest x hx hle
  rw [hd] at this
  rcases List.mem_cons.1 this with e | e
  · omega
  · have := p1 _ e; omega

theorem Left.leave {f g : Int → Int} {ps : List Int} {j : Nat} {ds ds' : List Int} {X k : Int} {r : List Int} (h : Left f g ps j ds X) (hr : ps.Pairwise (· < ·)) (hd : ps.drop j = k :: r) (hd' : DifTo f g ds' (k * 4096 + 4096)) : Left f g ps (j + 1) ds' (k * 4096 + 4096) := by
  have hp : (ps.drop j).Pairwise (· < ·) := hr.sublist (List.drop_sublist _ _)
  have hX := h.low k (by rw [hd]; simp)
  rw [hd] at hp
  obtain ⟨p1, _⟩ := List.pairwise_cons.1 hp
  have e1 : ps.drop (j + 1) = r := by rw [← List.drop_drop, hd]; rfl
  refine ⟨hd', fun x hx hle => ?_, fun k' hk' => ?_⟩
  · have := h.rest x hx (by omega)
    rw [hd] at this
    rcases List.mem_cons.1 this with e | e
    · omega
    · rw [e1]; exact e
  · rw [e1] at hk'
    have := p1 _ hk'
    omega

theorem Left.done {f g : Int → Int} {ps : List Int} {ds : List Int} {X : Int} (h : Left f g ps ps.length ds X) : IsDif f g ds := by
  refine ⟨h.dif.1, fun x => ?_⟩
  rw [h.dif.2 x]
  constructor
  · exact fun a => a.1
  · intro a
    refine ⟨a, ?_⟩
    by_cases c : x < X
    · exact c
    · have := h.rest x a (by omega)
      rw [List.drop_length] at this
      simp at this

theorem drop_at {ps : List Int} {j : Nat} (h : j < ps.length) : ∃ k r, ps.drop j = k :: r ∧ ps[j]? = some k ∧ k ∈ ps := by
  refine ⟨ps[j], ps.drop (j + 1), List.drop_eq_getElem_cons h, List.getElem?_eq_getElem h, List.getElem_mem h⟩

theorem nodup_len : ∀ (n : Nat) (l : List Int), l.Nodup → (∀ x ∈ l, 0 ≤ x ∧ x < n) → l.length ≤ n
  | 0, [], _, _ => Nat.le_refl _
  | 0, a :: l, _, h => by have := h a (by simp); omega
  | n + 1, l, hd, h => by
    by_cases hm : (n : Int) ∈ l
    · have h1 := nodup_len n (l.erase n) (hd.erase _) fun x hx => by
        have h2 := (List.Nodup.mem_erase_iff hd).1 hx
        have := h x h2.2
        have := h2.1
        omega
      have h3 := List.length_erase_of_mem hm
      omega
    · have h1 := nodup_len n l hd fun x hx => by
        have := h x hx
        have : x ≠ n := fun e => hm (e ▸ hx)
        omega
      omega

section
variable {w : World} {m : Nat} {M : Int} {f : Int → Int} {tr : List Int} {n mb : Nat} {v : Value} {D : Dw}

theorem Mm.key_of (h : Mm w m M f tr n mb v D) {x : Int} (hx : Maps.has D (.int .u64 x) = true) : 0 ≤ x ∧ x * 4096 < 2 ^ M.toNat := by
  obtain ⟨k, b, e, _, h0, h1⟩ := h.full _ hx
  simp at e
  subst e
  exact ⟨h0, h1⟩

theorem Mm.few_keys (h : Mm w m 16 f tr n mb v D) : ∀ ks, KeyList D ks → ks.length ≤ 16 := fun ks hk =>
  nodup_len 16 ks hk.1 fun x hx => by
    obtain ⟨h0, h1⟩ := h.key_of ((hk.2 x).1 hx)
    have : x * 4096 < 65536 := h1
    omega

/-- where no page is, all is 0 -/
theorem Mm.zero_of (h : Mm w m M f tr n mb v D) {s : Int} (hn : Maps.has D (.int .u64 (s / 512)) ≠ true) : f s = 0 := by
  rcases h.page (s / 512) with ⟨_, hz⟩ | ⟨b, hb, _⟩
  · have := hz (s % 512).toNat (by omega)
    rw [show s / 512 * 512 + ((s % 512).toNat : Int) = s by omega] at this
    exact this
  · have hf : Maps.has D (.int .u64 (s / 512)) = false := by simpa using hn
    have := Maps.atKey_of_not_has hf (.nil : Dw)
    unfold pageOf at hb
    rw [this] at hb
    cases hb
end

end Go.Proofs.Ytfakfmefjfemhaa
