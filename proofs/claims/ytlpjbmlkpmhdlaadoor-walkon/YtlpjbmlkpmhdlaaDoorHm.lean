/- What is true of every walk: its levels, its words, why it ended. Nothing of the program. -/
import Derived.Test.YtlpjbmlkpmhdlaaDoorHa
import Derived.Test.YtlpjbmlkpmhdlaaDoorR
namespace Go.Proofs.YtlpjbmlkpmhdlaaDoor
set_option linter.unusedVariables false
set_option linter.unusedSimpArgs false

abbrev stepAt (S : List (Int × Int × Int)) (k : Nat) : Int × Int × Int := S.getD k (0, 0, 0)

theorem odd_bit {x : Int} (hx : W64 x) : bitF x 0 = decide (x % 2 = 1) := by
  have e := bit_nat hx (k := 0) (by decide)
  rw [show ((0 : Nat) : Int) = 0 from rfl] at e
  rw [e]
  unfold tb
  have h0 := hx.1
  rw [Nat.testBit_zero]
  by_cases h : x % 2 = 1
  · rw [decide_eq_true h, decide_eq_true (by omega)]
  · rw [decide_eq_false h, decide_eq_false (by omega)]

theorem bits16 {x : Int} (hx : W64 x) (h : hasF x (beyondF 16) = false) : tableF x < 65536 := by
  have e := has_get hx (lo := 16) (n := 36) (by decide) (by simpa [beyondF, lowB] using h)
  have h0 := hx.1
  have e' : x / 65536 % 68719476736 = 0 := by simpa using e
  unfold tableF
  omega

theorem res16 {x l : Int} {nxe : Bool} (hx : W64 x) (h : resF x l 16 nxe = false) : tableF x < 65536 := by
  apply bits16 hx
  unfold resF at h
  cases hh : hasF x (beyondF 16)
  · rfl
  · rw [hh] at h; simp at h

theorem frame_le (x l : Int) : 0 ≤ frameF x l ∧ frameF x l ≤ tableF x := by
  have h := table_bd x
  unfold frameF pageF
  split
  · have h1 : 0 ≤ lowF (tableF x) l ∧ lowF (tableF x) l ≤ tableF x := low_bd h.1 l
    omega
  · omega

theorem leaf4 {x : Int} : leafF x 4 = false := by unfold leafF; simp

structure Snd (f : Int → Int) (l : Int) (P : Pth) : Prop where
  len : (P.steps.length : Int) ≤ l
  lev : ∀ k, k < P.steps.length → (stepAt P.steps k).1 = l - k
  odd : ∀ k, k < P.steps.length → (stepAt P.steps k).2.2 % 2 = if k + 1 = P.steps.length ∧ P.why = 1 then 0 else 1
  off : P.why ≠ 0 → P.W = false ∧ P.U = false ∧ P.X = false ∧ P.lev = 0 ∧ P.fr = 0
  yes : P.why = 0 → P.lev = l + 1 - P.steps.length ∧ 1 ≤ P.lev ∧ P.lev ≤ 3 ∧ 0 ≤ P.fr ∧ P.fr < 65536
  kind : P.why = 0 ∨ P.why = 1 ∨ P.why = 2
  some : P.why ≠ 2 → 1 ≤ P.steps.length
  at_ : ∀ k, k < P.steps.length → errS 16 (stepAt P.steps k).2.1 = 0 ∧ (stepAt P.steps k).2.2 = f ((stepAt P.steps k).2.1 / 8) ∧ 0 ≤ (stepAt P.steps k).2.1

theorem snd_off2 (f : Int → Int) {l : Int} (hl : 0 ≤ l) : Snd f l (offP 2) :=
  ⟨hl, fun k hk => absurd hk (by simp [offP]), fun k hk => absurd hk (by simp [offP]), fun _ => ⟨rfl, rfl, rfl, rfl, rfl⟩, fun h => absurd h (by decide), Or.inr (Or.inr rfl), fun h => absurd rfl h, fun k hk => absurd hk (by simp [offP])⟩

section
variable {f : Int → Int} {l s x : Int} {Q : Pth}

theorem snd_cons (h : Snd f (l - 1) Q) (hx : x % 2 = 1) (he : errS 16 s = 0) (hs : 0 ≤ s) (hw : x = f (s / 8)) : Snd f l (preP [(l, s, x)] Q) := by
  have e : (preP [(l, s, x)] Q).steps.length = Q.steps.length + 1 := by simp [preP]
  have h0 : stepAt (preP [(l, s, x)] Q).steps 0 = (l, s, x) := rfl
  have hS : ∀ k, stepAt (preP [(l, s, x)] Q).steps (k + 1) = stepAt Q.steps k := fun k => by simp [preP, stepAt]
  refine ⟨?_, ?_, ?_, h.off, ?_, h.kind, ?_, ?_⟩
  · have := h.len; rw [e]; omega
  · intro k hk
    rcases k with _ | k
    · rw [h0]; simp
    · rw [hS]
      have := h.lev k (by omega)
      omega
  · intro k hk
    rcases k with _ | k
    · rw [h0, e]
      rw [if_neg]
      · exact hx
      · rintro ⟨h1, h2⟩
        have : 1 ≤ Q.steps.length := h.some (by rw [show Q.why = 1 from h2]; decide)
        omega
    · rw [hS, h.odd k (by omega), e]
      have : (k + 1 = Q.steps.length ∧ Q.why = 1) ↔ (k + 1 + 1 = Q.steps.length + 1 ∧ (preP [(l, s, x)] Q).why = 1) := by
        show _ ↔ (_ ∧ Q.why = 1)
        constructor <;> rintro ⟨a, b⟩ <;> exact ⟨by omega, b⟩
      by_cases c : k + 1 = Q.steps.length ∧ Q.why = 1
      · rw [if_pos c, if_pos (this.1 c)]
      · rw [if_neg c, if_neg (fun h => c (this.2 h))]
  · intro hy
    obtain ⟨a, b⟩ := h.yes hy
    refine ⟨?_, b⟩
    rw [e]
    show Q.lev = _
    rw [a]
    push_cast
    omega
  · intro _; rw [e]; omega
  · intro k hk
    rcases k with _ | k
    · rw [h0]; exact ⟨he, hw, hs⟩
    · rw [hS]; exact h.at_ k (by omega)

theorem snd_last {y : Int} {W U X : Bool} {lv fr : Int} (hl : 1 ≤ l) (hodd : x % 2 = if y = 1 then 0 else 1) (he : errS 16 s = 0) (hs : 0 ≤ s) (hw : x = f (s / 8)) (hy : y = 0 ∨ y = 1 ∨ y = 2)
    (hoff : y ≠ 0 → W = false ∧ U = false ∧ X = false ∧ lv = 0 ∧ fr = 0) (hyes : y = 0 → lv = l ∧ 1 ≤ lv ∧ lv ≤ 3 ∧ 0 ≤ fr ∧ fr < 65536) : Snd f l (preP [(l, s, x)] ⟨[], y, W, U, X, lv, fr⟩) := by
  have h0 : ∀ k, k < 1 → k = 0 := fun k hk => by omega
  refine ⟨by simpa [preP] using hl, ?_, ?_, hoff, ?_, hy, by simp [preP], ?_⟩
  · intro k hk
    obtain rfl := h0 k (by simpa [preP] using hk)
    simp [preP, stepAt]
  · intro k hk
    obtain rfl := h0 k (by simpa [preP] using hk)
    simpa [preP, stepAt] using hodd
  · intro h
    obtain ⟨a, b⟩ := hyes h
    refine ⟨?_, b⟩
    show lv = _
    simp [preP]
    omega
  · intro k hk
    obtain rfl := h0 k (by simpa [preP] using hk)
    exact ⟨he, hw, hs⟩
end

theorem walk_snd (f : Int → Int) (hw : ∀ s, W64 (f s)) (a : Int) (nxe : Bool) : ∀ (n : Nat), n ≤ 4 → ∀ (t : Int) (W U X : Bool), Snd f n (walkZ 16 f a nxe n t W U X)
  | 0, _, t, W, U, X => by
    rw [walk_off (by omega)]; exact snd_off2 f (by omega)
  | n + 1, hn, t, W, U, X => by
    rw [walk_in (by omega) (by omega)]
    by_cases he : errS 16 (slotF t a ((n + 1 : Nat) : Int)) = 0
    · rw [if_pos he]
      have hs := (slot_bd t a ((n + 1 : Nat) : Int)).1
      generalize slotF t a ((n + 1 : Nat) : Int) = s at *
      obtain ⟨x, hx⟩ : ∃ x, f (s / 8) = x := ⟨_, rfl⟩
      have hxw : W64 x := hx ▸ hw _
      rw [hx]
      cases hP : bitF x 0
      · rw [on_abs hP]
        rw [odd_bit hxw] at hP
        have : ¬ x % 2 = 1 := by simpa using hP
        have h0 := hxw.1
        exact snd_last (by omega) (by rw [if_pos rfl]; omega) he hs hx.symm (Or.inr (Or.inl rfl)) (fun _ => ⟨rfl, rfl, rfl, rfl, rfl⟩) (fun h => absurd h (by decide))
      · have hodd : x % 2 = 1 := by rw [odd_bit hxw] at hP; simpa using hP
        cases hR : resF x ((n + 1 : Nat) : Int) 16 nxe
        · cases hL : leafF x ((n + 1 : Nat) : Int)
          · rw [on_on hP hR hL, show (((n + 1 : Nat) : Int)) - 1 = (n : Int) by omega]
            refine snd_cons ?_ hodd he hs hx.symm
            rw [show (((n + 1 : Nat) : Int)) - 1 = (n : Int) by omega]
            exact walk_snd f hw a nxe n (by omega) _ _ _ _
          · rw [on_leaf hP hR hL]
            have h3 : n + 1 ≠ 4 := fun e => by rw [e] at hL; rw [show ((4 : Nat) : Int) = 4 from rfl, leaf4] at hL; cases hL
            have := frame_le x ((n + 1 : Nat) : Int)
            have := res16 hxw hR
            exact snd_last (by omega) (by rw [if_neg (by decide)]; exact hodd) he hs hx.symm (Or.inl rfl) (fun h => absurd rfl h) (fun _ => ⟨rfl, by omega, by omega, by omega, by omega⟩)
        · rw [on_res hP hR]
          exact snd_last (by omega) (by rw [if_neg (by decide)]; exact hodd) he hs hx.symm (Or.inr (Or.inr rfl)) (fun _ => ⟨rfl, rfl, rfl, rfl, rfl⟩) (fun h => absurd h (by decide))
    · rw [if_neg he]; exact snd_off2 f (by omega)

/-- a root's walk has a step -/
theorem root_step (f : Int → Int) (a : Int) (nxe : Bool) (r : Int) (h0 : 0 ≤ r) (h1 : r < 16) (W U X : Bool) : 1 ≤ (walkZ 16 f a nxe 4 (tableF (r * 4096)) W U X).steps.length := by
  have ht : tableF (tableF (r * 4096)) = r * 4096 := by rw [table_table]; unfold tableF; omega
  have hi := index_bd0 a 4
  have he : errS 16 (slotF (tableF (r * 4096)) a 4) = 0 := by
    have e : sizeM 16 = 65536 := by decide
    unfold errS slotF
    rw [ht, if_neg (by omega), if_pos (by omega)]
  rw [walk_in (by omega) (by omega), if_pos he]
  simp [preP]
end Go.Proofs.YtlpjbmlkpmhdlaaDoor
