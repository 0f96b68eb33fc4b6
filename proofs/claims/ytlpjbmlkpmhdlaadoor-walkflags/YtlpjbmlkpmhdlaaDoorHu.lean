/- What marking does to words: only bits 5 and 6 of the steps' slots, and twice is as once. -/
import Derived.Test.YtlpjbmlkpmhdlaaDoorHq
namespace Go.Proofs.YtlpjbmlkpmhdlaaDoor
set_option linter.unusedVariables false
set_option linter.unusedSimpArgs false
open Go.ChangeShapes Go.WideShapes Go.ChangeAt Go.RowKit Go.Joins

theorem tb_32 (i : Nat) : tb 32 i = decide (5 = i) := tb_pow 5 i
theorem tb_64 (i : Nat) : tb 64 i = decide (6 = i) := tb_pow 6 i
theorem or_96 : bits .or .u64 32 64 = 96 := by decide +kernel
theorem tb_96 (i : Nat) : tb 96 i = (decide (5 = i) || decide (6 = i)) := by
  rw [← or_96, tb_or (by decide) (by decide), tb_32, tb_64]
  by_cases h : i < 64
  · simp [h]
  · rw [decide_eq_false h, decide_eq_false (by omega), decide_eq_false (by omega)]; rfl

/-- g is f with some of the bits 5 and 6 set -/
structure Up (f g : Int → Int) : Prop where
  w : ∀ j, W64 (g j)
  keep : ∀ j i, tb (f j) i = true → tb (g j) i = true
  rest : ∀ j i, i ≠ 5 → i ≠ 6 → tb (g j) i = tb (f j) i

theorem Up.refl {f : Int → Int} (h : ∀ j, W64 (f j)) : Up f f := ⟨h, fun _ _ h => h, fun _ _ _ _ => rfl⟩
theorem Up.trans {f g h : Int → Int} (a : Up f g) (b : Up g h) : Up f h := ⟨b.w, fun j i hi => b.keep j i (a.keep j i hi), fun j i h5 h6 => (b.rest j i h5 h6).trans (a.rest j i h5 h6)⟩

theorem or_up {M : Int} {f : Int → Int} {s y : Int} (h : ∀ j, W64 (f j)) (hy : y = 32 ∨ y = 96) : Up f (orS M f s y) := by
  unfold orS
  have hy0 : 0 ≤ y := by rcases hy with rfl | rfl <;> decide
  by_cases he : errS M s = 0
  · rw [if_pos he]
    refine ⟨fun j => ?_, fun j i hi => ?_, fun j i h5 h6 => ?_⟩
    · unfold updF; split
      · exact w64_bits _ _ _
      · exact h j
    · unfold updF; split
      · rename_i e; subst e
        have hi64 : i < 64 := by
          by_cases c : i < 64
          · exact c
          · rw [tb_ge (h _) (by omega)] at hi; cases hi
        rw [tb_or (h _).1 hy0, hi]; simp [hi64]
      · exact hi
    · unfold updF; split
      · rename_i e; subst e
        have ey : tb y i = false := by
          rcases hy with rfl | rfl
          · rw [tb_32]; simpa using fun e => h5 e.symm
          · rw [tb_96, decide_eq_false (fun e => h5 e.symm), decide_eq_false (fun e => h6 e.symm)]; rfl
        rw [tb_or (h _).1 hy0, ey]
        by_cases c : i < 64
        · simp [c]
        · rw [tb_ge (h _) (by omega)]; simp
      · rfl
  · rw [if_neg he]; exact Up.refl h

theorem flag_or (L : Nat) (full : Bool) (k : Nat) : flagN L full k = 32 ∨ flagN L full k = 96 := by
  unfold flagN; split
  · exact Or.inr rfl
  · exact Or.inl rfl

section
variable {M : Int} {f : Int → Int} {S : List (Int × Int × Int)} {full : Bool}

theorem mark_up (h : ∀ j, W64 (f j)) : ∀ k, Up f (markN M f S full k)
  | 0 => Up.refl h
  | k + 1 => (mark_up h k).trans (or_up (mark_up h k).w (flag_or _ _ _))
theorem mark_more (h : ∀ j, W64 (f j)) (k : Nat) : ∀ d, Up (markN M f S full k) (markN M f S full (k + d))
  | 0 => Up.refl (mark_up h k).w
  | d + 1 => (mark_more h k d).trans (or_up (mark_up h (k + d)).w (flag_or _ _ _))
theorem mark_own {j : Int} : ∀ k, markN M f S full k j ≠ f j → ∃ i, i < k ∧ errS M (stepAt S i).2.1 = 0 ∧ (stepAt S i).2.1 / 8 = j
  | 0, h => absurd rfl h
  | k + 1, h => by
    by_cases hk : markN M f S full k j = f j
    · by_cases he : errS M (stepAt S k).2.1 = 0
      · refine ⟨k, by omega, he, ?_⟩
        by_cases e : j = (stepAt S k).2.1 / 8
        · exact e.symm
        · exfalso; apply h
          show orS M _ _ _ j = f j
          unfold orS; rw [if_pos he]; unfold updF; rw [if_neg e]; exact hk
      · exfalso; apply h
        show orS M _ _ _ j = f j
        unfold orS; rw [if_neg he]; exact hk
    · obtain ⟨i, hi, r⟩ := mark_own k hk
      exact ⟨i, by omega, r⟩
theorem mark_at (h : ∀ j, W64 (f j)) {k : Nat} (he : errS M (stepAt S k).2.1 = 0) : tb (markN M f S full (k + 1) ((stepAt S k).2.1 / 8)) 5 = true ∧ (full = true → k + 1 = S.length → tb (markN M f S full (k + 1) ((stepAt S k).2.1 / 8)) 6 = true) := by
  have e : markN M f S full (k + 1) ((stepAt S k).2.1 / 8) = bits .or .u64 (markN M f S full k ((stepAt S k).2.1 / 8)) (flagN S.length full k) := by
    show orS M _ _ _ _ = _
    unfold orS; rw [if_pos he]; unfold updF; rw [if_pos rfl]
  have h0 := ((mark_up (M := M) (S := S) (full := full) h k).w ((stepAt S k).2.1 / 8)).1
  rw [e]
  refine ⟨?_, fun hf hk => ?_⟩
  · rw [tb_or h0 (w64_flag _ _ _).1]
    rcases flag_or S.length full k with e | e <;> rw [e]
    · rw [tb_32]; simp
    · rw [tb_96]; simp
  · rw [tb_or h0 (w64_flag _ _ _).1, show flagN S.length full k = 96 from by unfold flagN; rw [if_pos (by simp [hf, hk])], tb_96]; simp
theorem mark_has (h : ∀ j, W64 (f j)) {k L : Nat} (hk : k < L) (he : errS M (stepAt S k).2.1 = 0) : tb (markN M f S full L ((stepAt S k).2.1 / 8)) 5 = true ∧ (full = true → k + 1 = S.length → tb (markN M f S full L ((stepAt S k).2.1 / 8)) 6 = true) := by
  obtain ⟨d, rfl⟩ : ∃ d, L = k + 1 + d := ⟨L - (k + 1), by omega⟩
  have hu := mark_more (M := M) (S := S) (full := full) h (k + 1) d
  obtain ⟨a, b⟩ := mark_at (full := full) h he
  exact ⟨hu.keep _ _ a, fun hf hl => hu.keep _ _ (b hf hl)⟩
theorem mark_fix {g : Int → Int} (hg : ∀ j, W64 (g j)) (L : Nat) (h : ∀ k, k < L → errS M (stepAt S k).2.1 = 0 → bits .and .u64 (g ((stepAt S k).2.1 / 8)) (flagN S.length full k) = flagN S.length full k) : ∀ k, k ≤ L → markN M g S full k = g
  | 0, _ => rfl
  | k + 1, hk => by
    show orS M (markN M g S full k) _ _ = g
    rw [mark_fix hg L h k (by omega)]
    unfold orS
    by_cases he : errS M (stepAt S k).2.1 = 0
    · rw [if_pos he, or_same (hg _) (w64_flag _ _ _) (h k (by omega) he), upd_same]
    · rw [if_neg he]
theorem mark_twice (h : ∀ j, W64 (f j)) : markN M (markN M f S full S.length) S full S.length = markN M f S full S.length := by
  refine mark_fix (mark_up h _).w S.length (fun k hk he => ?_) _ (Nat.le_refl _)
  obtain ⟨a, b⟩ := mark_has (full := full) h hk he
  have hw := (mark_up (M := M) (S := S) (full := full) h S.length).w ((stepAt S k).2.1 / 8)
  apply tb_ext (w64_bits _ _ _) (w64_flag _ _ _)
  intro i hi
  rw [tb_and hw.1 (w64_flag _ _ _).1]
  by_cases c : (full && decide (k + 1 = S.length)) = true
  · have e : flagN S.length full k = 96 := by unfold flagN; rw [if_pos c]
    simp at c
    rw [e, tb_96]
    by_cases h5 : 5 = i
    · subst h5; rw [a]; rfl
    · by_cases h6 : 6 = i
      · subst h6; rw [b c.1 c.2]; rfl
      · simp [h5, h6]
  · have e : flagN S.length full k = 32 := by unfold flagN; rw [if_neg c]
    rw [e, tb_32]
    by_cases h5 : 5 = i
    · subst h5; rw [a]; rfl
    · simp [h5]
end

theorem and_not0 {x : Int} (hx : W64 x) (h : tb x 5 = true) : (bits .and .u64 x 32 == 0) = false := by
  have e := tb_and hx.1 (show (0 : Int) ≤ 32 by decide) 5
  rw [h, tb_32] at e
  cases hc : (bits .and .u64 x 32 == 0)
  · rfl
  · have : bits .and .u64 x 32 = 0 := by simpa using hc
    rw [this, tb_zero] at e; simp at e
theorem and_not1 {x : Int} (hx : W64 x) (h : tb x 6 = true) : (bits .and .u64 x 64 == 0) = false := by
  have e := tb_and hx.1 (show (0 : Int) ≤ 64 by decide) 6
  rw [h, tb_64] at e
  cases hc : (bits .and .u64 x 64 == 0)
  · rfl
  · have : bits .and .u64 x 64 = 0 := by simpa using hc
    rw [this, tb_zero] at e; simp at e

theorem up_bare {f g : Int → Int} (h : Up f g) (hf : ∀ j, W64 (f j)) (j : Int) : (bits .andNot .u64 (g j) 96 != bits .andNot .u64 (f j) 96) = false := by
  have e : bits .andNot .u64 (g j) 96 = bits .andNot .u64 (f j) 96 := by
    apply tb_ext (w64_bits _ _ _) (w64_bits _ _ _)
    intro i hi
    rw [tb_andNot (h.w j).1 (by decide), tb_andNot (hf j).1 (by decide), tb_96]
    by_cases h5 : 5 = i
    · simp [h5]
    · by_cases h6 : 6 = i
      · simp [h6]
      · rw [h.rest j i (fun e => h5 e.symm) (fun e => h6 e.symm)]
  rw [e]; simp
theorem up_sub {f g : Int → Int} (h : Up f g) (hf : ∀ j, W64 (f j)) (j : Int) : (bits .andNot .u64 (f j) (g j) != 0) = false := by
  have e : bits .andNot .u64 (f j) (g j) = 0 := by
    apply tb_ext (w64_bits _ _ _) w64_zero
    intro i hi
    rw [tb_andNot (hf j).1 (h.w j).1, tb_zero]
    cases c : tb (f j) i
    · simp
    · rw [h.keep j i c]; simp
  rw [e]; rfl

/-- is x a slot of one of the first k steps? -/
def ownN (S : List (Int × Int × Int)) (x : Int) : Nat → Bool
  | 0 => false
  | k + 1 => ownN S x k || ((stepAt S k).2.1 == x)
theorem own_yes {S : List (Int × Int × Int)} {x : Int} {i : Nat} (h : (stepAt S i).2.1 = x) : ∀ k, i < k → ownN S x k = true
  | k + 1, hk => by
    unfold ownN
    by_cases e : i = k
    · subst e; rw [h]; simp
    · rw [own_yes h k (by omega)]; rfl

theorem slot_w8 {s : Int} (h1 : errS 16 s = 0) (h2 : 0 ≤ s) : W64 s := by
  have h3 := (errS_in h1).1
  have h4 : sizeM 16 = 65536 := by decide
  unfold W64; omega
end Go.Proofs.YtlpjbmlkpmhdlaaDoor
