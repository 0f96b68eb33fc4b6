/- Several texts of ours in one: Na, Va, Fr. -/
import Derived.Test.YtmglikmphddicaaDoorGEmGmA
import Derived.Test.YtmglikmphddicaaDoorGCaRN
import Derived.Test.YtmglikmphddicaaDoorGByWdMm
import Derived.Test.YtmglikmphddicaaDoorGBvMVm
import Derived.Below
import Derived.OwnWalk
import Derived.ProofKit
import Derived.OpenShut
import Derived.Carry
import Derived.ChangeOld
import Derived.Lib.SmallJoins
import Derived.Deep.QuietTactic
/- Plain mathematics of groups: eight words' line, a line's page, without one, and a slot's group. Nothing of the program. -/
namespace Go.Proofs.YtmglikmphddicaaDoor
set_option linter.unusedVariables false
set_option linter.unusedSimpArgs false

/-- a frame, some places on -/
def frmF (f i : Int) : Int := (f + 4096 * i) % 18446744073709551616
theorem frm_frm (f i j : Int) : frmF (frmF f i) j = frmF f (i + j) := by unfold frmF; omega
theorem frm_0 {f : Int} (h : W64 f) : frmF f 0 = f := by unfold frmF; obtain ⟨a, b⟩ := h; omega
theorem frm_code (f i : Int) : IntKind.u64.wrap (f + IntKind.u64.wrap (4096 * IntKind.u64.wrap i)) = frmF f i := by
  unfold frmF; rw [IntKind.wrap_u64, IntKind.wrap_u64, IntKind.wrap_u64]; omega
theorem frm_doc (f i : Int) : IntKind.u64.wrap (f - IntKind.u64.wrap (4096 * IntKind.u64.wrap i)) = frmF f (-i) := by
  unfold frmF; rw [IntKind.wrap_u64, IntKind.wrap_u64, IntKind.wrap_u64]; omega

/-- a page's bit of a mask -/
def bit8 (i : Int) : Int := if 0 ≤ i ∧ i ≤ 7 then 2 ^ i.toNat else 0
def hasM (m i : Int) : Bool := decide (0 ≤ i) && decide (i ≤ 7) && tb m i.toNat
def clrM (m i : Int) : Int := if hasM m i then m - 2 ^ i.toNat else m
def U8 (m : Int) : Prop := 0 ≤ m ∧ m < 256

theorem fin_of {m : Int} (h : U8 m) : ∃ k : Fin 256, m = (k.val : Int) := ⟨⟨m.toNat, by obtain ⟨a, b⟩ := h; omega⟩, by obtain ⟨a, b⟩ := h; simp; omega⟩
theorem eight_of {i : Int} (h0 : 0 ≤ i) (h7 : i ≤ 7) : ∃ k : Fin 8, i = (k.val : Int) := ⟨⟨i.toNat, by omega⟩, by simp; omega⟩

theorem all_and : ∀ m : Fin 256, ∀ i : Fin 8, (bits .and .u8 (m.val : Int) (2 ^ i.val) == 0) = !tb (m.val : Int) i.val := by decide +kernel
theorem all_andNot : ∀ m : Fin 256, ∀ i : Fin 8, bits .andNot .u8 (m.val : Int) (2 ^ i.val) = if tb (m.val : Int) i.val then (m.val : Int) - 2 ^ i.val else (m.val : Int) := by decide +kernel
theorem all_or : ∀ m : Fin 256, ∀ i : Fin 8, m.val < 2 ^ i.val → bits .or .u8 (m.val : Int) (2 ^ i.val) = (m.val : Int) + 2 ^ i.val := by decide +kernel
theorem all_bit : ∀ m : Fin 256, ∀ i : Fin 8, bitF (m.val : Int) (i.val : Int) = tb (m.val : Int) i.val := by decide +kernel
theorem all_with : ∀ m : Fin 256, ∀ i : Fin 8, withF (m.val : Int) (i.val : Int) false = if tb (m.val : Int) i.val then (m.val : Int) - 2 ^ i.val else (m.val : Int) := by decide +kernel
theorem all_zero : ∀ m : Fin 256, bits .and .u8 (m.val : Int) 0 = 0 ∧ bits .andNot .u8 (m.val : Int) 0 = (m.val : Int) := by decide +kernel
theorem all_low : ∀ m : Fin 256, ∀ i : Fin 8, tb (m.val : Int) i.val = true → 2 ^ i.val ≤ m.val := by decide +kernel
theorem all_clr : ∀ m : Fin 256, ∀ i j : Fin 8, tb (if tb (m.val : Int) i.val then (m.val : Int) - 2 ^ i.val else (m.val : Int)) j.val = (tb (m.val : Int) j.val && decide (i.val ≠ j.val)) := by decide +kernel

theorem has_and {m : Int} (hm : U8 m) (i : Int) : (bits .and .u8 m (bit8 i) == 0) = !hasM m i := by
  obtain ⟨k, rfl⟩ := fin_of hm
  unfold bit8 hasM
  by_cases h : 0 ≤ i ∧ i ≤ 7
  · obtain ⟨j, rfl⟩ := eight_of h.1 h.2
    rw [if_pos h, show ((j.val : Int)).toNat = j.val by simp, all_and k j]
    simp [h.2]
  · rw [if_neg h, (all_zero k).1]
    by_cases h0 : 0 ≤ i
    · simp [show ¬ i ≤ 7 from fun h7 => h ⟨h0, h7⟩]
    · simp [h0]
theorem clr_andNot {m : Int} (hm : U8 m) (i : Int) : bits .andNot .u8 m (bit8 i) = clrM m i := by
  obtain ⟨k, rfl⟩ := fin_of hm
  unfold bit8 clrM hasM
  by_cases h : 0 ≤ i ∧ i ≤ 7
  · obtain ⟨j, rfl⟩ := eight_of h.1 h.2
    rw [if_pos h, show ((j.val : Int)).toNat = j.val by simp, all_andNot k j]
    simp [h.2]
  · rw [if_neg h, (all_zero k).2]
    by_cases h0 : 0 ≤ i
    · simp [show ¬ i ≤ 7 from fun h7 => h ⟨h0, h7⟩]
    · simp [h0]
theorem has_bit {m i : Int} (hm : U8 m) (h0 : 0 ≤ i) (h7 : i ≤ 7) : bitF m i = hasM m i := by
  obtain ⟨k, rfl⟩ := fin_of hm
  obtain ⟨j, rfl⟩ := eight_of h0 h7
  rw [all_bit k j]; simp [hasM, h7]
theorem clr_with {m i : Int} (hm : U8 m) (h0 : 0 ≤ i) (h7 : i ≤ 7) : withF m i false = clrM m i := by
  obtain ⟨k, rfl⟩ := fin_of hm
  obtain ⟨j, rfl⟩ := eight_of h0 h7
  rw [all_with k j]; simp [clrM, hasM, h7]
theorem has_out {m i : Int} (h : i < 0 ∨ 7 < i) : hasM m i = false := by
  unfold hasM
  rcases h with h | h
  · simp [show ¬ 0 ≤ i by omega]
  · simp [show ¬ i ≤ 7 by omega]
theorem clr_out {m i : Int} (h : i < 0 ∨ 7 < i) : clrM m i = m := by unfold clrM; rw [has_out h]; rfl
theorem u8_clr {m : Int} (hm : U8 m) (i : Int) : U8 (clrM m i) := by
  unfold clrM
  split
  · rename_i h
    unfold hasM at h
    simp at h
    obtain ⟨k, rfl⟩ := fin_of hm
    obtain ⟨j, rfl⟩ := eight_of h.1.1 h.1.2
    have h1 := all_low k j (by simpa using h.2)
    obtain ⟨p, hp⟩ : ∃ p : Nat, 2 ^ j.val = p := ⟨_, rfl⟩
    have h2 : (2 : Int) ^ ((j.val : Int)).toNat = (p : Int) := by rw [← hp]; simp
    rw [hp] at h1
    rw [h2]
    obtain ⟨_, _⟩ := hm
    unfold U8; omega
  · exact hm
theorem has_clr {m i j : Int} (hm : U8 m) : hasM (clrM m i) j = (hasM m j && decide (i ≠ j)) := by
  by_cases hi : 0 ≤ i ∧ i ≤ 7
  · by_cases hj : 0 ≤ j ∧ j ≤ 7
    · obtain ⟨k, rfl⟩ := fin_of hm
      obtain ⟨p, rfl⟩ := eight_of hi.1 hi.2
      obtain ⟨q, rfl⟩ := eight_of hj.1 hj.2
      have e : clrM (k.val : Int) (p.val : Int) = if tb (k.val : Int) p.val then (k.val : Int) - 2 ^ p.val else (k.val : Int) := by simp [clrM, hasM, hi.2]
      rw [e]
      have h := all_clr k p q
      unfold hasM
      rw [show ((q.val : Int)).toNat = q.val by simp, h]
      have e2 : decide (p.val ≠ q.val) = decide ((p.val : Int) ≠ (q.val : Int)) := by rw [Bool.eq_iff_iff]; simp only [decide_eq_true_eq]; omega
      rw [e2]
      simp [hj.2]
    · rw [has_out (by omega), has_out (by omega)]; rfl
  · rw [clr_out (by omega)]
    by_cases hj : hasM m j
    · have : 0 ≤ j ∧ j ≤ 7 := by unfold hasM at hj; simp at hj; exact hj.1
      simp [hj]; omega
    · simp [hj]
/-- a mask without any bit -/
theorem has_ext {m n : Int} (hm : U8 m) (hn : U8 n) (h : ∀ i : Int, 0 ≤ i → i ≤ 7 → hasM m i = hasM n i) : m = n := by
  refine byte_ext' hm.1 hm.2 hn.1 hn.2 fun i hi => ?_
  have := h i (by omega) (by omega)
  unfold hasM at this
  simpa [show (i : Int) ≤ 7 by omega] using this
theorem has_zero (i : Int) : hasM 0 i = false := by unfold hasM; simp [tb_zero]
theorem zero_of {m : Int} (hm : U8 m) (h : ∀ i : Int, 0 ≤ i → i ≤ 7 → hasM m i = false) : m = 0 :=
  has_ext hm ⟨by decide, by decide⟩ fun i h0 h7 => by rw [h i h0 h7, has_zero]
/- A LINE -/
def hasG (l : Ln) (i : Int) : Bool := hasM l.2.2.2.2.2 i
def atG (l : Ln) (i : Int) : Int := if hasG l i then frmF l.1 i else 0
def cutG (l : Ln) (i : Int) : Ln := (l.1, l.2.1, l.2.2.1, l.2.2.2.1, l.2.2.2.2.1, clrM l.2.2.2.2.2 i)
def wthG (l : Ln) (i : Int) : Ln := if clrM l.2.2.2.2.2 i = 0 then zL else cutG l i
def OkL (l : Ln) : Prop := U8 l.2.2.2.2.2
theorem ok_zL : OkL zL := ⟨by decide, by decide⟩
theorem ok_wth {l : Ln} (h : OkL l) (i : Int) : OkL (wthG l i) := by
  unfold wthG; split
  · exact ok_zL
  · exact u8_clr h i
theorem mask_wth (l : Ln) (i : Int) : (wthG l i).2.2.2.2.2 = clrM l.2.2.2.2.2 i := by
  unfold wthG; split
  · rename_i h; rw [h]; rfl
  · rfl
theorem has_wth {l : Ln} (h : OkL l) (i j : Int) : hasG (wthG l i) j = (hasG l j && decide (i ≠ j)) := by
  unfold hasG; rw [mask_wth, has_clr h]
theorem at_wth {l : Ln} (h : OkL l) {i j : Int} (hij : i ≠ j) : atG (wthG l i) j = atG l j := by
  unfold atG
  rw [has_wth h, decide_eq_true hij, Bool.and_true]
  split
  · rename_i hj
    unfold wthG
    split
    · rename_i hz
      have := has_clr (i := i) (j := j) h
      rw [hz, has_zero, show hasM l.2.2.2.2.2 j = true from hj, decide_eq_true hij] at this
      cases this
    · rfl
  · rfl
/-- taken away twice, or behind another one -/
theorem wth_twice {l : Ln} (h : OkL l) (a b : Int) : wthG (wthG (wthG l a) b) a = wthG (wthG l a) b := by
  have h1 := ok_wth h a
  have h2 := ok_wth h1 b
  have e : clrM (wthG (wthG l a) b).2.2.2.2.2 a = (wthG (wthG l a) b).2.2.2.2.2 := by
    unfold clrM
    have hn : hasG (wthG (wthG l a) b) a = false := by rw [has_wth h1, has_wth h]; simp
    unfold hasG at hn
    rw [hn]; rfl
  obtain ⟨m, hm⟩ : ∃ m, wthG (wthG l a) b = m := ⟨_, rfl⟩
  have hz : m.2.2.2.2.2 = 0 → m = zL := by
    intro h0
    have h3 := mask_wth (wthG l a) b
    rw [hm, h0] at h3
    rw [← hm]
    unfold wthG at h3 ⊢
    rw [if_pos h3.symm]
  rw [hm] at e ⊢
  unfold wthG cutG
  rw [e]
  split
  · rename_i h0; exact (hz h0).symm
  · rfl

/- WHAT GOES TOGETHER -/
def mapW (x b : Int) (n : Bool) : Bool := bitF x 0 && !resF x 1 b n
def alikeF (x y : Int) : Bool := (bitF x 1 == bitF y 1) && (bitF x 2 == bitF y 2) && (bitF x 6 == bitF y 6) && (bitF x 63 == bitF y 63)
def thW (X : List Int) (i : Int) : Int := X.getD i.toNat 0
def withW (X : List Int) (a b : Int) (n : Bool) (i : Int) : Bool :=
  mapW (thW X i) b n && bitF (thW X i) 5 && alikeF (thW X i) (thW X a) && (tableF (thW X i) == frmF (frmF (tableF (thW X a)) (-a)) i)
def togF (X : List Int) (a b : Int) (n : Bool) (i : Int) : Bool := decide (i = a) || withW X a b n i
def runM (X : List Int) (a b : Int) (n : Bool) (k : Nat) : Int := (acc (fun i => togF X a b n (i : Int)) k : Nat)
def okRun (X : List Int) (a b : Int) (n : Bool) : Bool := decide (0 ≤ a ∧ a ≤ 7) && mapW (thW X a) b n
def runF (X : List Int) (a b : Int) (n W U Y : Bool) : Ln :=
  if okRun X a b n then (frmF (tableF (thW X a)) (-a), W && bitF (thW X a) 1, U && bitF (thW X a) 2, Y && !bitF (thW X a) 63, bitF (thW X a) 6, runM X a b n 8) else zL
theorem run_yes {X : List Int} {a b : Int} {n : Bool} (h : okRun X a b n = true) (W U Y : Bool) : runF X a b n W U Y = (frmF (tableF (thW X a)) (-a), W && bitF (thW X a) 1, U && bitF (thW X a) 2, Y && !bitF (thW X a) 63, bitF (thW X a) 6, runM X a b n 8) := by unfold runF; rw [if_pos h]
theorem run_no {X : List Int} {a b : Int} {n : Bool} (h : okRun X a b n = false) (W U Y : Bool) : runF X a b n W U Y = zL := by unfold runF; rw [if_neg (by simp [h])]
theorem runM_0 (X : List Int) (a b : Int) (n : Bool) : runM X a b n 0 = 0 := rfl
theorem runM_lt (X : List Int) (a b : Int) (n : Bool) (k : Nat) : 0 ≤ runM X a b n k ∧ runM X a b n k < 2 ^ k := by
  unfold runM
  have := acc_lt (fun i => togF X a b n (i : Int)) k
  have e : (2 : Int) ^ k = ((2 ^ k : Nat) : Int) := by simp
  rw [e]; omega
theorem runM_step (X : List Int) (a b : Int) (n : Bool) (k : Nat) : runM X a b n (k + 1) = runM X a b n k + if togF X a b n (k : Int) then 2 ^ k else 0 := by
  unfold runM
  show ((acc _ k + if _ then 2 ^ k else 0 : Nat) : Int) = _
  split <;> simp
theorem runM_no {X : List Int} {a b : Int} {n : Bool} {k : Nat} (h : togF X a b n (k : Int) = false) : runM X a b n (k + 1) = runM X a b n k := by rw [runM_step, h]; simp
theorem runM_or {X : List Int} {a b : Int} {n : Bool} {k : Nat} (hk : k < 8) (h : togF X a b n (k : Int) = true) : bits .or .u8 (runM X a b n k) (bit8 (k : Int)) = runM X a b n (k + 1) := by
  obtain ⟨h0, h1⟩ := runM_lt X a b n k
  have hp : (2 : Int) ^ k ≤ 2 ^ 8 := by
    have : (2 : Nat) ^ k ≤ 2 ^ 8 := Nat.pow_le_pow_right (by decide) (by omega)
    exact_mod_cast this
  obtain ⟨p, hp'⟩ := fin_of (m := runM X a b n k) ⟨h0, by omega⟩
  rw [runM_step, h, hp']
  unfold bit8
  rw [if_pos (by omega)]
  rw [hp'] at h1
  have h2 : p.val < 2 ^ k := by
    have e : (2 : Int) ^ k = ((2 ^ k : Nat) : Int) := by simp
    rw [e] at h1; omega
  have := all_or p ⟨k, hk⟩ h2
  simpa using this
theorem runM_add {X : List Int} {a b : Int} {n : Bool} {k : Nat} (hk : k < 8) (h : togF X a b n (k : Int) = true) : IntKind.u64.wrap (runM X a b n k + 2 ^ k) = runM X a b n (k + 1) := by
  obtain ⟨h0, h1⟩ := runM_lt X a b n k
  have hp : (2 : Int) ^ k ≤ 2 ^ 8 := by
    have : (2 : Nat) ^ k ≤ 2 ^ 8 := Nat.pow_le_pow_right (by decide) (by omega)
    exact_mod_cast this
  rw [runM_step, h, IntKind.wrap_u64]
  simp
  omega
theorem u8_runM (X : List Int) (a b : Int) (n : Bool) : U8 (runM X a b n 8) := by have := runM_lt X a b n 8; unfold U8; omega
theorem runM_u8 (X : List Int) (a b : Int) (n : Bool) : IntKind.u8.wrap (runM X a b n 8) = runM X a b n 8 := by
  have := u8_runM X a b n
  unfold U8 at this
  show runM X a b n 8 % 256 = _
  omega
theorem has_runM (X : List Int) (a b : Int) (n : Bool) {i : Int} (h0 : 0 ≤ i) (h7 : i ≤ 7) : hasM (runM X a b n 8) i = togF X a b n i := by
  unfold hasM runM
  rw [tb_acc]
  have e : ((i.toNat : Nat) : Int) = i := by omega
  simp [h0, h7, e]
  omega
theorem ok_run (X : List Int) (a b : Int) (n W U Y : Bool) : OkL (runF X a b n W U Y) := by
  unfold runF; split
  · exact u8_runM X a b n
  · exact ok_zL

theorem tb_alike (i : Nat) (h : i < 64) : tb 9223372036854775878 i = (decide (i = 1) || decide (i = 2) || decide (i = 6) || decide (i = 63)) := by
  have : ∀ k : Fin 64, tb 9223372036854775878 k.val = (decide (k.val = 1) || decide (k.val = 2) || decide (k.val = 6) || decide (k.val = 63)) := by decide +kernel
  exact this ⟨i, h⟩
theorem alike_and {x y : Int} (hx : W64 x) (hy : W64 y) : (bits .and .u64 x 9223372036854775878 == bits .and .u64 y 9223372036854775878) = alikeF x y := by
  have b1 := fun z (hz : W64 z) => bit_nat hz (k := 1) (by decide)
  have b2 := fun z (hz : W64 z) => bit_nat hz (k := 2) (by decide)
  have b6 := fun z (hz : W64 z) => bit_nat hz (k := 6) (by decide)
  have b63 := fun z (hz : W64 z) => bit_nat hz (k := 63) (by decide)
  have q1 := fun z (hz : W64 z) => tb_and hz.1 (show (0 : Int) ≤ 9223372036854775878 by decide)
  rw [Bool.eq_iff_iff, beq_iff_eq]
  unfold alikeF
  rw [show bitF x 1 = tb x 1 from b1 x hx, show bitF y 1 = tb y 1 from b1 y hy, show bitF x 2 = tb x 2 from b2 x hx, show bitF y 2 = tb y 2 from b2 y hy, show bitF x 6 = tb x 6 from b6 x hx, show bitF y 6 = tb y 6 from b6 y hy, show bitF x 63 = tb x 63 from b63 x hx, show bitF y 63 = tb y 63 from b63 y hy]
  simp only [Bool.and_eq_true, beq_iff_eq]
  constructor
  · intro h
    have g : ∀ i, i < 64 → (i = 1 ∨ i = 2 ∨ i = 6 ∨ i = 63) → tb x i = tb y i := by
      intro i hi hs
      have e1 := q1 x hx i
      have e2 := q1 y hy i
      rw [h, e2] at e1
      rw [tb_alike i hi] at e1
      have : (decide (i = 1) || decide (i = 2) || decide (i = 6) || decide (i = 63)) = true := by simp; omega
      rw [this] at e1
      simpa [hi] using e1.symm
    exact ⟨⟨⟨g 1 (by omega) (by omega), g 2 (by omega) (by omega)⟩, g 6 (by omega) (by omega)⟩, g 63 (by omega) (by omega)⟩
  · rintro ⟨⟨⟨h1, h2⟩, h6⟩, h63⟩
    apply tb_ext (w64_bits _ _ _) (w64_bits _ _ _)
    intro i hi
    rw [q1 x hx i, q1 y hy i, tb_alike i hi]
    by_cases c : i = 1 ∨ i = 2 ∨ i = 6 ∨ i = 63
    · rcases c with rfl | rfl | rfl | rfl
      · rw [h1]
      · rw [h2]
      · rw [h6]
      · rw [h63]
    · have : (decide (i = 1) || decide (i = 2) || decide (i = 6) || decide (i = 63)) = false := by simp; omega
      rw [this]; simp

/- A SLOT'S GROUP -/
def sltF (s i : Int) : Int := s - s % 64 + 8 * i
theorem w64_slt {s i : Int} (hs : W64 s) (h0 : 0 ≤ i) (h7 : i ≤ 7) : W64 (sltF s i) := by
  obtain ⟨a, b⟩ := hs
  unfold sltF W64
  omega
end Go.Proofs.YtmglikmphddicaaDoor
/- Contracts of package va: what each call returns, where the table of shifts holds what the program's text lays there. -/
namespace Go.Proofs.YtmglikmphddicaaDoor
set_option linter.unusedVariables false
set_option linter.unusedSimpArgs false
open Go.ChangeShapes Go.WideShapes Go.ChangeAt Go.RowKit

end Go.Proofs.YtmglikmphddicaaDoor
/- How arguments read behind a call that wrote nothing that was there; structs and arrays of numbers, by value. -/
namespace Go.Proofs.YtmglikmphddicaaDoor
set_option linter.unusedVariables false
set_option linter.unusedSimpArgs false
open Go.ChangeShapes Go.WideShapes Go.ChangeAt Go.RowKit Go.Joins

theorem trodAll_below {H : Type} {enc : TypeId × Value → H} {P : Program} (hl : laidOutB P = true) {W W' : World} (hb : Below W.heap.size W W') :
    ∀ (ts : List TypeId) (vs : List Value) (ds : List (DataW H)) (p : List MemPlace), (∀ t ∈ ts, P.readableRec t = true ∧ t < P.types.size) →
      DataW.TrodAll enc P W 0 (fun _ => true) true ts vs ds p → DataW.TrodAll enc P W' 0 (fun b => decide (b < W.heap.size)) true ts vs ds p := by
  intro ts
  induction ts with
  | nil =>
    intro vs ds p _ h
    obtain ⟨rfl, rfl, rfl⟩ := trodAll_nil h
    exact trodAll_mk0
  | cons t ts ih =>
    intro vs ds p hr h
    obtain ⟨v, vs', d, ds', p1, p2, rfl, rfl, rfl, h1, h2⟩ := trodAll_cons h
    have lt0 : ∀ x ∈ p1, x.block < W.heap.size := by obtain ⟨m, hm⟩ := h1; exact DataW.trod_lt m _ _ _ hm
    exact trodAll_cons_mk (Below.trod hl (hr t (by simp)).1 (hr t (by simp)).2 h1 hb lt0) (ih _ _ _ (fun t' ht' => hr t' (by simp [ht'])) h2)

/-- all of a list of types can be read -/
def readAllB (P : Program) (ts : List TypeId) : Bool := ts.all fun t => P.readableRec t && decide (t < P.types.size)

theorem readAll_of {P : Program} {ts : List TypeId} (h : readAllB P ts = true) : ∀ t ∈ ts, P.readableRec t = true ∧ t < P.types.size := by
  intro t ht
  have := List.all_eq_true.1 h t ht
  simpa using this

theorem quietOf {P : Program} {f : FuncId} {args : Array Value} {w : World} {n : Nat} {v : Value}
    (h : Calls P f args (w.drewN n) fun e w' => e = .returned v ∧ w.drewN n = w') : Calls P f args (w.drewN n) fun e w'' => e = .returned v ∧ ∃ m, w'' = w.drewN m :=
  h.mono fun _ _ ⟨he, hm⟩ => ⟨he, n, hm.symm⟩

section
variable {H : Type} {enc : TypeId × Value → H} {P : Program} {w : World} {base : Nat} {spare : Nat → Bool} {held : Bool}

theorem ints_of {k : IntKind} {e : TypeId} (he : P.underlying e = some (.int k)) {m : Nat} : ∀ (n : Nat) (cs : List Value) (xs : List (DataW H × List MemPlace)),
    cs.length = n → xs.length = n → (∀ i, i < n → DataW.trod enc P w base spare held m e ((cs.drop i).take 1) = xs[i]?) →
    ∃ zs : List Int, zs.length = n ∧ cs = zs.map (Value.int k) ∧ ∀ z ∈ zs, (Lit.int k z).wf = true := by
  intro n
  induction n with
  | zero =>
    intro cs xs hc _ _
    exact ⟨[], rfl, by simpa using List.length_eq_zero_iff.1 hc, by simp⟩
  | succ n ih =>
    intro cs xs hc hx h
    match cs, xs, hc, hx with
    | c :: cs, x :: xs, hc, hx =>
      have h0 := h 0 (by omega)
      simp at h0
      obtain ⟨z, hz, _, hw⟩ := DataW.trod_int he h0
      obtain ⟨zs, hl, hcs, hws⟩ := ih cs xs (by simpa using hc) (by simpa using hx) (fun i hi => by simpa using h (i + 1) (by omega))
      refine ⟨z :: zs, by simp [hl], ?_, ?_⟩
      · simp at hz
        rw [hz, hcs]; rfl
      · intro y hy
        rcases List.mem_cons.1 hy with rfl | hy
        · exact hw
        · exact hws y hy

end

end Go.Proofs.YtmglikmphddicaaDoor
