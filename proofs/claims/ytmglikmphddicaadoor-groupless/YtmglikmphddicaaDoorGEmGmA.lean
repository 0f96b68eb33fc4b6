/- Several texts of ours in one: Em, Gm, A. -/
import Derived.Test.YtmglikmphddicaaDoorGBvMVm
import Derived.Test.YtmglikmphddicaaDoorRows
import Derived.WalkKit
import Derived.ProofKit
import Derived.OpenShut
/- Plain mathematics of entries: a word's table, its bits, what may not be, slots and frames. Nothing of the program. -/
namespace Go.Proofs.YtmglikmphddicaaDoor
set_option linter.unusedVariables false
set_option linter.unusedSimpArgs false

def tableF (x : Int) : Int := x / 4096 % 1099511627776 * 4096
def hasF (x m : Int) : Bool := bits .and .u64 x m != 0
def leafF (x l : Int) : Bool := l == 1 || ((l == 2 || l == 3) && bitF x 7)
def lowB (b : Int) : Int := if b < 12 then 12 else b
def beyondF (b : Int) : Int := maskF (lowB b) (52 - lowB b)
def resF (x l b : Int) (nxe : Bool) : Bool :=
  hasF x (beyondF b) || (bitF x 63 && !nxe) || (l == 4 && bitF x 7) || (l == 2 && bitF x 7 && hasF x (maskF 13 8)) || (l == 3 && bitF x 7 && hasF x (maskF 13 17))
theorem table_bd (x : Int) : 0 ≤ tableF x ∧ tableF x < 4503599627370496 := by unfold tableF; omega
theorem w64_table (x : Int) : W64 (tableF x) := by have := table_bd x; unfold W64; omega
theorem table_get {x : Int} (hx : W64 x) : IntKind.u64.wrap (getF x 12 40 * 4096) = tableF x := by
  have e := get_div (a := x) (lo := 12) (n := 40) hx (by decide)
  rw [e, IntKind.wrap_u64]
  show x / 4096 % 1099511627776 * 4096 % 18446744073709551616 = x / 4096 % 1099511627776 * 4096
  omega

theorem tb_table {x : Int} (hx : W64 x) (i : Nat) : tb (tableF x) i = (decide (12 ≤ i) && decide (i < 52) && tb x i) := by
  rw [← table_get hx, show (4096 : Int) = 2 ^ 12 by decide, tb_shl (w64_get _ _ _).1, tb_get hx, show isF 12 40 = true by decide]
  by_cases h : 12 ≤ i
  · rw [show i - 12 + (12 : Int).toNat = i by simp; omega]
    by_cases h2 : i < 52
    · simp [h, h2, show i < 64 by omega]; omega
    · simp [h, h2]; omega
  · simp [h]

theorem table_and {x : Int} (hx : W64 x) : bits .and .u64 x (maskF 12 40) = tableF x := by
  apply tb_ext (w64_bits _ _ _) (w64_table _)
  intro i hi
  rw [tb_and hx.1 (w64_mask _ _).1, tb_mask, tb_table hx, show isF 12 40 = true by decide]
  cases tb x i
  · simp
  · rw [Bool.eq_iff_iff]; simp [hi]; omega

theorem mask_lits : maskF 0 1 = 1 ∧ maskF 1 1 = 2 ∧ maskF 2 1 = 4 ∧ maskF 5 1 = 32 ∧ maskF 6 1 = 64 ∧ maskF 7 1 = 128 ∧ maskF 63 1 = 9223372036854775808 := by decide +kernel

theorem has_b0 (x : Int) : hasF x 1 = bitF x 0 := by unfold hasF bitF; rw [mask_lits.1]
theorem has_b1 (x : Int) : hasF x 2 = bitF x 1 := by unfold hasF bitF; rw [mask_lits.2.1]
theorem has_b2 (x : Int) : hasF x 4 = bitF x 2 := by unfold hasF bitF; rw [mask_lits.2.2.1]
theorem has_b5 (x : Int) : hasF x 32 = bitF x 5 := by unfold hasF bitF; rw [mask_lits.2.2.2.1]
theorem has_b6 (x : Int) : hasF x 64 = bitF x 6 := by unfold hasF bitF; rw [mask_lits.2.2.2.2.1]
theorem has_b7 (x : Int) : hasF x 128 = bitF x 7 := by unfold hasF bitF; rw [mask_lits.2.2.2.2.2.1]
theorem has_b63 (x : Int) : hasF x 9223372036854775808 = bitF x 63 := by unfold hasF bitF; rw [mask_lits.2.2.2.2.2.2]

theorem has_yes {x m : Int} (hx : W64 x) (hm : W64 m) {i : Nat} (h1 : tb x i = true) (h2 : tb m i = true) : hasF x m = true := by
  have hi : i < 64 := by
    rcases Nat.lt_or_ge i 64 with h | h
    · exact h
    · rw [tb_ge hx h] at h1; cases h1
  unfold hasF
  rw [bne_iff_ne]
  intro hz
  have e := tb_and hx.1 hm.1 i
  rw [hz, tb_zero, h1, h2] at e
  simp [hi] at e

theorem has_no {x m : Int} (hx : W64 x) (hm : W64 m) (h : ∀ i, i < 64 → tb m i = true → tb x i = false) : hasF x m = false := by
  have hz : bits .and .u64 x m = 0 := by
    apply tb_ext (w64_bits _ _ _) w64_zero
    intro i hi
    rw [tb_and hx.1 hm.1, tb_zero]
    cases hmi : tb m i
    · simp
    · simp [h i hi hmi]
  unfold hasF; rw [hz]; rfl

/-- bits one by one -/
theorem has_some {x : Int} (hx : W64 x) {lo hi : Nat} (h : lo ≤ hi + 1) (h63 : hi ≤ 63) {k : Nat} (h1 : lo ≤ k) (h2 : k ≤ hi) (hb : tb x k = true) : hasF x (maskF lo (hi + 1 - lo)) = true := by
  refine has_yes hx (w64_mask _ _) hb ?_
  rw [tb_mask]
  simp [isF]
  omega

theorem has_none {x : Int} (hx : W64 x) {lo hi : Nat} (hb : ∀ j, lo ≤ j → j < hi + 1 → tb x j = false) : hasF x (maskF lo (hi + 1 - lo)) = false := by
  refine has_no hx (w64_mask _ _) ?_
  intro i hi64 hm
  rw [tb_mask] at hm
  simp at hm
  exact hb i (by omega) (by omega)

/- ### what may not be -/
theorem leaf_two (x : Int) : leafF x 2 = bitF x 7 := by unfold leafF; simp
theorem leaf_three (x : Int) : leafF x 3 = bitF x 7 := by unfold leafF; simp
theorem leaf_else (x : Int) {l : Int} (h1 : l ≠ 1) (h2 : l ≠ 2) (h3 : l ≠ 3) : leafF x l = false := by unfold leafF; simp [h1, h2, h3]

/- ### slots and frames -/
end Go.Proofs.YtmglikmphddicaaDoor
/- Plain mathematics of rights: what is left behind a word, who may, and a fault's code. Nothing of the program. -/
namespace Go.Proofs.YtmglikmphddicaaDoor
set_option linter.unusedVariables false
set_option linter.unusedSimpArgs false

end Go.Proofs.YtmglikmphddicaaDoor
/- Contracts of package field: what each call returns, in an unchanged world. -/
namespace Go.Proofs.YtmglikmphddicaaDoor
set_option linter.unusedVariables false
set_option linter.unusedSimpArgs false
open Go.ChangeShapes Go.WideShapes Go.ChangeAt Go.RowKit

/-- a number that fits an int -/
def I64 (n : Int) : Prop := -9223372036854775808 ≤ n ∧ n ≤ 9223372036854775807

theorem ret_int {k : IntKind} {a b : Int} (h : a = b) : Ending.returned (.int k a) = .returned (.int k b) := by rw [h]

theorem ret_bool {a b : Bool} (h : a = b) : Ending.returned (.bool a) = .returned (.bool b) := by rw [h]

theorem isField_any (lo n : Int) (w : World) (hn : I64 n) :
    Calls Tryd.prog 46 #[.int .i64 lo, .int .i64 n] w fun e w' => e = .returned (.bool (isF lo n)) ∧ w = w' := by
  obtain ⟨h1, h2⟩ := hn
  by_cases a : lo < 0
  · have e : isF lo n = false := isF_no (by omega)
    rw [e]
    go_enter Tryd.func46, Tryd.ntmps46
    go_wp2
    go_ret
    exact ⟨rfl, rfl⟩
  · by_cases b : n < 1
    · have e : isF lo n = false := isF_no (by omega)
      rw [e]
      go_enter Tryd.func46, Tryd.ntmps46
      go_wp2
      go_ret
      exact ⟨rfl, rfl⟩
    · by_cases c : 64 - n < lo
      · have e : isF lo n = false := isF_no (by omega)
        rw [e]
        go_enter Tryd.func46, Tryd.ntmps46
        go_wp2
        go_ret
        exact ⟨rfl, rfl⟩
      · have e : isF lo n = true := isF_mk (by omega) (by omega) (by omega)
        rw [e]
        go_enter Tryd.func46, Tryd.ntmps46
        go_wp2
        go_ret
        exact ⟨rfl, rfl⟩

theorem mask_any (lo n : Int) (w : World) (hn : I64 n) :
    Calls Tryd.prog 40 #[.int .i64 lo, .int .i64 n] w fun e w' => e = .returned (.int .u64 (maskF lo n)) ∧ w = w' := by
  by_cases h : isF lo n = true
  · obtain ⟨b1, b2, b3⟩ := isF_bd h
    have e : maskF lo n = IntKind.u64.wrap (18446744073709551615 / 2 ^ (64 - n).toNat * 2 ^ lo.toNat) := by unfold maskF; rw [if_pos h]
    rw [e]
    clear e
    go_enter Tryd.func40, Tryd.ntmps40
    go_wp2_with (go_at_call 46; refine (isField_any _ _ _ hn).mono ?_; rintro e w' ⟨rfl, rfl⟩)
    go_ret
    exact ⟨rfl, rfl⟩
  · have h' : isF lo n = false := by simpa using h
    have e : maskF lo n = 0 := by unfold maskF; rw [if_neg h]
    rw [e]
    clear e h
    go_enter Tryd.func40, Tryd.ntmps40
    go_wp2_with (go_at_call 46; refine (isField_any _ _ _ hn).mono ?_; rintro e w' ⟨rfl, rfl⟩)
    go_ret
    exact ⟨rfl, rfl⟩

end Go.Proofs.YtmglikmphddicaaDoor
