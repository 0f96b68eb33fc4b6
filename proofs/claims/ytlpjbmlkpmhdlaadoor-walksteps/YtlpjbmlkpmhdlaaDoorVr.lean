/- Contracts of dormerref03: what each call of the document's own answer returns. -/
import Derived.Test.YtlpjbmlkpmhdlaaDoorVa
import Derived.Test.YtlpjbmlkpmhdlaaDoorR
namespace Go.Proofs.YtlpjbmlkpmhdlaaDoor
set_option linter.unusedVariables false
set_option linter.unusedSimpArgs false
open Go.ChangeShapes Go.WideShapes Go.ChangeAt Go.RowKit

/-- how far the bits above 47 are as it -/
def Signed (a x : Int) (k : Nat) : Prop := W64 x ∧ (∀ j, j < 48 → tb x j = tb a j) ∧ ∀ j, 48 ≤ j → j < 48 + k → tb x j = tb a 47

theorem signed_zero {a : Int} (ha : W64 a) : Signed a a 0 := ⟨ha, fun _ _ => rfl, fun j h1 h2 => absurd h2 (by omega)⟩

theorem signed_step {a x : Int} {k : Nat} (h : Signed a x k) (hk : k < 16) : Signed a (withF x (48 + k) (bitF x 47)) (k + 1) := by
  obtain ⟨hx, h1, h2⟩ := h
  have hb : bitF x 47 = tb a 47 := by rw [bitF_tb hx]; simpa using h1 47 (by omega)
  refine ⟨w64_with _ _, ?_, ?_⟩
  · intro j hj
    rw [tb_with hx, if_neg (by omega), h1 j hj]
  · intro j h3 h4
    rw [tb_with hx, hb]
    by_cases c : j = 48 + k
    · rw [if_pos (by omega)]; simp [show j < 64 by omega]
    · rw [if_neg (by omega)]; exact h2 j h3 (by omega)

theorem signed_all {a x : Int} (ha : W64 a) (h : Signed a x 16) : x = signF a :=
  sign_of ha h.1 h.2.1 fun i h1 h2 => h.2.2 i h1 (by omega)

theorem canon_comm (a : Int) : (signF a == a) = canonF a := by
  unfold canonF; rw [Bool.eq_iff_iff, beq_iff_eq, beq_iff_eq]; exact ⟨Eq.symm, Eq.symm⟩

theorem rsize_any (l : Int) (w : World) :
    Calls Tryd.prog 73 #[.int .i64 l] w fun e w' => e = .returned (.int .u64 (sizeF l)) ∧ w = w' := by
  by_cases h1 : l = 1
  · subst h1
    go_enter Tryd.func73, Tryd.ntmps73
    go_wp2
    go_ret
    exact ⟨rfl, rfl⟩
  · by_cases h2 : l = 2
    · subst h2
      go_enter Tryd.func73, Tryd.ntmps73
      go_wp2
      go_ret
      exact ⟨rfl, rfl⟩
    · by_cases h3 : l = 3
      · subst h3
        go_enter Tryd.func73, Tryd.ntmps73
        go_wp2
        go_ret
        exact ⟨rfl, rfl⟩
      · have e : sizeF l = 0 := by unfold sizeF; rw [if_neg h1, if_neg h2, if_neg h3]
        rw [e]
        go_enter Tryd.func73, Tryd.ntmps73
        go_wp2
        go_ret
        exact ⟨rfl, rfl⟩

theorem idx_t {a : Int} (ha : W64 a) {d : Int} (hd : 0 < d) : wrap64 ((IntKind.u64.wrap (a.tdiv d)).tmod 512) = a / d % 512 := by
  have e1 : a.tdiv d = a / d := Int.tdiv_eq_ediv_of_nonneg ha.1
  have h1 : 0 ≤ a / d := Int.ediv_nonneg ha.1 (by omega)
  have h2 : a / d ≤ a := Int.ediv_le_self _ ha.1
  obtain ⟨h3, h4⟩ := ha
  rw [e1]
  generalize a / d = x at *
  rw [IntKind.wrap_u64, Int.emod_eq_of_lt h1 (by omega), Int.tmod_eq_emod_of_nonneg h1]
  unfold wrap64
  omega

theorem rindex_any (a l : Int) (w : World) (ha : W64 a) :
    Calls Tryd.prog 70 #[.int .u64 a, .int .i64 l] w fun e w' => e = .returned (.int .i64 (indexF a l)) ∧ w = w' := by
  by_cases h1 : l < 1
  · have e : indexF a l = 0 := by unfold indexF; rw [if_neg (by omega), if_neg (by omega), if_neg (by omega), if_neg (by omega)]
    rw [e]
    go_enter Tryd.func70, Tryd.ntmps70
    go_wp2
    go_ret
    exact ⟨rfl, rfl⟩
  · by_cases h2 : 4 < l
    · have e : indexF a l = 0 := by unfold indexF; rw [if_neg (by omega), if_neg (by omega), if_neg (by omega), if_neg (by omega)]
      rw [e]
      go_enter Tryd.func70, Tryd.ntmps70
      go_wp2
      go_ret
      exact ⟨rfl, rfl⟩
    · have x1 := Lib.hid (idx_t ha (d := 4096) (by decide))
      have x2 := Lib.hid (idx_t ha (d := 2097152) (by decide))
      have x3 := Lib.hid (idx_t ha (d := 1073741824) (by decide))
      have x4 := Lib.hid (idx_t ha (d := 549755813888) (by decide))
      obtain rfl | rfl | rfl | rfl : l = 1 ∨ l = 2 ∨ l = 3 ∨ l = 4 := by omega
      · go_enter Tryd.func70, Tryd.ntmps70
        go_wp2_with (go_at_call 71; refine (power_any _ _ (by decide) (by decide)).mono ?_; rintro e w' ⟨rfl, rfl⟩)
        go_ret
        exact ⟨ret_int x1.out, rfl⟩
      · go_enter Tryd.func70, Tryd.ntmps70
        go_wp2_with (go_at_call 71; refine (power_any _ _ (by decide) (by decide)).mono ?_; rintro e w' ⟨rfl, rfl⟩)
        go_ret
        exact ⟨ret_int x2.out, rfl⟩
      · go_enter Tryd.func70, Tryd.ntmps70
        go_wp2_with (go_at_call 71; refine (power_any _ _ (by decide) (by decide)).mono ?_; rintro e w' ⟨rfl, rfl⟩)
        go_ret
        exact ⟨ret_int x3.out, rfl⟩
      · go_enter Tryd.func70, Tryd.ntmps70
        go_wp2_with (go_at_call 71; refine (power_any _ _ (by decide) (by decide)).mono ?_; rintro e w' ⟨rfl, rfl⟩)
        go_ret
        exact ⟨ret_int x4.out, rfl⟩

end Go.Proofs.YtlpjbmlkpmhdlaaDoor
