/- Contracts of package va: what each call returns, where the table of shifts holds what the program's text lays there. -/
import Derived.Test.YtlpjbmlkpmhdlaaDoorA
import Derived.Test.YtlpjbmlkpmhdlaaDoorVm
import Derived.Test.YtlpjbmlkpmhdlaaDoorN
import Derived.Below
import Derived.OwnWalk
namespace Go.Proofs.YtlpjbmlkpmhdlaaDoor
set_option linter.unusedVariables false
set_option linter.unusedSimpArgs false
open Go.ChangeShapes Go.WideShapes Go.ChangeAt Go.RowKit

/-- the table of shifts, as it is laid -/
def Shifts (w : World) : Prop :=
  w.cell? ⟨0, 0, none⟩ = some (.int .i64 12) ∧ w.cell? ⟨0, 1, none⟩ = some (.int .i64 21) ∧ w.cell? ⟨0, 2, none⟩ = some (.int .i64 30) ∧ w.cell? ⟨0, 3, none⟩ = some (.int .i64 39)

theorem i64_16 : I64 16 := ⟨by decide, by decide⟩
theorem i64_9 : I64 9 := ⟨by decide, by decide⟩

theorem sign_or {a : Int} (ha : W64 a) (h : bitF a 47 = true) : bits .or .u64 a (maskF 48 16) = signF a := by
  have h' : tb a 47 = true := by rw [bitF_tb ha] at h; simpa using h
  apply sign_of ha (w64_bits _ _ _)
  · intro i hi
    rw [tb_or ha.1 (w64_mask _ _).1, tb_mask]
    simp [show i < 64 by omega]; omega
  · intro i h1 h2
    rw [tb_or ha.1 (w64_mask _ _).1, tb_mask, h']
    simp [h2, show isF 48 16 = true by decide]; right; omega

theorem sign_andNot {a : Int} (ha : W64 a) (h : bitF a 47 = false) : bits .andNot .u64 a (maskF 48 16) = signF a := by
  have h' : tb a 47 = false := by rw [bitF_tb ha] at h; simpa using h
  apply sign_of ha (w64_bits _ _ _)
  · intro i hi
    rw [tb_andNot ha.1 (w64_mask _ _).1, tb_mask]
    simp [show i < 64 by omega]; omega
  · intro i h1 h2
    rw [tb_andNot ha.1 (w64_mask _ _).1, tb_mask, h']
    simp [h2, show isF 48 16 = true by decide]; omega

theorem size_any (l : Int) (w : World) (hs : Shifts w) :
    Calls Tryd.prog 92 #[.int .i64 l] w fun e w' => e = .returned (.int .u64 (sizeF l)) ∧ w = w' := by
  obtain ⟨s1, s2, s3, s4⟩ := hs
  by_cases h1 : l < 1
  · have e : sizeF l = 0 := by unfold sizeF; rw [if_neg (by omega), if_neg (by omega), if_neg (by omega)]
    rw [e]
    go_enter Tryd.func92, Tryd.ntmps92
    go_wp2
    go_ret
    exact ⟨rfl, rfl⟩
  · by_cases h2 : 3 < l
    · have e : sizeF l = 0 := by unfold sizeF; rw [if_neg (by omega), if_neg (by omega), if_neg (by omega)]
      rw [e]
      go_enter Tryd.func92, Tryd.ntmps92
      go_wp2
      go_ret
      exact ⟨rfl, rfl⟩
    · obtain rfl | rfl | rfl : l = 1 ∨ l = 2 ∨ l = 3 := by omega
      · go_enter Tryd.func92, Tryd.ntmps92
        go_wp2
        go_ret
        exact ⟨rfl, rfl⟩
      · go_enter Tryd.func92, Tryd.ntmps92
        go_wp2
        go_ret
        exact ⟨rfl, rfl⟩
      · go_enter Tryd.func92, Tryd.ntmps92
        go_wp2
        go_ret
        exact ⟨rfl, rfl⟩

theorem index_any (a l : Int) (w : World) (hs : Shifts w) (ha : W64 a) :
    Calls Tryd.prog 65 #[.int .u64 a, .int .i64 l] w fun e w' => e = .returned (.int .i64 (indexF a l)) ∧ w = w' := by
  obtain ⟨s1, s2, s3, s4⟩ := hs
  by_cases h1 : l < 1
  · have e : indexF a l = 0 := by unfold indexF; rw [if_neg (by omega), if_neg (by omega), if_neg (by omega), if_neg (by omega)]
    rw [e]
    go_enter Tryd.func65, Tryd.ntmps65
    go_wp2
    go_ret
    exact ⟨rfl, rfl⟩
  · by_cases h2 : 4 < l
    · have e : indexF a l = 0 := by unfold indexF; rw [if_neg (by omega), if_neg (by omega), if_neg (by omega), if_neg (by omega)]
      rw [e]
      go_enter Tryd.func65, Tryd.ntmps65
      go_wp2
      go_ret
      exact ⟨rfl, rfl⟩
    · obtain ⟨g1, g2, g3, g4⟩ := get_index ha
      obtain ⟨b0, b1⟩ := index_bd a l
      obtain rfl | rfl | rfl | rfl : l = 1 ∨ l = 2 ∨ l = 3 ∨ l = 4 := by omega
      · rw [← g1] at b0 b1 ⊢
        clear g1 g2 g3 g4 ha
        go_enter Tryd.func65, Tryd.ntmps65
        go_wp2_with (go_at_call 84; refine (get_any _ _ _ _ i64_9).mono ?_; rintro e w' ⟨rfl, rfl⟩)
        go_ret
        exact ⟨rfl, rfl⟩
      · rw [← g2] at b0 b1 ⊢
        clear g1 g2 g3 g4 ha
        go_enter Tryd.func65, Tryd.ntmps65
        go_wp2_with (go_at_call 84; refine (get_any _ _ _ _ i64_9).mono ?_; rintro e w' ⟨rfl, rfl⟩)
        go_ret
        exact ⟨rfl, rfl⟩
      · rw [← g3] at b0 b1 ⊢
        clear g1 g2 g3 g4 ha
        go_enter Tryd.func65, Tryd.ntmps65
        go_wp2_with (go_at_call 84; refine (get_any _ _ _ _ i64_9).mono ?_; rintro e w' ⟨rfl, rfl⟩)
        go_ret
        exact ⟨rfl, rfl⟩
      · rw [← g4] at b0 b1 ⊢
        clear g1 g2 g3 g4 ha
        go_enter Tryd.func65, Tryd.ntmps65
        go_wp2_with (go_at_call 84; refine (get_any _ _ _ _ i64_9).mono ?_; rintro e w' ⟨rfl, rfl⟩)
        go_ret
        exact ⟨rfl, rfl⟩

theorem low_any (a l : Int) (w : World) (hs : Shifts w) (a0 : 0 ≤ a) :
    Calls Tryd.prog 86 #[.int .u64 a, .int .i64 l] w fun e w' => e = .returned (.int .u64 (lowF a l)) ∧ w = w' := by
  by_cases h : sizeF l = 0
  · have e : lowF a l = 0 := by unfold lowF; rw [if_pos h]
    rw [e]
    go_enter Tryd.func86, Tryd.ntmps86
    go_wp2_with (go_at_call 92; refine (size_any _ _ hs).mono ?_; rintro e w' ⟨rfl, rfl⟩)
    go_ret
    exact ⟨rfl, rfl⟩
  · have e : lowF a l = a % sizeF l := by unfold lowF; rw [if_neg h]
    rw [e]
    obtain ⟨b0, b1⟩ := size_bd l
    have b2 : 1 ≤ sizeF l := by omega
    go_enter Tryd.func86, Tryd.ntmps86
    go_wp2_with (go_at_call 92; refine (size_any _ _ hs).mono ?_; rintro e w' ⟨rfl, rfl⟩)
    go_ret
    exact ⟨rfl, rfl⟩

theorem page_any (a l : Int) (w : World) (hs : Shifts w) (ha : W64 a) :
    Calls Tryd.prog 69 #[.int .u64 a, .int .i64 l] w fun e w' => e = .returned (.int .u64 (pageF a l)) ∧ w = w' := by
  have e := Lib.hid (wrap_page ha l)
  have a0 := ha.1
  go_enter Tryd.func69, Tryd.ntmps69
  go_wp2_with (go_at_call 86; refine (low_any _ _ _ hs a0).mono ?_; rintro e w' ⟨rfl, rfl⟩)
  go_ret
  exact ⟨ret_int e.out, rfl⟩

theorem ret_two {k : IntKind} {a b : Int} {x y : Bool} (h : a = b) (g : x = y) : Ending.returned (.tuple #[.int k a, .bool x]) = .returned (.tuple #[.int k b, .bool y]) := by rw [h, g]

theorem next_no {a : Int} (h : nextB a = false) : nextF a = 0 := by unfold nextF; rw [h]; rfl
theorem next_yes {a : Int} (h : nextB a = true) : nextF a = overF a := by unfold nextF; rw [h]; rfl
theorem over_eq {a n : Int} (h : overF a = n) : IntKind.u64.wrap (pageF a 1 + sizeF 1) = n := h

end Go.Proofs.YtlpjbmlkpmhdlaaDoor
