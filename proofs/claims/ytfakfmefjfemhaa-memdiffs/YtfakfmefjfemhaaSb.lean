/- slices.Sort at uint64, at fewer than fifty: bits.Len, nextPowerOfTwo, xorshift, breakPatternsOrdered. -/
import Derived.Test.YtfakfmefjfemhaaSp
import Derived.Test.YtfakfmefjfemhaaBv
namespace Go.Proofs.Ytfakfmefjfemhaa
set_option linter.unusedVariables false
set_option linter.unusedSimpArgs false
open Go.ChangeShapes Go.WideShapes Go.ChangeAt Go.RowKit
open Go.Sort (swp ltInt SortedIn PermIn)

def lenT (l : Nat) : Nat := if l = 0 then 0 else if l < 2 then 1 else if l < 4 then 2 else if l < 8 then 3 else if l < 16 then 4 else if l < 32 then 5 else 6

set_option maxRecDepth 100000 in
set_option maxHeartbeats 16000000 in
theorem len64_any (l : Nat) (w : World) (h : l < 50) : Calls Try.prog 73 #[.int .u64 l] w fun e w' => e = .returned (.int .i64 (lenT l)) ∧ w = w' := by
  have : l = 0 ∨ l = 1 ∨ l = 2 ∨ l = 3 ∨ l = 4 ∨ l = 5 ∨ l = 6 ∨ l = 7 ∨ l = 8 ∨ l = 9 ∨ l = 10 ∨ l = 11 ∨ l = 12 ∨ l = 13 ∨ l = 14 ∨ l = 15 ∨ l = 16 ∨ l = 17 ∨ l = 18 ∨ l = 19 ∨ l = 20 ∨ l = 21 ∨ l = 22 ∨ l = 23 ∨ l = 24 ∨ l = 25 ∨ l = 26 ∨ l = 27 ∨ l = 28 ∨ l = 29 ∨ l = 30 ∨ l = 31 ∨ l = 32 ∨ l = 33 ∨ l = 34 ∨ l = 35 ∨ l = 36 ∨ l = 37 ∨ l = 38 ∨ l = 39 ∨ l = 40 ∨ l = 41 ∨ l = 42 ∨ l = 43 ∨ l = 44 ∨ l = 45 ∨ l = 46 ∨ l = 47 ∨ l = 48 ∨ l = 49 := by omega
  clear h
  rcases this with rfl | rfl | rfl | rfl | rfl | rfl | rfl | rfl | rfl | rfl | rfl | rfl | rfl | rfl | rfl | rfl | rfl | rfl | rfl | rfl | rfl | rfl | rfl | rfl | rfl | rfl | rfl | rfl | rfl | rfl | rfl | rfl | rfl | rfl | rfl | rfl | rfl | rfl | rfl | rfl | rfl | rfl | rfl | rfl | rfl | rfl | rfl | rfl | rfl | rfl
  all_goals
    go_enter Try.func73, Try.ntmps73
    go_wp2
    go_ret
    exact ⟨by kernel_rfl, rfl⟩

theorem len_any (l : Nat) (w : World) (h : l < 50) : Calls Try.prog 60 #[.int .u64 l] w fun e w' => e = .returned (.int .i64 (lenT l)) ∧ w = w' := by
  go_enter Try.func60, Try.ntmps60
  go_wp2_with (go_at_call 73; refine (len64_any l _ h).mono ?_; rintro e w' ⟨rfl, rfl⟩)
  go_ret
  exact ⟨rfl, rfl⟩

theorem pow2_any (l : Nat) (w : World) (h : l < 50) (h8 : 8 ≤ l) : Calls Try.prog 75 #[.int .i64 l] w fun e w' => (∃ md : Int, e = .returned (.int .u64 md) ∧ (md = 16 ∨ md = 32 ∨ md = 64) ∧ l < md ∧ md ≤ 2 * l) ∧ w = w' := by
  have hl0 : (0 : Int) ≤ (l : Int) := by omega
  have hl1 : (l : Int) < 50 := by omega
  by_cases h1 : l < 16
  · have e : (lenT l : Int) = 4 := by unfold lenT; rw [if_neg (by omega), if_neg (by omega), if_neg (by omega), if_neg (by omega), if_pos h1]; rfl
    go_enter Try.func75, Try.ntmps75
    go_wp2_with (go_at_call 60; refine (len_any l _ h).mono ?_; rw [e]; rintro e w' ⟨rfl, rfl⟩)
    go_ret
    exact ⟨⟨16, rfl, by omega, by omega, by omega⟩, rfl⟩
  · by_cases h2 : l < 32
    · have e : (lenT l : Int) = 5 := by unfold lenT; rw [if_neg (by omega), if_neg (by omega), if_neg (by omega), if_neg (by omega), if_neg h1, if_pos h2]; rfl
      go_enter Try.func75, Try.ntmps75
      go_wp2_with (go_at_call 60; refine (len_any l _ h).mono ?_; rw [e]; rintro e w' ⟨rfl, rfl⟩)
      go_ret
      exact ⟨⟨32, rfl, by omega, by omega, by omega⟩, rfl⟩
    · have e : (lenT l : Int) = 6 := by unfold lenT; rw [if_neg (by omega), if_neg (by omega), if_neg (by omega), if_neg (by omega), if_neg h1, if_neg h2]; rfl
      go_enter Try.func75, Try.ntmps75
      go_wp2_with (go_at_call 60; refine (len_any l _ h).mono ?_; rw [e]; rintro e w' ⟨rfl, rfl⟩)
      go_ret
      exact ⟨⟨64, rfl, by omega, by omega, by omega⟩, rfl⟩

/-- a generator of numbers in a block of its own -/
def Rng (w : World) (s : Nat) : Prop := ∃ c : Int, w.heap[s]? = some (.cells #[.int .u64 c] 116 (0, 0))
theorem Rng.ne {w : World} {s g N : Nat} {d : Array Int} (h : Rng w s) (hr : Row w g N d) : s ≠ g := by
  rintro rfl
  obtain ⟨c, hc⟩ := h
  obtain ⟨c', hc', _⟩ := hr
  rw [hc] at hc'; simp at hc'

theorem one_set2 {w : World} {s : Nat} {u v : Value} {t : TypeId} (h : w.heap[s]? = some (.cells #[u] t (0, 0))) : (w.setCell ⟨s, 0, none⟩ v).heap[s]? = some (.cells #[v] t (0, 0)) := one_setCell h

set_option maxRecDepth 100000 in
set_option maxHeartbeats 4000000 in
theorem next_any (w : World) (s : Nat) (hs : Rng w s) : Calls Try.prog 76 #[.pointer (some ⟨s, 0, none⟩)] w fun e w' => ∃ r : Int, e = .returned (.int .u64 r) ∧ Rng w' s ∧ Turn (fun i => i = s) w w' := by
  obtain ⟨c, hc⟩ := hs
  have c0 := cell_of_one hc
  have f0 := free_of_one hc
  have hA : ∀ x y z : Value, (((w.setCell ⟨s, 0, none⟩ x).setCell ⟨s, 0, none⟩ y).setCell ⟨s, 0, none⟩ z).cell? ⟨s, 0, none⟩ = some z := fun x y z => cell_of_one (one_setCell (one_setCell (one_setCell hc)))
  go_enter Try.func76, Try.ntmps76
  go_wp2
  go_region
  go_wp2
  go_region
  go_wp2
  go_region
  go_wp2
  go_ret
  exact ⟨_, rfl, ⟨_, one_setCell (one_setCell (one_setCell hc))⟩, ⟨rfl, rfl, rfl, by simp [World.setCell], fun i _ hi => (Below.heap_setCell _ _ _ _ hi).trans ((Below.heap_setCell _ _ _ _ hi).trans (Below.heap_setCell _ _ _ _ hi))⟩⟩

theorem and_le (r m : Int) (h0 : 0 ≤ m) (h1 : m < 18446744073709551616) : 0 ≤ bits .and .u64 r m ∧ bits .and .u64 r m ≤ m := by
  have e : bits .and .u64 r m = ((BitVec.ofInt 64 r &&& BitVec.ofInt 64 m).toNat : Int) := wrap_bv _
  rw [e, BitVec.toNat_and]
  have h2 : (BitVec.ofInt 64 m).toNat ≤ m.toNat := by
    rw [BitVec.toNat_ofInt]
    have : (m % (2 ^ 64 : Nat)) = m := Int.emod_eq_of_lt h0 (by simpa using h1)
    rw [this]; exact Nat.le_refl _
  have h3 := Nat.and_le_right (n := (BitVec.ofInt 64 r).toNat) (m := (BitVec.ofInt 64 m).toNat)
  omega

end Go.Proofs.Ytfakfmefjfemhaa
