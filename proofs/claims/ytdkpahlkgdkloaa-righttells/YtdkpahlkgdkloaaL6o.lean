/- The walk of RightOrder. -/
import Derived.Test.YtdkpahlkgdkloaaL6
import Derived.Deep.RegionHeld3
namespace Go.Proofs.Ytdkpahlkgdkloaa
set_option linter.unusedVariables false
set_option linter.unusedSimpArgs false
open Go.ChangeShapes Go.WideShapes Go.ChangeAt Go.RowKit Go.Joins
attribute [local go_sem ↓] Go.wp_at_zero Go.wp_at_succ

/-- And of a right and a word is a right; Least of two -/
def AndIs (a b c : Bool) (x : Int) (a' b' c' : Bool) : Prop := ∀ W, Calls Try.prog 13 #[rgtV a b c, .int .u64 x] W fun e W' => e = .returned (rgtV a' b' c') ∧ Kept W W'
def LeastIs (a b c a' b' c' : Bool) (r : Bool) : Prop := ∀ W, Calls Try.prog 15 #[rgtV a b c, rgtV a' b' c'] W fun e W' => e = .returned (.bool r) ∧ Kept W W'

theorem AndIs.go {a b c a' b' c' : Bool} {x : Int} (h : AndIs a b c x a' b' c') (W : World) : Calls Try.prog 13 #[rgtV a b c, .int .u64 x] W fun e W' => e = .returned (rgtV a' b' c') ∧ Kept W W' := h W
theorem LeastIs.go {a b c a' b' c' r : Bool} (h : LeastIs a b c a' b' c' r) (W : World) : Calls Try.prog 15 #[rgtV a b c, rgtV a' b' c'] W fun e W' => e = .returned (.bool r) ∧ Kept W W' := h W

theorem and_is (a b c : Bool) (x : Int) : AndIs a b c x (a && bitF x 1) (b && bitF x 2) (c && !bitF x 63) := fun W => and_any a b c x W
theorem least_is {a b c a' b' c' r : Bool} (h : leastF a b c a' b' c' = r) : LeastIs a b c a' b' c' r := by subst h; exact fun W => least_any a b c a' b' c' W
theorem and_as {a b c a' b' c' : Bool} {x : Int} (h0 : (a && bitF x 1) = a') (h1 : (b && bitF x 2) = b') (h2 : (c && !bitF x 63) = c') : AndIs a b c x a' b' c' := by subst h0 h1 h2; exact and_is a b c x

theorem six_bits : bitF 6 1 = true ∧ bitF 6 2 = true ∧ bitF 6 63 = false := by decide +kernel

theorem order_is (a b c : Bool) (x y : Int) :
    ∃ p q s p' q' s' m n o : Bool, AndIs a b c x p q s ∧ AndIs p q s y p' q' s' ∧ AndIs a b c y m n o ∧ AndIs m n o x p' q' s' ∧ AndIs p' q' s' x p' q' s' ∧
      LeastIs p' q' s' a b c true ∧ LeastIs p' q' s' p q s true ∧ AndIs a b c 6 a b c ∧ LeastIs a b c true true true true := by
  obtain ⟨s1, s2, s3⟩ := six_bits
  refine ⟨_, _, _, _, _, _, _, _, _, and_is a b c x, and_is _ _ _ y, and_is a b c y, and_as ?_ ?_ ?_, and_as ?_ ?_ ?_, least_is ?_, least_is ?_, and_as ?_ ?_ ?_, least_is ?_⟩
  · cases a <;> cases bitF x 1 <;> cases bitF y 1 <;> rfl
  · cases b <;> cases bitF x 2 <;> cases bitF y 2 <;> rfl
  · cases c <;> cases bitF x 63 <;> cases bitF y 63 <;> rfl
  · cases a <;> cases bitF x 1 <;> cases bitF y 1 <;> rfl
  · cases b <;> cases bitF x 2 <;> cases bitF y 2 <;> rfl
  · cases c <;> cases bitF x 63 <;> cases bitF y 63 <;> rfl
  · unfold leastF
    cases a <;> cases b <;> cases c <;> cases bitF x 1 <;> cases bitF y 1 <;> cases bitF x 2 <;> cases bitF y 2 <;> cases bitF x 63 <;> cases bitF y 63 <;> rfl
  · unfold leastF
    cases a <;> cases b <;> cases c <;> cases bitF x 1 <;> cases bitF y 1 <;> cases bitF x 2 <;> cases bitF y 2 <;> cases bitF x 63 <;> cases bitF y 63 <;> rfl
  · rw [s1]; simp
  · rw [s2]; simp
  · rw [s3]; simp
  · unfold leastF; simp

theorem two_and {w1 w2 : World} {g h : Nat} {a b c a' b' c' : Bool} (h1 : RgtAt w1 g a b c) (h2 : RgtAt w1 h a' b' c') (hg : g < w1.heap.size) (hh : h < w1.heap.size) (hk : Kept w1 w2) :
    w2.cell? ⟨g, 0, none⟩ = some (.bool a) ∧ w2.cell? ⟨g, 1, none⟩ = some (.bool b) ∧ w2.cell? ⟨g, 2, none⟩ = some (.bool c) ∧ w2.cell? ⟨h, 0, none⟩ = some (.bool a') ∧ w2.cell? ⟨h, 1, none⟩ = some (.bool b') ∧ w2.cell? ⟨h, 2, none⟩ = some (.bool c') ∧ Kept w1 w2 := by
  obtain ⟨k0, k1, k2⟩ := rgt_keep h1 hg hk
  obtain ⟨l0, l1, l2⟩ := rgt_keep h2 hh hk
  exact ⟨k0, k1, k2, l0, l1, l2, hk⟩
theorem two_step {w1 w2 w3 : World} {g h : Nat} {a b c a' b' c' : Bool} (h1 : RgtAt w1 g a b c) (h2 : RgtAt w1 h a' b' c') (hg : g < w1.heap.size) (hh : h < w1.heap.size) (hk : Kept w2 w3)
    (hs : w2.cell? ⟨g, 0, none⟩ = some (.bool a) ∧ w2.cell? ⟨g, 1, none⟩ = some (.bool b) ∧ w2.cell? ⟨g, 2, none⟩ = some (.bool c) ∧ w2.cell? ⟨h, 0, none⟩ = some (.bool a') ∧ w2.cell? ⟨h, 1, none⟩ = some (.bool b') ∧ w2.cell? ⟨h, 2, none⟩ = some (.bool c') ∧ Kept w1 w2) :
    w3.cell? ⟨g, 0, none⟩ = some (.bool a) ∧ w3.cell? ⟨g, 1, none⟩ = some (.bool b) ∧ w3.cell? ⟨g, 2, none⟩ = some (.bool c) ∧ w3.cell? ⟨h, 0, none⟩ = some (.bool a') ∧ w3.cell? ⟨h, 1, none⟩ = some (.bool b') ∧ w3.cell? ⟨h, 2, none⟩ = some (.bool c') ∧ Kept w1 w3 :=
  two_and h1 h2 hg hh (Kept.step hk hs.2.2.2.2.2.2)

set_option maxRecDepth 100000 in
set_option maxHeartbeats 1600000 in
theorem rightOrder_walk (a b c : Bool) (x y : Int) (w : World) :
    Calls Try.prog 5 #[rgtV a b c, .int .u64 x, .int .u64 y] w fun e w' => e = .returned (.bool true) ∧ Below w.heap.size w w' := by
  obtain ⟨p, q, s, p', q', s', m, n, o, A1, A2, A3, A4, A5, D1, D2, A6, D3⟩ := order_is a b c x y
  go_enter Try.func5, Try.ntmps5
  go_wp2_with fail
  refine (awake6_any _).mono ?_
  rintro e w1 ⟨rfl, hb1⟩
  have R1 : RgtAt w1 w.heap.size a b c := rgt_keep (rgt_new _ _ _ _ _) (by simp) hb1
  have lt1 : w.heap.size < w1.heap.size := by have := hb1.size; simp at this; omega
  have K1 : Hid (Kept w w1) := Kept.step hb1 (kept_alloc _ _)
  clear hb1
  obtain ⟨r0, r1, r2⟩ := R1
  go_wp2_with fail
  refine (A1.go _).mono ?_
  rintro e w2 ⟨rfl, hk2⟩
  have R2 : Hid (RgtAt w2 w.heap.size a b c) := rgt_keep ⟨r0, r1, r2⟩ lt1 hk2
  have lt2 : w.heap.size < w2.heap.size := Nat.lt_of_lt_of_le lt1 hk2.size
  have K2 : Hid (Kept w w2) := Kept.step hk2 K1.out
  clear hk2 r0 r1 r2 K1 lt1
  go_wp2_with fail
  refine (A2.go _).mono ?_
  rintro e w3 ⟨rfl, hk3⟩
  have R3 : Hid (RgtAt w3 w.heap.size a b c) := rgt_keep R2.out lt2 hk3
  have lt3 : w.heap.size < w3.heap.size := Nat.lt_of_lt_of_le lt2 hk3.size
  have K3 : Hid (Kept w w3) := Kept.step hk3 K2.out
  clear hk3 R2 K2 lt2
  go_wp2_with fail
  have R4 : Hid (RgtAt (w3.alloc (.cells #[.bool p', .bool q', .bool s'] 23)) w.heap.size a b c) := rgt_keep R3.out lt3 (kept_alloc _ _)
  have Q4 : Hid (RgtAt (w3.alloc (.cells #[.bool p', .bool q', .bool s'] 23)) w3.heap.size p' q' s') := rgt_new _ _ _ _ _
  have lt4 : w.heap.size < (w3.alloc (.cells #[.bool p', .bool q', .bool s'] 23)).heap.size := by simp; omega
  have lt5 : w3.heap.size < (w3.alloc (.cells #[.bool p', .bool q', .bool s'] 23)).heap.size := by simp
  have K4 : Hid (Kept w (w3.alloc (.cells #[.bool p', .bool q', .bool s'] 23))) := Kept.step (kept_alloc _ _) K3.out
  clear R3 K3
  generalize w3.alloc (.cells #[.bool p', .bool q', .bool s'] 23) = w4 at *
  go_region_held3 (fun w5 => w5.cell? ⟨w.heap.size, 0, none⟩ = some (.bool a) ∧ w5.cell? ⟨w.heap.size, 1, none⟩ = some (.bool b) ∧ w5.cell? ⟨w.heap.size, 2, none⟩ = some (.bool c) ∧ w5.cell? ⟨w3.heap.size, 0, none⟩ = some (.bool p') ∧ w5.cell? ⟨w3.heap.size, 1, none⟩ = some (.bool q') ∧ w5.cell? ⟨w3.heap.size, 2, none⟩ = some (.bool s') ∧ Kept w4 w5)
    (first | assumption | exact two_and R4.out Q4.out lt4 lt5 (Kept.drew0 _) | exact two_step R4.out Q4.out lt4 lt5 (by assumption) (by assumption))
    (first | (go_at_call 17; refine (all_kept _).mono ?_; rintro e w5 ⟨rfl, hb5⟩) | (go_at_call 13; first | ((with_reducible refine (A3.go _).mono ?_); rintro e w5 ⟨rfl, hb5⟩) | ((with_reducible refine (A4.go _).mono ?_); rintro e w5 ⟨rfl, hb5⟩) | ((with_reducible refine (A5.go _).mono ?_); rintro e w5 ⟨rfl, hb5⟩) | ((with_reducible refine (A1.go _).mono ?_); rintro e w5 ⟨rfl, hb5⟩) | ((with_reducible refine (A6.go _).mono ?_); rintro e w5 ⟨rfl, hb5⟩)) | (go_at_call 15; first | ((with_reducible refine (D1.go _).mono ?_); rintro e w5 ⟨rfl, hb5⟩) | ((with_reducible refine (D2.go _).mono ?_); rintro e w5 ⟨rfl, hb5⟩) | ((with_reducible refine (D3.go _).mono ?_); rintro e w5 ⟨rfl, hb5⟩)))
  all_goals go_wp2
  all_goals go_ret
  all_goals (rename_i hH; exact ⟨rfl, Kept.step hH.2.2.2.2.2.2 K4.out⟩)
end Go.Proofs.Ytdkpahlkgdkloaa
