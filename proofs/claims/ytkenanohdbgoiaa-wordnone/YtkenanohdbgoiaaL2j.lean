/- The walks of WordJoins, WordNone and WordLays. -/
import Derived.Test.YtkenanohdbgoiaaWa
import Derived.Test.YtkenanohdbgoiaaBm
import Derived.Test.YtkenanohdbgoiaaN
import Derived.Test.YtkenanohdbgoiaaFr
import Derived.BigQuiet
import Derived.OwnWalk
namespace Go.Proofs.Ytkenanohdbgoiaa
set_option linter.unusedVariables false
set_option linter.unusedSimpArgs false
open Go.ChangeShapes Go.WideShapes Go.ChangeAt Go.RowKit Go.Joins

theorem i64_8 : I64 8 := ⟨by decide, by decide⟩

set_option maxRecDepth 100000 in
theorem wordJoins_walk (x a : Int) (w : World) (hx : W64 x) (a0 : 0 ≤ a) (a1 : a ≤ 255) :
    Calls Try.prog 7 #[.int .u64 x, .int .u8 a] w fun e w' => e = .returned (.bool true) ∧ Below w.heap.size w w' := by
  have e1 := joins hx (k := 1 + a % 7) (by omega) (by omega)
  have e2 := cut_all hx
  have e3 := lay_all w64_zero hx
  have e4 := cut_le hx (k := 1 + a % 7) (by omega) (by omega)
  have n1 : I64 (1 + a % 7) := by unfold I64; omega
  have n2 : I64 (8 - (1 + a % 7)) := by unfold I64; omega
  go_enter Try.func7, Try.ntmps7
  go_wp2_with fail
  refine (awake2_any _).mono ?_
  rintro e w1 ⟨rfl, hb⟩
  go_wp2_with (first | (go_at_call 18; refine (cut_any _ _ _ _ (by first | exact n1 | exact n2 | exact i64_8)).mono ?_; rintro e w' ⟨rfl, rfl⟩) | (go_at_call 20; refine (lay_any _ _ _ _ _ (by first | exact n1 | exact n2 | exact i64_8)).mono ?_; rintro e w' ⟨rfl, rfl⟩))
  go_ret
  exact ⟨rfl, hb⟩

theorem cut_none (x f n : Int) (w : World) (hn : I64 n) (h : f < 0 ∨ n < 1 ∨ 8 < f + n) :
    Calls Try.prog 18 #[.int .u64 x, .int .i64 f, .int .i64 n] w fun e w' => e = .returned (.int .u64 0) ∧ w = w' := by
  have := cut_any x f n w hn; rwa [cut_no _ (hasB_no h)] at this
theorem lay_none (x f n v : Int) (w : World) (hn : I64 n) (h : f < 0 ∨ n < 1 ∨ 8 < f + n) :
    Calls Try.prog 20 #[.int .u64 x, .int .i64 f, .int .i64 n, .int .u64 v] w fun e w' => e = .returned (.int .u64 x) ∧ w = w' := by
  have := lay_any x f n v w hn; rwa [lay_no _ _ (hasB_no h)] at this
theorem byte_none (x i : Int) (w : World) (hx : W64 x) (h : i < 0 ∨ 7 < i) :
    Calls Try.prog 14 #[.int .u64 x, .int .i64 i] w fun e w' => e = .returned (.int .u8 0) ∧ w = w' := by
  have := byte_any x i w hx; rwa [byte_no _ h] at this
theorem put_none (x i b : Int) (w : World) (h0 : 0 ≤ b) (h1 : b < 256) (h : i < 0 ∨ 7 < i) :
    Calls Try.prog 16 #[.int .u64 x, .int .i64 i, .int .u8 b] w fun e w' => e = .returned (.int .u64 x) ∧ w = w' := by
  have := put_any x i b w h0 h1; rwa [put_no _ _ h] at this

theorem make_any (l : Int) (h0 : 0 ≤ l) (h1 : l ≤ 1000000) (w : World) : (Instr.makeSlice 23 (.int .i64 l) (.int .i64 l)).run Try.prog w =
    .ok (.slice (some ⟨w.heap.size, 0, none⟩) l.toNat l.toNat) (w.alloc (.cells (madeCells (Value.int .u8 0).cells (l.toNat * 1)) 5)) := by
  obtain ⟨i0, hi, hz0, hz1, hz2⟩ := info_parts (P := Try.prog) (e := 5) (z := .int .u8 0) (size := 1) (bytes := 1) (by kernel_rfl)
  have := run_make (P := Try.prog) w 23 5 i0 (.int .u8 0) Try.underlying23 hi hz0 .i64 .i64 l l h0 (Int.le_refl _) (by rw [hz2]; omega) (by omega)
  rwa [hz1] at this

theorem i64_2 : I64 2 := ⟨by decide, by decide⟩
theorem i64_0 : I64 0 := ⟨by decide, by decide⟩

set_option maxRecDepth 100000 in
theorem wordNone_walk (x a b : Int) (w : World) (hx : W64 x) (a0 : 0 ≤ a) (a1 : a ≤ 255) (b0 : 0 ≤ b) (b1 : b ≤ 255) :
    Calls Try.prog 8 #[.int .u64 x, .int .u8 a, .int .u8 b] w fun e w' => e = .returned (.bool true) ∧ Below w.heap.size w w' := by
  have m1 := make_any (b % 8) (by omega) (by omega)
  have m2 := make_any (9 + b) (by omega) (by omega)
  have n1 : I64 (9 - a % 9 + b) := by unfold I64; omega
  have hm : ∀ n : Nat, n ≤ 1000 → n ≤ maxLen := fun n h => by unfold maxLen; omega
  have HM := Lib.hid hm
  clear hm
  go_enter Try.func8, Try.ntmps8
  go_wp2_with fail
  refine (awake2_any _).mono ?_
  rintro e w1 ⟨rfl, hb⟩
  go_wp2_with (first | (go_at_call 10; refine (from_not _ _ _ _ (by omega) (HM.out _ (by omega))).mono ?_; rintro e w' ⟨rfl, rfl⟩) | (go_at_call 18; refine (cut_none _ _ _ _ (by first | exact n1 | exact i64_2) (by omega)).mono ?_; rintro e w' ⟨rfl, rfl⟩) | (go_at_call 20; refine (lay_none _ _ _ _ _ (by first | exact n1 | exact i64_0) (by omega)).mono ?_; rintro e w' ⟨rfl, rfl⟩) | (go_at_call 16; refine (put_none _ _ _ _ (by omega) (by omega) (by omega)).mono ?_; rintro e w' ⟨rfl, rfl⟩) | (go_at_call 14; refine (byte_none _ _ _ hx (by omega)).mono ?_; rintro e w' ⟨rfl, rfl⟩))
  go_ret
  exact ⟨rfl, (hb.alloc hb.size _).alloc (by have := hb.size; simp; omega) _⟩

set_option maxRecDepth 100000 in
theorem wordLays_walk (x v a b : Int) (w : World) (hx : W64 x) (hv : W64 v) (a0 : 0 ≤ a) (a1 : a ≤ 255) (b0 : 0 ≤ b) (b1 : b ≤ 255) :
    Calls Try.prog 6 #[.int .u64 x, .int .u64 v, .agg #[.int .u8 a, .int .u8 b]] w fun e w' => e = .returned (.bool true) ∧ Below w.heap.size w w' := by
  have f0 : 0 ≤ a % 8 := by omega
  have f1 : a % 8 ≤ 7 := by omega
  have g0 : 0 ≤ b % (8 - a % 8) := Int.emod_nonneg _ (by omega)
  have g1 : b % (8 - a % 8) < 8 - a % 8 := Int.emod_lt_of_pos _ (by omega)
  have hB : hasB (a % 8) (1 + b % (8 - a % 8)) = true := hasB_mk (by omega) (by omega) (by omega)
  have HB := Lib.hid hB
  have e1 := Lib.hid (cut_lay hx hv hB)
  have e2 := Lib.hid (lay_back hx hv hB)
  clear hB
  have n1 : I64 (1 + b % (8 - a % 8)) := by unfold I64; omega
  have hy := w64_lay hx (a % 8) (1 + b % (8 - a % 8)) v
  go_enter Try.func6, Try.ntmps6
  go_wp2_with fail
  refine (awake2_any _).mono ?_
  rintro e w1 ⟨rfl, hb⟩
  have c0 : w1.cell? ⟨w.heap.size, 0, none⟩ = some (.int .u8 a) := by rw [hb.cell (by simp)]; simp
  have c1 : w1.cell? ⟨w.heap.size, 1, none⟩ = some (.int .u8 b) := by rw [hb.cell (by simp)]; simp
  have B : Hid (Below w.heap.size w w1) := (below_alloc1 _ _).trans (hb.mono (by simp))
  clear hb
  go_wp2_with (go_at_call 20; refine (lay_any _ _ _ _ _ n1).mono ?_; rintro e w' ⟨rfl, rfl⟩)
  generalize hF : a % 8 = F at *
  generalize hN : 1 + b % (8 - F) = N at *
  go_loop [11] (fun i => ∃ k : Nat, k ≤ 8 ∧ i = .int .i64 k) (fun i => (8 - intOf i).toNat)
  case atStart => exact ⟨0, by omega, rfl⟩
  case round =>
    obtain ⟨k, hk, rfl⟩ := hrel
    have h2 := Lib.hid (hasB_bd HB.out)
    by_cases hlt : k < 8
    · by_cases c1 : F ≤ (k : Int)
      · by_cases c2 : (k : Int) < F + N
        · have hq := byte_in hx hv HB.out c1 c2
          have d1 : 0 ≤ (k : Int) - F := by omega
          go_wp2_with (first | (go_at_call 14; refine (byte_any _ _ _ (by first | exact hy | exact hv | exact hx)).mono ?_; rintro e w' ⟨rfl, rfl⟩))
          go_round
          case rel => exact ⟨k + 1, by omega, by go_num⟩
          case measure => simp [intOf]; omega
        · have hq := byte_out (n := N) hx hv hlt (Or.inr (show F + N ≤ (k : Int) by omega))
          go_wp2_with (first | (go_at_call 14; refine (byte_any _ _ _ (by first | exact hy | exact hv | exact hx)).mono ?_; rintro e w' ⟨rfl, rfl⟩))
          go_round
          case rel => exact ⟨k + 1, by omega, by go_num⟩
          case measure => simp [intOf]; omega
      · have hq := byte_out (n := N) hx hv hlt (Or.inl (show (k : Int) < F by omega))
        go_wp2_with (first | (go_at_call 14; refine (byte_any _ _ _ (by first | exact hy | exact hv | exact hx)).mono ?_; rintro e w' ⟨rfl, rfl⟩))
        go_round
        case rel => exact ⟨k + 1, by omega, by go_num⟩
        case measure => simp [intOf]; omega
    · have e1' := e1.out
      have e2' := e2.out
      go_wp2_with (first | (go_at_call 18; refine (cut_any _ _ _ _ n1).mono ?_; rintro e w' ⟨rfl, rfl⟩) | (go_at_call 20; refine (lay_any _ _ _ _ _ n1).mono ?_; rintro e w' ⟨rfl, rfl⟩))
      go_ret
      exact ⟨rfl, B.out⟩
end Go.Proofs.Ytkenanohdbgoiaa
