/- Contracts of package word: the calls that make no memory. -/
import Derived.Test.YtfakfmefjfemhaaA
import Derived.Test.YtfakfmefjfemhaaBy
import Derived.Lib.Hide
namespace Go.Proofs.Ytfakfmefjfemhaa
set_option linter.unusedVariables false
set_option linter.unusedSimpArgs false
open Go.ChangeShapes Go.WideShapes Go.ChangeAt Go.RowKit

theorem hasBytes_any (f n : Int) (w : World) (hn : I64 n) :
    Calls Try.prog 55 #[.int .i64 f, .int .i64 n] w fun e w' => e = .returned (.bool (hasB f n)) ∧ w = w' := by
  obtain ⟨h1, h2⟩ := hn
  by_cases a : f < 0
  · have e : hasB f n = false := hasB_no (by omega)
    rw [e]
    go_enter Try.func55, Try.ntmps55
    go_wp2
    go_ret
    exact ⟨rfl, rfl⟩
  · by_cases b : n < 1
    · have e : hasB f n = false := hasB_no (by omega)
      rw [e]
      go_enter Try.func55, Try.ntmps55
      go_wp2
      go_ret
      exact ⟨rfl, rfl⟩
    · by_cases c : 8 - n < f
      · have e : hasB f n = false := hasB_no (by omega)
        rw [e]
        go_enter Try.func55, Try.ntmps55
        go_wp2
        go_ret
        exact ⟨ret_bool (by simp; omega), rfl⟩
      · have e : hasB f n = true := hasB_mk (by omega) (by omega) (by omega)
        rw [e]
        go_enter Try.func55, Try.ntmps55
        go_wp2
        go_ret
        exact ⟨rfl, rfl⟩

theorem i64_bits {n : Int} (h0 : 1 ≤ n) (h1 : n ≤ 8) : I64 (8 * n) := by unfold I64; omega

theorem cut_any (x f n : Int) (w : World) (hn : I64 n) :
    Calls Try.prog 47 #[.int .u64 x, .int .i64 f, .int .i64 n] w fun e w' => e = .returned (.int .u64 (cutF x f n)) ∧ w = w' := by
  by_cases h : hasB f n = true
  · obtain ⟨b1, b2, b3⟩ := hasB_bd h
    have hm := i64_bits b2 (by omega)
    have e : cutF x f n = getF x (8 * f) (8 * n) := by unfold cutF; rw [if_pos h]
    rw [e]
    clear e
    go_enter Try.func47, Try.ntmps47
    go_wp2_with (first | (go_at_call 55; refine (hasBytes_any _ _ _ hn).mono ?_; rintro e w' ⟨rfl, rfl⟩) | (go_at_call 56; refine (get_any _ _ _ _ hm).mono ?_; rintro e w' ⟨rfl, rfl⟩))
    go_ret
    exact ⟨rfl, rfl⟩
  · have h' : hasB f n = false := by simpa using h
    have e : cutF x f n = 0 := by unfold cutF; rw [if_neg h]
    rw [e]
    clear e h
    go_enter Try.func47, Try.ntmps47
    go_wp2_with (first | (go_at_call 55; refine (hasBytes_any _ _ _ hn).mono ?_; rintro e w' ⟨rfl, rfl⟩))
    go_ret
    exact ⟨rfl, rfl⟩

theorem lay_any (x f n v : Int) (w : World) (hn : I64 n) :
    Calls Try.prog 48 #[.int .u64 x, .int .i64 f, .int .i64 n, .int .u64 v] w fun e w' => e = .returned (.int .u64 (layF x f n v)) ∧ w = w' := by
  by_cases h : hasB f n = true
  · obtain ⟨b1, b2, b3⟩ := hasB_bd h
    have hm := i64_bits b2 (by omega)
    have e : layF x f n v = setF x (8 * f) (8 * n) v := by unfold layF; rw [if_pos h]
    rw [e]
    clear e
    go_enter Try.func48, Try.ntmps48
    go_wp2_with (first | (go_at_call 55; refine (hasBytes_any _ _ _ hn).mono ?_; rintro e w' ⟨rfl, rfl⟩) | (go_at_call 57; refine (set_any _ _ _ _ _ hm).mono ?_; rintro e w' ⟨rfl, rfl⟩))
    go_ret
    exact ⟨rfl, rfl⟩
  · have h' : hasB f n = false := by simpa using h
    have e : layF x f n v = x := by unfold layF; rw [if_neg h]
    rw [e]
    clear e h
    go_enter Try.func48, Try.ntmps48
    go_wp2_with (first | (go_at_call 55; refine (hasBytes_any _ _ _ hn).mono ?_; rintro e w' ⟨rfl, rfl⟩))
    go_ret
    exact ⟨rfl, rfl⟩

theorem wrap_byte {x : Int} (hx : W64 x) (i : Int) : IntKind.u8.wrap (cutF x i 1) = byteF x i := by
  obtain ⟨h0, h1⟩ := byte_lt x i hx
  rw [IntKind.wrap_u8]
  exact Int.emod_eq_of_lt h0 h1

theorem byte_any (x i : Int) (w : World) (hx : W64 x) :
    Calls Try.prog 38 #[.int .u64 x, .int .i64 i] w fun e w' => e = .returned (.int .u8 (byteF x i)) ∧ w = w' := by
  have e := Lib.hid (wrap_byte hx i)
  go_enter Try.func38, Try.ntmps38
  go_wp2_with (first | (go_at_call 47; refine (cut_any _ _ _ _ i64_one).mono ?_; rintro e w' ⟨rfl, rfl⟩))
  go_ret
  exact ⟨ret_int e.out, rfl⟩

theorem put_any (x i b : Int) (w : World) (h0 : 0 ≤ b) (h1 : b < 256) :
    Calls Try.prog 40 #[.int .u64 x, .int .i64 i, .int .u8 b] w fun e w' => e = .returned (.int .u64 (putF x i b)) ∧ w = w' := by
  go_enter Try.func40, Try.ntmps40
  go_wp2_with (first | (go_at_call 48; refine (lay_any _ _ _ _ _ i64_one).mono ?_; rintro e w' ⟨rfl, rfl⟩))
  go_ret
  exact ⟨rfl, rfl⟩

end Go.Proofs.Ytfakfmefjfemhaa
