/- Join, of package va and of the document: four places' address. -/
import Derived.Test.YtdmaamhjcoaigaaDoorVr
import Derived.Test.YtdmaamhjcoaigaaDoorFr
namespace Go.Proofs.YtdmaamhjcoaigaaDoor
set_option linter.unusedVariables false
set_option linter.unusedSimpArgs false
open Go.ChangeShapes Go.WideShapes Go.ChangeAt Go.RowKit Go.Joins

theorem shifts_below {w w' : World} (hs : Shifts w) (h : 0 < w.heap.size) (hb : Below w.heap.size w w') : Shifts w' := by
  obtain ⟨s1, s2, s3, s4⟩ := hs
  exact ⟨(hb.cell h).trans s1, (hb.cell h).trans s2, (hb.cell h).trans s3, (hb.cell h).trans s4⟩

theorem shifts_alloc {w : World} (hs : Shifts w) (h : 0 < w.heap.size) (o : Obj) : Shifts (w.alloc o) := shifts_below hs h (below_alloc1 _ _)

/-- how far four places are set -/
def setK (low p q r s : Int) : Nat → Int
  | 0 => low % 4096
  | 1 => setF (low % 4096) 39 9 (IntKind.u64.wrap p)
  | 2 => setF (setF (low % 4096) 39 9 (IntKind.u64.wrap p)) 30 9 (IntKind.u64.wrap q)
  | 3 => setF (setF (setF (low % 4096) 39 9 (IntKind.u64.wrap p)) 30 9 (IntKind.u64.wrap q)) 21 9 (IntKind.u64.wrap r)
  | _ => setsF low p q r s

theorem w64_places (p q r s low : Int) : W64 (placesF p q r s low) := by unfold W64 placesF; omega

theorem join_any (p q r s low : Int) (w : World) (hs : Shifts w) (hz : 0 < w.heap.size) (h0 : 0 ≤ low) :
    Calls Tryd.prog 24 #[.agg #[.int .i64 p, .int .i64 q, .int .i64 r, .int .i64 s], .int .u64 low] w fun e w' => e = .returned (.int .u64 (joinF p q r s low)) ∧ Below w.heap.size w w' := by
  have hE := Lib.hid (congrArg signF (sets_places low p q r s))
  have hW : W64 (setsF low p q r s) := by rw [sets_places]; exact w64_places _ _ _ _ _
  have i0 : ∀ w, (Instr.index 32 (.agg #[.int .i64 p, .int .i64 q, .int .i64 r, .int .i64 s]) (.int .i64 0)).run Tryd.prog w = .ok (.int .i64 p) w := fun _ => by kernel_rfl
  have i1 : ∀ w, (Instr.index 32 (.agg #[.int .i64 p, .int .i64 q, .int .i64 r, .int .i64 s]) (.int .i64 1)).run Tryd.prog w = .ok (.int .i64 q) w := fun _ => by kernel_rfl
  have i2 : ∀ w, (Instr.index 32 (.agg #[.int .i64 p, .int .i64 q, .int .i64 r, .int .i64 s]) (.int .i64 2)).run Tryd.prog w = .ok (.int .i64 r) w := fun _ => by kernel_rfl
  have i3 : ∀ w, (Instr.index 32 (.agg #[.int .i64 p, .int .i64 q, .int .i64 r, .int .i64 s]) (.int .i64 3)).run Tryd.prog w = .ok (.int .i64 s) w := fun _ => by kernel_rfl
  go_enter Tryd.func24, Tryd.ntmps24
  go_wp2_with fail
  have hs' := shifts_alloc hs hz (.cells #[.int .i64 p, .int .i64 q, .int .i64 r, .int .i64 s] 32)
  obtain ⟨s1, s2, s3, s4⟩ := hs'
  refine (low_any _ _ _ ⟨s1, s2, s3, s4⟩ h0).mono ?_
  rintro e w' ⟨rfl, rfl⟩
  go_wp2
  go_loop [5, 12] (fun x i => ∃ k : Nat, k ≤ 4 ∧ i = .int .i64 k ∧ x = .int .u64 (setK low p q r s k)) (fun _ i => (4 - intOf i).toNat)
  case atStart => exact ⟨0, by omega, rfl, rfl⟩
  case round =>
    obtain ⟨k, hk, rfl, rfl⟩ := hrel
    obtain rfl | rfl | rfl | rfl | rfl : k = 0 ∨ k = 1 ∨ k = 2 ∨ k = 3 ∨ k = 4 := by omega
    · go_wp2_with (go_at_call 33; refine (set_any _ _ _ _ _ i64_9).mono ?_; rintro e w' ⟨rfl, rfl⟩)
      go_round
      case rel => exact ⟨1, by omega, by go_num, rfl⟩
      case measure => simp [intOf]
    · go_wp2_with (go_at_call 33; refine (set_any _ _ _ _ _ i64_9).mono ?_; rintro e w' ⟨rfl, rfl⟩)
      go_round
      case rel => exact ⟨2, by omega, by go_num, rfl⟩
      case measure => simp [intOf]
    · go_wp2_with (go_at_call 33; refine (set_any _ _ _ _ _ i64_9).mono ?_; rintro e w' ⟨rfl, rfl⟩)
      go_round
      case rel => exact ⟨3, by omega, by go_num, rfl⟩
      case measure => simp [intOf]
    · go_wp2_with (go_at_call 33; refine (set_any _ _ _ _ _ i64_9).mono ?_; rintro e w' ⟨rfl, rfl⟩)
      go_round
      case rel => exact ⟨4, by omega, by go_num, rfl⟩
      case measure => simp [intOf]
    · go_wp2_with (go_at_call 14; refine (sign_any _ _ hW).mono ?_; rintro e w' ⟨rfl, rfl⟩)
      go_ret
      exact ⟨ret_int hE.out, below_alloc1 _ _⟩

/-- how far four places are told -/
def rK (p q r s : Int) : Nat → Int
  | 0 => 0
  | 1 => p % 512
  | 2 => p % 512 * 512 + q % 512
  | 3 => (p % 512 * 512 + q % 512) * 512 + r % 512
  | _ => ((p % 512 * 512 + q % 512) * 512 + r % 512) * 512 + s % 512

theorem rK_bd (p q r s : Int) (k : Nat) : 0 ≤ rK p q r s k ∧ rK p q r s k < 68719476736 := by
  match k with
  | 0 => simp only [rK]; omega
  | 1 => simp only [rK]; omega
  | 2 => simp only [rK]; omega
  | 3 => simp only [rK]; omega
  | k + 4 => simp only [rK]; omega

theorem place_t (p : Int) : (wrap64 (p.tmod 512 + 512)).tmod 512 = p % 512 := by
  have h : -512 < p.tmod 512 ∧ p.tmod 512 < 512 ∧ ∃ m, p.tmod 512 = p + 512 * m := by
    have e := Int.mul_tdiv_add_tmod p 512
    refine ⟨?_, Int.tmod_lt_of_pos _ (by decide), - p.tdiv 512, by omega⟩
    by_cases c : 0 ≤ p
    · have := Int.tmod_nonneg 512 c; omega
    · have h1 := Int.tmod_lt_of_pos (-p) (show (0 : Int) < 512 by decide)
      rw [Int.neg_tmod] at h1
      omega
  obtain ⟨h1, h2, m, h3⟩ := h
  have e : wrap64 (p.tmod 512 + 512) = p.tmod 512 + 512 := by unfold wrap64; omega
  rw [e, Int.tmod_eq_emod_of_nonneg (by omega)]
  omega

theorem tell_one {x : Int} (p : Int) (h0 : 0 ≤ x) (h1 : x < 68719476736) :
    IntKind.u64.wrap (IntKind.u64.wrap (512 * x) + IntKind.u64.wrap ((wrap64 (p.tmod 512 + 512)).tmod 512)) = x * 512 + p % 512 := by
  rw [place_t, IntKind.wrap_u64, IntKind.wrap_u64, IntKind.wrap_u64]
  omega

theorem tell_all (p q r s low : Int) : IntKind.u64.wrap (IntKind.u64.wrap (4096 * rK p q r s 4) + low % 4096) = placesF p q r s low := by
  simp only [rK, placesF]
  rw [IntKind.wrap_u64, IntKind.wrap_u64]
  omega

theorem ret_u {a b : Int} (h : a = b) : Value.int .u64 a = .int .u64 b := by rw [h]

theorem rjoin_any (p q r s low : Int) (w : World) (h0 : 0 ≤ low) :
    Calls Tryd.prog 25 #[.agg #[.int .i64 p, .int .i64 q, .int .i64 r, .int .i64 s], .int .u64 low] w fun e w' => e = .returned (.int .u64 (joinF p q r s low)) ∧ Below w.heap.size w w' := by
  have hW := Lib.hid (w64_places p q r s low)
  have t0 := Lib.hid (tell_one p (rK_bd p q r s 0).1 (rK_bd p q r s 0).2)
  have t1 := Lib.hid (tell_one q (rK_bd p q r s 1).1 (rK_bd p q r s 1).2)
  have t2 := Lib.hid (tell_one r (rK_bd p q r s 2).1 (rK_bd p q r s 2).2)
  have t3 := Lib.hid (tell_one s (rK_bd p q r s 3).1 (rK_bd p q r s 3).2)
  have t4 := tell_all p q r s low
  go_enter Tryd.func25, Tryd.ntmps25
  go_wp2
  go_loop [5, 6] (fun x i => ∃ k : Nat, k ≤ 4 ∧ i = .int .i64 k ∧ x = .int .u64 (rK p q r s k)) (fun _ i => (4 - intOf i).toNat)
  case atStart => exact ⟨0, by omega, rfl, rfl⟩
  case round =>
    obtain ⟨k, hk, rfl, rfl⟩ := hrel
    obtain rfl | rfl | rfl | rfl | rfl : k = 0 ∨ k = 1 ∨ k = 2 ∨ k = 3 ∨ k = 4 := by omega
    · go_wp2
      go_round
      case rel => exact ⟨1, by omega, by go_num, ret_u (t0.out.trans (by simp [rK]))⟩
      case measure => simp [intOf]
    · go_wp2
      go_round
      case rel => exact ⟨2, by omega, by go_num, ret_u t1.out⟩
      case measure => simp [intOf]
    · go_wp2
      go_round
      case rel => exact ⟨3, by omega, by go_num, ret_u t2.out⟩
      case measure => simp [intOf]
    · go_wp2
      go_round
      case rel => exact ⟨4, by omega, by go_num, ret_u t3.out⟩
      case measure => simp [intOf]
    · go_wp2_with (go_at_call 15; refine (rsign_any _ _ hW.out).mono ?_; rintro e w' ⟨rfl, rfl⟩)
      go_ret
      exact ⟨rfl, below_alloc1 _ _⟩

end Go.Proofs.YtdmaamhjcoaigaaDoor
