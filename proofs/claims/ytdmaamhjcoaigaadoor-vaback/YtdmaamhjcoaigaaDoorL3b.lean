/- The walk of VaBack. -/
import Derived.Test.YtdmaamhjcoaigaaDoorL3
import Derived.Test.YtdmaamhjcoaigaaDoorVj
import Derived.Test.YtdmaamhjcoaigaaDoorKp
import Derived.BigQuiet
import Derived.Deep.DrawnRows
import Derived.OwnWalk
namespace Go.Proofs.YtdmaamhjcoaigaaDoor
set_option linter.unusedVariables false
set_option linter.unusedSimpArgs false
open Go.ChangeShapes Go.WideShapes Go.ChangeAt Go.RowKit Go.Joins

theorem index_sign (x : Int) : indexF (signF x) 1 = indexF x 1 ∧ indexF (signF x) 2 = indexF x 2 ∧ indexF (signF x) 3 = indexF x 3 ∧ indexF (signF x) 4 = indexF x 4 := by
  have h := sign_mod x
  generalize signF x = y at *
  refine ⟨?_, ?_, ?_, ?_⟩
  · show y / 4096 % 512 = x / 4096 % 512; omega
  · show y / 2097152 % 512 = x / 2097152 % 512; omega
  · show y / 1073741824 % 512 = x / 1073741824 % 512; omega
  · show y / 549755813888 % 512 = x / 549755813888 % 512; omega

theorem index_places (p q r s low : Int) : indexF (placesF p q r s low) 1 = s % 512 ∧ indexF (placesF p q r s low) 2 = r % 512 ∧ indexF (placesF p q r s low) 3 = q % 512 ∧ indexF (placesF p q r s low) 4 = p % 512 := by
  have h : ∃ y, placesF p q r s low = y ∧ y = (((p % 512 * 512 + q % 512) * 512 + r % 512) * 512 + s % 512) * 4096 + low % 4096 := ⟨_, rfl, rfl⟩
  obtain ⟨y, e, hy⟩ := h
  rw [e]
  refine ⟨?_, ?_, ?_, ?_⟩
  · show y / 4096 % 512 = s % 512; omega
  · show y / 2097152 % 512 = r % 512; omega
  · show y / 1073741824 % 512 = q % 512; omega
  · show y / 549755813888 % 512 = p % 512; omega

theorem index_join (p q r s low : Int) : indexF (joinF p q r s low) 1 = s % 512 ∧ indexF (joinF p q r s low) 2 = r % 512 ∧ indexF (joinF p q r s low) 3 = q % 512 ∧ indexF (joinF p q r s low) 4 = p % 512 := by
  unfold joinF
  obtain ⟨h1, h2, h3, h4⟩ := index_sign (placesF p q r s low)
  obtain ⟨g1, g2, g3, g4⟩ := index_places p q r s low
  exact ⟨h1.trans g1, h2.trans g2, h3.trans g3, h4.trans g4⟩

theorem low_join (p q r s low : Int) : joinF p q r s low % 4096 = low % 4096 := by
  have h := sign_mod (placesF p q r s low)
  have e : placesF p q r s low % 4096 = low % 4096 := by unfold placesF; omega
  unfold joinF
  omega

theorem canon_join (p q r s low : Int) : canonF (joinF p q r s low) = true := canon_sign _
theorem w64_join (p q r s low : Int) : W64 (joinF p q r s low) := w64_sign _

theorem join_index (a : Int) : joinF (indexF (signF a) 4) (indexF (signF a) 3) (indexF (signF a) 2) (indexF (signF a) 1) (signF a % 4096) = signF a := by
  have e : placesF (indexF (signF a) 4) (indexF (signF a) 3) (indexF (signF a) 2) (indexF (signF a) 1) (signF a % 4096) % 281474976710656 = signF a % 281474976710656 := by
    generalize signF a = b
    show ((((b / 549755813888 % 512 % 512 * 512 + b / 1073741824 % 512 % 512) * 512 + b / 2097152 % 512 % 512) * 512 + b / 4096 % 512 % 512) * 4096 + b % 4096 % 4096) % 281474976710656 = b % 281474976710656
    omega
  unfold joinF
  rw [sign_eq e, sign_sign]

theorem drewn_below (v : World) (n : Nat) : Below v.heap.size v (v.drewN n) := ⟨rfl, rfl, rfl, Nat.le_refl _, fun _ _ => rfl⟩

theorem four_new (v : World) (p q r s : Value) (t : TypeId) : (v.alloc (.cells #[p, q, r, s] t)).cell? ⟨v.heap.size, 0, none⟩ = some p ∧ (v.alloc (.cells #[p, q, r, s] t)).cell? ⟨v.heap.size, 1, none⟩ = some q ∧
    (v.alloc (.cells #[p, q, r, s] t)).cell? ⟨v.heap.size, 2, none⟩ = some r ∧ (v.alloc (.cells #[p, q, r, s] t)).cell? ⟨v.heap.size, 3, none⟩ = some s := by
  refine ⟨?_, ?_, ?_, ?_⟩ <;> simp
theorem size_new (v : World) (o : Obj) : (v.alloc o).heap.size = v.heap.size + 1 := by simp

set_option maxRecDepth 100000 in
set_option maxHeartbeats 1600000 in
theorem vaBack_walk (a p q r s : Int) (w : World) (hs : Shifts w) (hz : 0 < w.heap.size) (ha : W64 a) (p0 : 0 ≤ p) (q0 : 0 ≤ q) (r0 : 0 ≤ r) (s0 : 0 ≤ s) (p1 : p ≤ 65535) (q1 : q ≤ 65535) (r1 : r ≤ 65535) (s1 : s ≤ 65535) :
    Calls Tryd.prog 5 #[.int .u64 a, .agg #[.int .u16 p, .int .u16 q, .int .u16 r, .int .u16 s]] w fun e w' => e = .returned (.bool true) ∧ Below w.heap.size w w' := by
  obtain ⟨b, hB⟩ : ∃ b, signF a = b := ⟨_, rfl⟩
  have hb : W64 b := hB ▸ w64_sign a
  go_enter Tryd.func5, Tryd.ntmps5
  go_wp2_with fail
  have hs1 := shifts_alloc hs hz (.cells #[.int .u16 p, .int .u16 q, .int .u16 r, .int .u16 s] 36)
  go_wp2_with (first | (go_at_call 9; refine (awake3_any _ hs1).mono ?_; rintro e w' ⟨rfl, rfl⟩) | (go_at_call 14; refine (sign_any _ _ ha).mono ?_; rintro e w' ⟨rfl, rfl⟩) | (go_at_call 16; refine (index_any _ _ _ hs1 hb).mono ?_; rintro e w' ⟨rfl, rfl⟩))
  obtain ⟨w4, hw4⟩ : ∃ w4, ((w.alloc (.cells #[.int .u16 p, .int .u16 q, .int .u16 r, .int .u16 s] 36)).alloc (.cells #[.int .i64 (indexF b 4), .int .i64 (indexF b 3), .int .i64 (indexF b 2), .int .i64 (indexF b 1)] 32)).alloc (.cells #[.int .i64 (p % 512), .int .i64 (q % 512), .int .i64 (r % 512), .int .i64 (s % 512)] 32) = w4 := ⟨_, rfl⟩
  have B4 : Hid (Below w.heap.size w w4) := by subst hw4; exact ((below_alloc1 _ _).alloc (by simp) _).alloc (by simp; omega) _
  have z4 : w.heap.size + 1 + 1 < w4.heap.size := by subst hw4; simp
  have f4 : (w4.cell? ⟨w.heap.size + 1, 0, none⟩ = some (.int .i64 (indexF b 4)) ∧ w4.cell? ⟨w.heap.size + 1, 1, none⟩ = some (.int .i64 (indexF b 3)) ∧ w4.cell? ⟨w.heap.size + 1, 2, none⟩ = some (.int .i64 (indexF b 2)) ∧ w4.cell? ⟨w.heap.size + 1, 3, none⟩ = some (.int .i64 (indexF b 1))) := by
    subst hw4
    have h := four_new (w.alloc (.cells #[.int .u16 p, .int .u16 q, .int .u16 r, .int .u16 s] 36)) (.int .i64 (indexF b 4)) (.int .i64 (indexF b 3)) (.int .i64 (indexF b 2)) (.int .i64 (indexF b 1)) 32
    rw [size_new] at h
    obtain ⟨h0, h1, h2, h3⟩ := h
    have lt : w.heap.size + 1 < ((w.alloc (.cells #[.int .u16 p, .int .u16 q, .int .u16 r, .int .u16 s] 36)).alloc (.cells #[.int .i64 (indexF b 4), .int .i64 (indexF b 3), .int .i64 (indexF b 2), .int .i64 (indexF b 1)] 32)).heap.size := by rw [size_new, size_new]; omega
    exact ⟨((below_alloc1 _ _).cell (p := ⟨w.heap.size + 1, 0, none⟩) lt).trans h0, ((below_alloc1 _ _).cell (p := ⟨w.heap.size + 1, 1, none⟩) lt).trans h1, ((below_alloc1 _ _).cell (p := ⟨w.heap.size + 1, 2, none⟩) lt).trans h2, ((below_alloc1 _ _).cell (p := ⟨w.heap.size + 1, 3, none⟩) lt).trans h3⟩
  have g4 : (w4.cell? ⟨w.heap.size + 1 + 1, 0, none⟩ = some (.int .i64 (p % 512)) ∧ w4.cell? ⟨w.heap.size + 1 + 1, 1, none⟩ = some (.int .i64 (q % 512)) ∧ w4.cell? ⟨w.heap.size + 1 + 1, 2, none⟩ = some (.int .i64 (r % 512)) ∧ w4.cell? ⟨w.heap.size + 1 + 1, 3, none⟩ = some (.int .i64 (s % 512))) := by
    subst hw4
    have h := four_new ((w.alloc (.cells #[.int .u16 p, .int .u16 q, .int .u16 r, .int .u16 s] 36)).alloc (.cells #[.int .i64 (indexF b 4), .int .i64 (indexF b 3), .int .i64 (indexF b 2), .int .i64 (indexF b 1)] 32)) (.int .i64 (p % 512)) (.int .i64 (q % 512)) (.int .i64 (r % 512)) (.int .i64 (s % 512)) 32
    rw [size_new, size_new] at h
    exact h
  have hs4 : Shifts w4 := shifts_below hs hz B4.out
  rw [hw4]
  clear hw4 hs1
  refine (join_any _ _ _ _ _ _ hs4 (by omega) ha.1).mono ?_
  rintro e w5 ⟨rfl, hb5⟩
  have B5 : Hid (Below w.heap.size w w5) := B4.out.trans (Below.mono hb5 B4.out.size)
  have hs5 : Shifts w5 := shifts_below hs hz B5.out
  have z5 : 0 < w5.heap.size := by have := hb5.size; omega
  obtain ⟨f0, f1, f2, f3⟩ := f4
  obtain ⟨g0, g1, g2, g3⟩ := g4
  have F0 := (hb5.cell (p := ⟨w.heap.size + 1, 0, none⟩) (by show w.heap.size + 1 < w4.heap.size; omega)).trans f0
  have F1 := (hb5.cell (p := ⟨w.heap.size + 1, 1, none⟩) (by show w.heap.size + 1 < w4.heap.size; omega)).trans f1
  have F2 := (hb5.cell (p := ⟨w.heap.size + 1, 2, none⟩) (by show w.heap.size + 1 < w4.heap.size; omega)).trans f2
  have F3 := (hb5.cell (p := ⟨w.heap.size + 1, 3, none⟩) (by show w.heap.size + 1 < w4.heap.size; omega)).trans f3
  have G0 := (hb5.cell (p := ⟨w.heap.size + 1 + 1, 0, none⟩) z4).trans g0
  have G1 := (hb5.cell (p := ⟨w.heap.size + 1 + 1, 1, none⟩) z4).trans g1
  have G2 := (hb5.cell (p := ⟨w.heap.size + 1 + 1, 2, none⟩) z4).trans g2
  have G3 := (hb5.cell (p := ⟨w.heap.size + 1 + 1, 3, none⟩) z4).trans g3
  clear f0 f1 f2 f3 g0 g1 g2 g3 hb5 z4 B4 hs4
  obtain ⟨x1, x2, x3, x4⟩ := index_join (p % 512) (q % 512) (r % 512) (s % 512) a
  have x5 := low_join (p % 512) (q % 512) (r % 512) (s % 512) a
  have x6 := canon_join (p % 512) (q % 512) (r % 512) (s % 512) a
  have hc := w64_join (p % 512) (q % 512) (r % 512) (s % 512) a
  have x7 := join_index a
  have x8 : canonF b = true := hB ▸ canon_sign a
  have x9 : canonF a = (a == b) := by unfold canonF; rw [hB]
  rw [hB] at x7
  generalize joinF (p % 512) (q % 512) (r % 512) (s % 512) a = c at *
  have c0 := hc.1
  have b0 := hb.1
  have a0 := ha.1
  rw [Int.emod_emod_of_dvd _ (Int.dvd_refl _)] at x1 x2 x3 x4
  clear w4
  go_wp2
  go_loopw [10] (fun i wr => ∃ k n : Nat, k ≤ 4 ∧ i = .int .i64 k ∧ wr = w5.drewN n) (fun i _ => (4 - intOf i).toNat)
  case atStart => exact ⟨0, 0, by omega, rfl, rfl⟩
  case round =>
    obtain ⟨k, n, hk, rfl, rfl⟩ := hrel
    obtain rfl | rfl | rfl | rfl | rfl : k = 0 ∨ k = 1 ∨ k = 2 ∨ k = 3 ∨ k = 4 := by omega
    · go_wp2
      go_quiet (first | (go_at_call 16; exact quietOf2 (index_any _ _ _ hs5 hc)))
      go_wp2
      go_roundw
      case rel => exact ⟨1, _, by omega, by go_num, rfl⟩
      case measure => simp [intOf]
    · go_wp2
      go_quiet (first | (go_at_call 16; exact quietOf2 (index_any _ _ _ hs5 hc)))
      go_wp2
      go_roundw
      case rel => exact ⟨2, _, by omega, by go_num, rfl⟩
      case measure => simp [intOf]
    · go_wp2
      go_quiet (first | (go_at_call 16; exact quietOf2 (index_any _ _ _ hs5 hc)))
      go_wp2
      go_roundw
      case rel => exact ⟨3, _, by omega, by go_num, rfl⟩
      case measure => simp [intOf]
    · go_wp2
      go_quiet (first | (go_at_call 16; exact quietOf2 (index_any _ _ _ hs5 hc)))
      go_wp2
      go_roundw
      case rel => exact ⟨4, _, by omega, by go_num, rfl⟩
      case measure => simp [intOf]
    · have hs6 : Shifts (w5.drewN n) := hs5
      have z6 : 0 < (w5.drewN n).heap.size := z5
      go_wp2_with (first | (go_at_call 12; refine (canon_any _ _ (by first | exact ha | exact hb | exact hc)).mono ?_; rintro e w' ⟨rfl, rfl⟩) | (go_at_call 24; refine (join_any _ _ _ _ _ _ hs6 z6 (by omega)).mono ?_; rintro e w6 ⟨rfl, hb6⟩))
      go_ret
      exact ⟨rfl, B5.out.trans (Below.mono ((drewn_below w5 n).trans hb6) B5.out.size)⟩
end Go.Proofs.YtdmaamhjcoaigaaDoor
