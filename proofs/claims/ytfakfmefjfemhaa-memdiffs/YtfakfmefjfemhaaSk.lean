/- slices.Sort at uint64, at fewer than fifty: breakPatternsOrdered. -/
import Derived.Test.YtfakfmefjfemhaaSb
namespace Go.Proofs.Ytfakfmefjfemhaa
set_option linter.unusedVariables false
set_option linter.unusedSimpArgs false
open Go.ChangeShapes Go.WideShapes Go.ChangeAt Go.RowKit
open Go.Sort (swp ltInt SortedIn PermIn)

set_option maxRecDepth 100000 in
set_option maxHeartbeats 8000000 in
theorem break_any (w : World) (g N cap : Nat) (d : Array Int) (a b : Nat) (hS : Row w g N d) (hab : a + 12 < b) (hb : b ≤ d.size) (hn : d.size < 50) :
    Calls Try.prog 65 #[.slice (some ⟨g, 0, none⟩) d.size cap, .int .i64 a, .int .i64 b] w fun e w' => e = .returned (.tuple #[]) ∧ ∃ d' : Array Int, Srt w w' g N d' ∧ PermIn a b d d' := by
  obtain ⟨n, hnd⟩ : ∃ n, d.size = n := ⟨_, rfl⟩
  rw [hnd] at hb hn ⊢
  obtain ⟨l, hl⟩ : ∃ l : Nat, b - a = l := ⟨_, rfl⟩
  obtain ⟨q, hq⟩ : ∃ q : Nat, l / 4 = q := ⟨_, rfl⟩
  have e1 : (b : Int) - (a : Int) = (l : Int) := by omega
  have e2 : (l : Int).tdiv 4 = (q : Int) := by rw [Int.tdiv_eq_ediv_of_nonneg (by omega)]; omega
  obtain ⟨k, hk⟩ : ∃ k : Nat, a + q * 2 = k := ⟨_, rfl⟩
  have e4 : (a : Int) + (q : Int) * 2 = (k : Int) := by omega
  have l1 : (8 : Int) ≤ (l : Int) := by omega
  have l2 : (l : Int) < 50 := by omega
  have q12 : (q : Int) ≤ 12 := by omega
  have a50 : (a : Int) ≤ 50 := by omega
  have k50 : (k : Int) ≤ 50 := by omega
  have hk1 : a + 6 ≤ k := by omega
  have hk2 : k + 1 < b := by omega
  go_enter Try.func65, Try.ntmps65
  go_wp2_with fail
  refine (pow2_any l _ (by omega) (by omega)).mono ?_
  rintro e w1 ⟨⟨md, rfl, hmd, hm1, hm2⟩, rfl⟩
  have hR0 := (Srt.start hS).alloc (.cells #[.int .u64 l] 116)
  have hG0 : Rng (w.alloc (.cells #[.int .u64 l] 116)) w.heap.size := ⟨_, Deep.blk_alloc_new _ _⟩
  have hmb : 16 ≤ md ∧ md ≤ 64 := by omega
  obtain ⟨mb0, mb1⟩ := hmb
  clear hmd
  go_wp2
  go_loopw [9] (fun v wr => ∃ (i : Nat) (d1 : Array Int), k ≤ i + 1 ∧ i ≤ k + 2 ∧ v = .int .i64 i ∧ d1.size = n ∧ PermIn a b d d1 ∧ Srt w wr g N d1 ∧ Rng wr w.heap.size) (fun v _ => (k + 2 - intOf v).toNat)
  case atStart => exact ⟨k - 1, d, by omega, by omega, by go_num, hnd, Sort.permIn_refl _ _ _, hR0, hG0⟩
  case round =>
    obtain ⟨i, d1, hi1, hi2, rfl, hd1, hpm, hR, hG⟩ := hrel
    by_cases hlt : i ≤ k + 1
    · have hlt' : (i : Int) ≤ (k : Int) + 1 := by omega
      have hne := hG.ne hR.row
      go_wp2_with fail
      refine (next_any _ _ hG).mono ?_
      rintro e w2 ⟨r, rfl, hG2, hT2⟩
      have hR2 : Srt w w2 g N d1 := ⟨hR.turn.trans (hT2.mono fun i _ hi => Or.inr (by rw [hi]; exact Nat.le_refl _)), hR.row.turn hT2 hne⟩
      have hal := and_le r (md - 1) (by omega) (by omega)
      obtain ⟨o, ho⟩ : ∃ o : Nat, bits .and .u64 r (md - 1) = (o : Int) := ⟨(bits .and .u64 r (md - 1)).toNat, by omega⟩
      rw [ho] at hal
      obtain ⟨_, o1⟩ := hal
      clear hR hG hT2
      by_cases hol : o < l
      · have hol' : (o : Int) < (l : Int) := by omega
        obtain ⟨P, hP⟩ : ∃ P : Nat, a + o = P := ⟨_, rfl⟩
        have eP : (a : Int) + (o : Int) = (P : Int) := by omega
        have v1 := hR2.row.cell (i := i) (by omega)
        have v2 := hR2.row.cell (i := P) (by omega)
        have f1 := hR2.row.free i
        have f2 := hR2.row.free P
        obtain ⟨x, hx⟩ : ∃ x, d1[i]! = x := ⟨_, rfl⟩
        obtain ⟨y, hy⟩ : ∃ y, d1[P]! = y := ⟨_, rfl⟩
        rw [hx] at v1
        rw [hy] at v2
        obtain ⟨v3, hv3⟩ : ∃ v3, (w2.setCell ⟨g, i, none⟩ (.int .u64 y)).cell? ⟨g, P, none⟩ = some v3 := ⟨_, (hR2.row.set (i := i) (by omega) y).cell (i := P) (by simp; omega)⟩
        have hR3 := hR2.swap' (i := i) (j := P) (by omega) (by omega) hx hy
        have kk1 : (i : Int) < (n : Int) := by omega
        have kk2 : (P : Int) < (n : Int) := by omega
        have HPm := Lib.hid (Sort.permIn_trans _ _ _ a b hpm (Sort.swp_permIn d1 a b i P (by omega) (by omega) (by omega) (by omega) (by omega)))
        have HG3 : Hid (Rng ((w2.setCell ⟨g, i, none⟩ (.int .u64 y)).setCell ⟨g, P, none⟩ (.int .u64 x)) w.heap.size) := Lib.hid (by obtain ⟨c, hc⟩ := hG2; exact ⟨c, ((Below.heap_setCell _ _ _ _ hne).trans (Below.heap_setCell _ _ _ _ hne)).trans hc⟩)
        clear hx hy
        go_wp2
        go_region
        go_wp2
        go_roundw
        case rel => exact ⟨i + 1, swp d1 i P, by omega, by omega, by go_num, by rw [Sort.size_swp]; exact hd1, HPm.out, hR3.drew, HG3.out⟩
        case measure => simp [intOf]; omega
      · have hol' : (l : Int) ≤ (o : Int) := by omega
        obtain ⟨o2, ho2⟩ : ∃ o2 : Nat, o - l = o2 := ⟨_, rfl⟩
        have eo : (o : Int) - (l : Int) = (o2 : Int) := by omega
        obtain ⟨P, hP⟩ : ∃ P : Nat, a + o2 = P := ⟨_, rfl⟩
        have eP : (a : Int) + (o2 : Int) = (P : Int) := by omega
        have v1 := hR2.row.cell (i := i) (by omega)
        have v2 := hR2.row.cell (i := P) (by omega)
        have f1 := hR2.row.free i
        have f2 := hR2.row.free P
        obtain ⟨x, hx⟩ : ∃ x, d1[i]! = x := ⟨_, rfl⟩
        obtain ⟨y, hy⟩ : ∃ y, d1[P]! = y := ⟨_, rfl⟩
        rw [hx] at v1
        rw [hy] at v2
        obtain ⟨v3, hv3⟩ : ∃ v3, (w2.setCell ⟨g, i, none⟩ (.int .u64 y)).cell? ⟨g, P, none⟩ = some v3 := ⟨_, (hR2.row.set (i := i) (by omega) y).cell (i := P) (by simp; omega)⟩
        have hR3 := hR2.swap' (i := i) (j := P) (by omega) (by omega) hx hy
        have kk1 : (i : Int) < (n : Int) := by omega
        have kk2 : (P : Int) < (n : Int) := by omega
        have HPm := Lib.hid (Sort.permIn_trans _ _ _ a b hpm (Sort.swp_permIn d1 a b i P (by omega) (by omega) (by omega) (by omega) (by omega)))
        have HG3 : Hid (Rng ((w2.setCell ⟨g, i, none⟩ (.int .u64 y)).setCell ⟨g, P, none⟩ (.int .u64 x)) w.heap.size) := Lib.hid (by obtain ⟨c, hc⟩ := hG2; exact ⟨c, ((Below.heap_setCell _ _ _ _ hne).trans (Below.heap_setCell _ _ _ _ hne)).trans hc⟩)
        clear hx hy
        go_wp2
        go_region
        go_wp2
        go_roundw
        case rel => exact ⟨i + 1, swp d1 i P, by omega, by omega, by go_num, by rw [Sort.size_swp]; exact hd1, HPm.out, hR3.drew, HG3.out⟩
        case measure => simp [intOf]; omega
    · have hge : (k : Int) + 1 < (i : Int) := by omega
      go_wp2
      go_end0
      exact ⟨rfl, d1, hR, hpm⟩

end Go.Proofs.Ytfakfmefjfemhaa
