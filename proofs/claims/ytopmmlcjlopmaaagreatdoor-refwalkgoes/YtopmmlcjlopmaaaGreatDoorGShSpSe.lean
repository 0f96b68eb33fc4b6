/- Several texts of ours in one: Sh, Sp, Se. -/
import Derived.Test.YtopmmlcjlopmaaaGreatDoorGBxKfSo
import Derived.Sort.LotA
import Derived.Deep.CutRange
import Derived.Deep.CutBlock
/- slices.Sort at uint64: siftDownOrdered, heapSortOrdered. -/
namespace Go.Proofs.YtopmmlcjlopmaaaGreatDoor
set_option linter.unusedVariables false
set_option linter.unusedSimpArgs false
open Go.ChangeShapes Go.WideShapes Go.ChangeAt Go.RowKit
open Go.Sort (swp ltInt)

/-- the greater child -/
def pick (hi F root : Nat) (d : Array Int) : Nat := if 2 * root + 2 < hi ∧ ltInt d[F + (2 * root + 1)]! d[F + (2 * root + 1) + 1]! = true then 2 * root + 2 else 2 * root + 1

theorem sift_step {hi F root : Nat} {d : Array Int} (h : 2 * root + 1 < hi) : Sort.siftDown ltInt hi F root d = if ltInt d[F + root]! d[F + pick hi F root d]! = true then Sort.siftDown ltInt hi F (pick hi F root d) (swp d (F + root) (F + pick hi F root d)) else d := by
  rw [Sort.siftDown, dif_neg (by omega)]
  unfold pick
  by_cases h1 : 2 * root + 2 < hi ∧ ltInt d[F + (2 * root + 1)]! d[F + (2 * root + 1) + 1]! = true
  · have hb : (decide (2 * root + 1 + 1 < hi) && ltInt d[F + (2 * root + 1)]! d[F + (2 * root + 1) + 1]!) = true := by rw [h1.2]; simp; omega
    rw [if_pos hb, if_pos h1]
    by_cases h2 : ltInt d[F + root]! d[F + (2 * root + 2)]! = true
    · rw [h2]; simp [h1.1]
    · rw [if_neg h2]; simp [h2]
  · have hb : (decide (2 * root + 1 + 1 < hi) && ltInt d[F + (2 * root + 1)]! d[F + (2 * root + 1) + 1]!) = false := by
      by_cases h3 : 2 * root + 2 < hi
      · have : ltInt d[F + (2 * root + 1)]! d[F + (2 * root + 1) + 1]! = false := by
          cases hc : ltInt d[F + (2 * root + 1)]! d[F + (2 * root + 1) + 1]! with
          | false => rfl
          | true => exact absurd ⟨h3, hc⟩ h1
        rw [this]; simp
      · simp; intro h4; omega
    rw [hb, if_neg h1]
    by_cases h2 : ltInt d[F + root]! d[F + (2 * root + 1)]! = true
    · simp [h2]
    · simp [h2]
theorem sift_end {hi F root : Nat} {d : Array Int} (h : hi ≤ 2 * root + 1) : Sort.siftDown ltInt hi F root d = d := by
  rw [Sort.siftDown, dif_pos h]

set_option maxRecDepth 100000 in
set_option maxHeartbeats 8000000 in
theorem sift_any (w : World) (g N cap : Nat) (d : Array Int) (lo hi F : Nat) (hS : Row w g N d) (hF : F + hi ≤ d.size) (hn : d.size < 50) (hlo : lo ≤ 50) :
    Calls Tryz.prog 135 #[.slice (some ⟨g, 0, none⟩) d.size cap, .int .i64 lo, .int .i64 hi, .int .i64 F] w fun e w' => e = .returned (.tuple #[]) ∧ Srt w w' g N (Sort.siftDown ltInt hi F lo d) ∧ (Sort.siftDown ltInt hi F lo d).size = d.size := by
  obtain ⟨n, hnd⟩ : ∃ n, d.size = n := ⟨_, rfl⟩
  rw [hnd] at hF hn ⊢
  go_enter Tryz.func135, Tryz.ntmps135
  go_wp2
  go_loopw [8] (fun v wr => ∃ (root : Nat) (d1 : Array Int), d1.size = n ∧ root ≤ 50 ∧ v = .int .i64 root ∧ Sort.siftDown ltInt hi F root d1 = Sort.siftDown ltInt hi F lo d ∧ Srt w wr g N d1) (fun v _ => (50 - intOf v).toNat)
  case atStart => exact ⟨lo, d, hnd, hlo, rfl, rfl, Srt.start hS⟩
  case round =>
    obtain ⟨root, d1, hd1, hr50, rfl, hE, hR⟩ := hrel
    have HE := Lib.hid hE
    clear hE
    by_cases hch : 2 * root + 1 < hi
    · have i0 : 2 * (root : Int) + 1 < (hi : Int) := by omega
      by_cases h2 : 2 * root + 2 < hi
      · have j2 : 2 * (root : Int) + 1 + 1 < (hi : Int) := by omega
        have u1 := hR.row.cell (i := F + (2 * root + 1)) (by omega)
        have u2 := hR.row.cell (i := F + (2 * root + 1) + 1) (by omega)
        obtain ⟨C, hC0⟩ : ∃ C : Nat, F + (2 * root + 1) = C := ⟨_, rfl⟩
        rw [hC0] at u1 u2
        obtain ⟨p, hp⟩ : ∃ p, d1[C]! = p := ⟨_, rfl⟩
        obtain ⟨q, hq⟩ : ∃ q, d1[C + 1]! = q := ⟨_, rfl⟩
        rw [hp] at u1
        rw [hq] at u2
        have k1 : (F : Int) + (2 * (root : Int) + 1) = (C : Int) := by omega
        have m1 : (C : Int) < (n : Int) := by omega
        have m2 : (C : Int) + 1 < (n : Int) := by omega
        by_cases hl0 : ltInt p q = true
        · have HPK := Lib.hid (show pick hi F root d1 = 2 * root + 2 by unfold pick; rw [hC0, hp, hq, if_pos ⟨h2, hl0⟩])
          have HJ := Lib.hid (And.intro hC0 (And.intro hp hq))
          clear hC0 hp hq
          go_wp2
          go_quiet (first | (go_at_call 130; exact quietOf (less_any _ _ _)))
          go_wp2
          clear u1 u2 k1 m1 m2
          have v1 := hR.row.cell (i := F + root) (by omega)
          have v2 := hR.row.cell (i := F + (2 * root + 2)) (by omega)
          have f1 := hR.row.free (F + root)
          have f2 := hR.row.free (F + (2 * root + 2))
          obtain ⟨R, hR0⟩ : ∃ R : Nat, F + root = R := ⟨_, rfl⟩
          obtain ⟨P, hP0⟩ : ∃ P : Nat, F + (2 * root + 2) = P := ⟨_, rfl⟩
          rw [hR0] at v1 f1
          rw [hP0] at v2 f2
          obtain ⟨x, hx⟩ : ∃ x, d1[R]! = x := ⟨_, rfl⟩
          obtain ⟨y, hy⟩ : ∃ y, d1[P]! = y := ⟨_, rfl⟩
          rw [hx] at v1
          rw [hy] at v2
          have i1 : (F : Int) + (root : Int) = (R : Int) := by omega
          have i2 : (F : Int) + (2 * (root : Int) + 1 + 1) = (P : Int) := by omega
          have l1 : (R : Int) < (n : Int) := by omega
          have l2 : (P : Int) < (n : Int) := by omega
          have HXY := Lib.hid (And.intro hx hy)
          have HI := Lib.hid (And.intro hR0 hP0)
          have HB := Lib.hid (show R < n ∧ P < n by omega)
          clear hx hy hR0 hP0
          by_cases hl : ltInt x y = true
          · have E := Lib.hid (show Sort.siftDown ltInt hi F ((2 * root + 2)) (swp d1 R P) = Sort.siftDown ltInt hi F lo d by
              rw [← HE.out, sift_step hch, HPK.out, HI.out.1, HI.out.2, HXY.out.1, HXY.out.2, if_pos hl])
            go_quiet (first | (go_at_call 130; exact quietOf2 (less_any _ _ _)))
            go_wp2
            go_region
            go_wp2
            go_roundw
            case rel => exact ⟨(2 * root + 2), swp d1 R P, by rw [Sort.size_swp]; exact hd1, by omega, by go_num, E.out, (hR.drewN _).swap' (by omega) (by omega) HXY.out.1 HXY.out.2⟩
            case measure => simp [intOf]; omega
          · have hl' : ltInt x y = false := by simpa using hl
            have E := Lib.hid (show d1 = Sort.siftDown ltInt hi F lo d by
              rw [← HE.out, sift_step hch, HPK.out, HI.out.1, HI.out.2, HXY.out.1, HXY.out.2, if_neg hl])
            clear hl
            go_quiet (first | (go_at_call 130; exact quietOf2 (less_any _ _ _)))
            go_wp2
            first | go_end0 | ((try simp only [Exit.inBlock, Exit.then]); refine bodyPost_ret (results_none rfl _ _ _) rfl ?_)
            exact ⟨rfl, by rw [← E.out]; exact (hR.drewN _).drewN _, by rw [← E.out]; exact hd1⟩
        · have hl0' : ltInt p q = false := by simpa using hl0
          have HPK := Lib.hid (show pick hi F root d1 = 2 * root + 1 by unfold pick; rw [hC0, hp, hq, if_neg (fun h => hl0 h.2)])
          have HJ := Lib.hid (And.intro hC0 (And.intro hp hq))
          clear hC0 hp hq hl0
          go_wp2
          go_quiet (first | (go_at_call 130; exact quietOf (less_any _ _ _)))
          go_wp2
          clear u1 u2 k1 m1 m2
          have v1 := hR.row.cell (i := F + root) (by omega)
          have v2 := hR.row.cell (i := F + (2 * root + 1)) (by omega)
          have f1 := hR.row.free (F + root)
          have f2 := hR.row.free (F + (2 * root + 1))
          obtain ⟨R, hR0⟩ : ∃ R : Nat, F + root = R := ⟨_, rfl⟩
          obtain ⟨P, hP0⟩ : ∃ P : Nat, F + (2 * root + 1) = P := ⟨_, rfl⟩
          rw [hR0] at v1 f1
          rw [hP0] at v2 f2
          obtain ⟨x, hx⟩ : ∃ x, d1[R]! = x := ⟨_, rfl⟩
          obtain ⟨y, hy⟩ : ∃ y, d1[P]! = y := ⟨_, rfl⟩
          rw [hx] at v1
          rw [hy] at v2
          have i1 : (F : Int) + (root : Int) = (R : Int) := by omega
          have i2 : (F : Int) + (2 * (root : Int) + 1) = (P : Int) := by omega
          have l1 : (R : Int) < (n : Int) := by omega
          have l2 : (P : Int) < (n : Int) := by omega
          have HXY := Lib.hid (And.intro hx hy)
          have HI := Lib.hid (And.intro hR0 hP0)
          have HB := Lib.hid (show R < n ∧ P < n by omega)
          clear hx hy hR0 hP0
          by_cases hl : ltInt x y = true
          · have E := Lib.hid (show Sort.siftDown ltInt hi F ((2 * root + 1)) (swp d1 R P) = Sort.siftDown ltInt hi F lo d by
              rw [← HE.out, sift_step hch, HPK.out, HI.out.1, HI.out.2, HXY.out.1, HXY.out.2, if_pos hl])
            go_quiet (first | (go_at_call 130; exact quietOf2 (less_any _ _ _)))
            go_wp2
            go_region
            go_wp2
            go_roundw
            case rel => exact ⟨(2 * root + 1), swp d1 R P, by rw [Sort.size_swp]; exact hd1, by omega, by go_num, E.out, (hR.drewN _).swap' (by omega) (by omega) HXY.out.1 HXY.out.2⟩
            case measure => simp [intOf]; omega
          · have hl' : ltInt x y = false := by simpa using hl
            have E := Lib.hid (show d1 = Sort.siftDown ltInt hi F lo d by
              rw [← HE.out, sift_step hch, HPK.out, HI.out.1, HI.out.2, HXY.out.1, HXY.out.2, if_neg hl])
            clear hl
            go_quiet (first | (go_at_call 130; exact quietOf2 (less_any _ _ _)))
            go_wp2
            first | go_end0 | ((try simp only [Exit.inBlock, Exit.then]); refine bodyPost_ret (results_none rfl _ _ _) rfl ?_)
            exact ⟨rfl, by rw [← E.out]; exact (hR.drewN _).drewN _, by rw [← E.out]; exact hd1⟩
      · have j2 : decide (2 * (root : Int) + 1 + 1 < (hi : Int)) = false := by simp; omega
        have HPK := Lib.hid (show pick hi F root d1 = 2 * root + 1 by unfold pick; rw [if_neg (fun h => h2 h.1)])
        · have htrue : True := trivial
          go_wp2
          go_quiet (fail)
          go_wp2
          have v1 := hR.row.cell (i := F + root) (by omega)
          have v2 := hR.row.cell (i := F + (2 * root + 1)) (by omega)
          have f1 := hR.row.free (F + root)
          have f2 := hR.row.free (F + (2 * root + 1))
          obtain ⟨R, hR0⟩ : ∃ R : Nat, F + root = R := ⟨_, rfl⟩
          obtain ⟨P, hP0⟩ : ∃ P : Nat, F + (2 * root + 1) = P := ⟨_, rfl⟩
          rw [hR0] at v1 f1
          rw [hP0] at v2 f2
          obtain ⟨x, hx⟩ : ∃ x, d1[R]! = x := ⟨_, rfl⟩
          obtain ⟨y, hy⟩ : ∃ y, d1[P]! = y := ⟨_, rfl⟩
          rw [hx] at v1
          rw [hy] at v2
          have i1 : (F : Int) + (root : Int) = (R : Int) := by omega
          have i2 : (F : Int) + (2 * (root : Int) + 1) = (P : Int) := by omega
          have l1 : (R : Int) < (n : Int) := by omega
          have l2 : (P : Int) < (n : Int) := by omega
          have HXY := Lib.hid (And.intro hx hy)
          have HI := Lib.hid (And.intro hR0 hP0)
          have HB := Lib.hid (show R < n ∧ P < n by omega)
          clear hx hy hR0 hP0
          by_cases hl : ltInt x y = true
          · have E := Lib.hid (show Sort.siftDown ltInt hi F ((2 * root + 1)) (swp d1 R P) = Sort.siftDown ltInt hi F lo d by
              rw [← HE.out, sift_step hch, HPK.out, HI.out.1, HI.out.2, HXY.out.1, HXY.out.2, if_pos hl])
            go_quiet (first | (go_at_call 130; exact quietOf2 (less_any _ _ _)))
            go_wp2
            go_region
            go_wp2
            go_roundw
            case rel => exact ⟨(2 * root + 1), swp d1 R P, by rw [Sort.size_swp]; exact hd1, by omega, by go_num, E.out, (hR.drewN _).swap' (by omega) (by omega) HXY.out.1 HXY.out.2⟩
            case measure => simp [intOf]; omega
          · have hl' : ltInt x y = false := by simpa using hl
            have E := Lib.hid (show d1 = Sort.siftDown ltInt hi F lo d by
              rw [← HE.out, sift_step hch, HPK.out, HI.out.1, HI.out.2, HXY.out.1, HXY.out.2, if_neg hl])
            clear hl
            go_quiet (first | (go_at_call 130; exact quietOf2 (less_any _ _ _)))
            go_wp2
            first | go_end0 | ((try simp only [Exit.inBlock, Exit.then]); refine bodyPost_ret (results_none rfl _ _ _) rfl ?_)
            exact ⟨rfl, by rw [← E.out]; exact (hR.drewN _).drewN _, by rw [← E.out]; exact hd1⟩
    · have hge : (hi : Int) ≤ 2 * (root : Int) + 1 := by omega
      have E := Lib.hid ((sift_end (F := F) (d := d1) (show hi ≤ 2 * root + 1 by omega)).symm.trans HE.out)
      go_wp2
      go_end0
      exact ⟨rfl, by rw [← E.out]; exact hR, by rw [← E.out]; exact hd1⟩

theorem sift0_any (w : World) (g N cap : Nat) (d : Array Int) (hi F : Nat) (hS : Row w g N d) (hF : F + hi ≤ d.size) (hn : d.size < 50) :
    Calls Tryz.prog 135 #[.slice (some ⟨g, 0, none⟩) d.size cap, .int .i64 0, .int .i64 hi, .int .i64 F] w fun e w' => e = .returned (.tuple #[]) ∧ Srt w w' g N (Sort.siftDown ltInt hi F 0 d) ∧ (Sort.siftDown ltInt hi F 0 d).size = d.size :=
  sift_any w g N cap d 0 hi F hS hF hn (by omega)

set_option maxRecDepth 100000 in
set_option maxHeartbeats 8000000 in
theorem heap_any (w : World) (g N cap : Nat) (d : Array Int) (a b : Nat) (hS : Row w g N d) (hab : a ≤ b) (hb : b ≤ d.size) (hn : d.size < 50) :
    Calls Tryz.prog 125 #[.slice (some ⟨g, 0, none⟩) d.size cap, .int .i64 a, .int .i64 b] w fun e w' => e = .returned (.tuple #[]) ∧ Srt w w' g N (Sort.heapSort ltInt d a b) ∧ (Sort.heapSort ltInt d a b).size = d.size := by
  obtain ⟨n, hnd⟩ : ∃ n, d.size = n := ⟨_, rfl⟩
  rw [hnd] at hb hn ⊢
  obtain ⟨h, hh⟩ : ∃ h : Nat, b - a = h := ⟨_, rfl⟩
  have e1 : (b : Int) - (a : Int) = (h : Int) := by omega
  have e2 : ((h : Int) - 1).tdiv 2 = (((h - 1) / 2 : Nat) : Int) := by
    rcases h with _ | h
    · rfl
    · rw [show (((h + 1 : Nat) : Int) - 1) = (h : Int) by omega, Int.tdiv_eq_ediv_of_nonneg (by omega)]; simp
  obtain ⟨r, hr⟩ : ∃ r : Nat, (h - 1) / 2 = r := ⟨_, rfl⟩
  rw [hr] at e2
  have hr2 : r ≤ 50 := by omega
  have HD := Lib.hid (show Sort.heapSort ltInt d a b = Sort.heapPop ltInt a h (Sort.heapBuild ltInt h a (r + 1) d) by unfold Sort.heapSort; rw [hh, hr])
  have hah : a + h ≤ n := by omega
  clear hr
  go_enter Tryz.func125, Tryz.ntmps125
  go_wp2
  go_loopw [9] (fun v wr => ∃ (k : Nat) (d1 : Array Int), d1.size = n ∧ k ≤ r + 1 ∧ v = .int .i64 ((k : Int) - 1) ∧ Sort.heapBuild ltInt h a k d1 = Sort.heapBuild ltInt h a (r + 1) d ∧ Srt w wr g N d1) (fun v _ => (intOf v + 1).toNat)
  case atStart => exact ⟨r + 1, d, hnd, Nat.le_refl _, by go_num, rfl, Srt.start hS⟩
  case round =>
    obtain ⟨k, d1, hd1, hk, rfl, hE, hR⟩ := hrel
    rcases k with _ | k
    · have HE := Lib.hid (show d1 = Sort.heapBuild ltInt h a (r + 1) d from hE)
      clear hE
      rw [show ((0 : Nat) : Int) - 1 = -1 from rfl]
      go_wp2
      go_loopw [10] (fun v wr => ∃ (k : Nat) (d2 : Array Int), d2.size = n ∧ k ≤ h ∧ v = .int .i64 ((k : Int) - 1) ∧ Sort.heapPop ltInt a k d2 = Sort.heapPop ltInt a h d1 ∧ Srt w wr g N d2) (fun v _ => (intOf v + 1).toNat)
      case atStart => exact ⟨h, d1, hd1, Nat.le_refl _, by go_num, rfl, hR⟩
      case round =>
        obtain ⟨k, d2, hd2, hk2, rfl, hE2, hR2⟩ := hrel
        rcases k with _ | k
        · have E2 := Lib.hid (show d2 = Sort.heapSort ltInt d a b by rw [HD.out, ← HE.out]; exact hE2)
          clear hE2
          go_wp2
          go_end0
          exact ⟨rfl, by rw [← E2.out]; exact hR2, by rw [← E2.out]; exact hd2⟩
        · rw [show (((k + 1 : Nat) : Int) - 1) = k by omega]
          have HE2 := Lib.hid (show Sort.heapPop ltInt a k (Sort.siftDown ltInt k a 0 (swp d2 a (a + k))) = Sort.heapPop ltInt a h d1 from hE2)
          have v1 := hR2.row.cell (i := a) (by omega)
          have v2 := hR2.row.cell (i := a + k) (by omega)
          have f1 := hR2.row.free a
          have f2 := hR2.row.free (a + k)
          obtain ⟨P, hP0⟩ : ∃ P : Nat, a + k = P := ⟨_, rfl⟩
          rw [hP0] at v2 f2 HE2
          obtain ⟨x, hx⟩ : ∃ x, d2[a]! = x := ⟨_, rfl⟩
          obtain ⟨y, hy⟩ : ∃ y, d2[P]! = y := ⟨_, rfl⟩
          rw [hx] at v1
          rw [hy] at v2
          have i1 : (a : Int) + (k : Int) = (P : Int) := by omega
          have l1 : (a : Int) < (n : Int) := by omega
          have l2 : (P : Int) < (n : Int) := by omega
          have HXY := Lib.hid (And.intro hx hy)
          have HB := Lib.hid (show a < n ∧ P < n ∧ a + k ≤ n by omega)
          have HSZ := Lib.hid (show (swp d2 a P).size = n by rw [Sort.size_swp]; exact hd2)
          obtain ⟨v3, hv3⟩ : ∃ v3, (wr.setCell ⟨g, a, none⟩ (.int .u64 y)).cell? ⟨g, P, none⟩ = some v3 := ⟨_, (hR2.row.set (i := a) (by omega) y).cell (i := P) (by simp; omega)⟩
          have hR3 := hR2.swap' (i := a) (j := P) (by omega) (by omega) hx hy
          have HC := fun cap w hS => Lib.hid (sift0_any w g N cap (swp d2 a P) k a hS (by rw [Sort.size_swp]; omega) (by rw [Sort.size_swp]; omega))
          rw [HSZ.out] at HC
          clear hx hy hP0 hE2
          go_wp2
          go_region
          go_wp2_with (go_at_call 135; refine (HC _ _ hR3.drew.row).out.mono ?_; rintro e w2 ⟨rfl, hR4, hs4⟩)
          go_roundw
          case rel => exact ⟨k, _, hs4, by omega, by go_num, HE2.out, (hR3.drew).trans hR4⟩
          case measure => simp [intOf]
    · rw [show (((k + 1 : Nat) : Int) - 1) = k by omega]
      have HE := Lib.hid (show Sort.heapBuild ltInt h a k (Sort.siftDown ltInt h a k d1) = Sort.heapBuild ltInt h a (r + 1) d from hE)
      clear hE
      obtain ⟨nn, hnn⟩ : ∃ nn, d1.size = nn := ⟨_, rfl⟩
      have HC := fun cap w hS => Lib.hid (sift_any w g N cap d1 k h a hS (by omega) (by omega) (by omega))
      rw [hd1] at HC
      go_wp2_with (go_at_call 135; refine (HC _ _ hR.row).out.mono ?_; rintro e w2 ⟨rfl, hR2, hs2⟩)
      go_roundw
      case rel => exact ⟨k, _, hs2, by omega, by go_num, HE.out, hR.trans hR2⟩
      case measure => simp [intOf]

end Go.Proofs.YtopmmlcjlopmaaaGreatDoor
/- slices.Sort at uint64, at fewer than fifty: reverseRangeOrdered, choosePivotOrdered, partialInsertionSortOrdered. -/
namespace Go.Proofs.YtopmmlcjlopmaaaGreatDoor
set_option linter.unusedVariables false
set_option linter.unusedSimpArgs false
open Go.ChangeShapes Go.WideShapes Go.ChangeAt Go.RowKit
open Go.Sort (swp ltInt SortedIn)

theorem rev_more {i j : Nat} {d : Array Int} (h : i < j) : Sort.reverseLoop i j d = Sort.reverseLoop (i + 1) (j - 1) (swp d i j) := by rw [Sort.reverseLoop, if_pos h]
theorem rev_end {i j : Nat} {d : Array Int} (h : ¬ i < j) : Sort.reverseLoop i j d = d := by rw [Sort.reverseLoop, if_neg h]

set_option maxRecDepth 100000 in
set_option maxHeartbeats 4000000 in
theorem rev_any (w : World) (g N cap : Nat) (d : Array Int) (a b : Nat) (hS : Row w g N d) (hab : a < b) (hb : b ≤ d.size) (hn : d.size < 50) :
    Calls Tryz.prog 128 #[.slice (some ⟨g, 0, none⟩) d.size cap, .int .i64 a, .int .i64 b] w fun e w' => e = .returned (.tuple #[]) ∧ Srt w w' g N (Sort.reverseRange d a b) ∧ (Sort.reverseRange d a b).size = d.size := by
  obtain ⟨n, hnd⟩ : ∃ n, d.size = n := ⟨_, rfl⟩
  rw [hnd] at hb hn ⊢
  go_enter Tryz.func128, Tryz.ntmps128
  go_wp2
  go_loopw [6, 7] (fun u v wr => ∃ (i j : Nat) (d1 : Array Int), d1.size = n ∧ i ≤ j + 1 ∧ j < n ∧ u = .int .i64 i ∧ v = .int .i64 j ∧ Sort.reverseLoop i j d1 = Sort.reverseRange d a b ∧ Srt w wr g N d1) (fun _ v _ => (intOf v + 1).toNat)
  case atStart => exact ⟨a, b - 1, d, hnd, by omega, by omega, rfl, by go_num, rfl, Srt.start hS⟩
  case round =>
    obtain ⟨i, j, d1, hd1, hij, hj, rfl, rfl, hE, hR⟩ := hrel
    by_cases hlt : i < j
    · have E := Lib.hid ((rev_more (d := d1) hlt).symm.trans hE)
      have v1 := hR.row.cell (i := i) (by omega)
      have v2 := hR.row.cell (i := j) (by omega)
      have f1 := hR.row.free i
      have f2 := hR.row.free j
      obtain ⟨x, hx⟩ : ∃ x, d1[i]! = x := ⟨_, rfl⟩
      obtain ⟨y, hy⟩ : ∃ y, d1[j]! = y := ⟨_, rfl⟩
      rw [hx] at v1
      rw [hy] at v2
      obtain ⟨v3, hv3⟩ : ∃ v3, (wr.setCell ⟨g, i, none⟩ (.int .u64 y)).cell? ⟨g, j, none⟩ = some v3 := ⟨_, (hR.row.set (i := i) (by omega) y).cell (i := j) (by simp; omega)⟩
      have hR3 := hR.swap' (i := i) (j := j) (by omega) (by omega) hx hy
      clear hx hy hE
      go_wp2
      go_region
      go_wp2
      go_roundw
      case rel => exact ⟨i + 1, j - 1, swp d1 i j, by rw [Sort.size_swp]; exact hd1, by omega, by omega, by go_num, by go_num, E.out, hR3.drew⟩
      case measure => simp [intOf]
    · have E := Lib.hid ((rev_end (d := d1) hlt).symm.trans hE)
      have hle : (j : Int) ≤ (i : Int) := by omega
      clear hE
      go_wp2
      go_end0
      exact ⟨rfl, by rw [← E.out]; exact hR, by rw [← E.out]; exact hd1⟩

/-- a counter in a block of its own -/
def Cnt (w : World) (s : Nat) : Prop := ∃ c : Int, w.heap[s]? = some (.cells #[.int .i64 c] 3 (0, 0))

theorem Cnt.ne {w : World} {s g N : Nat} {d : Array Int} (h : Cnt w s) (hr : Row w g N d) : s ≠ g := by
  rintro rfl
  obtain ⟨c, hc⟩ := h
  obtain ⟨c', hc', _⟩ := hr
  rw [hc] at hc'; simp at hc'
theorem Row.turn {w w' : World} {s g N : Nat} {d : Array Int} (hr : Row w g N d) (ht : Turn (fun i => i = s) w w') (hne : s ≠ g) : Row w' g N d := by
  obtain ⟨c, hc, r⟩ := hr
  exact ⟨c, (ht.block g (lt_of_block hc) (fun e => hne e.symm)).trans hc, r⟩
theorem Cnt.set {w : World} {s : Nat} (h : Cnt w s) (x : Int) : Cnt (w.setCell ⟨s, 0, none⟩ (.int .i64 x)) s := by
  obtain ⟨c, hc⟩ := h
  exact ⟨x, one_setCell hc⟩

theorem order2_any (w : World) (g N cap : Nat) (d : Array Int) (a b s l h : Nat) (hS : Row w g N d) (hs : Cnt w s) (ha : l ≤ a ∧ a < h) (hb : l ≤ b ∧ b < h) (hh : h ≤ d.size) (hn : d.size < 50) :
    Calls Tryz.prog 141 #[.slice (some ⟨g, 0, none⟩) d.size cap, .int .i64 a, .int .i64 b, .pointer (some ⟨s, 0, none⟩)] w fun e w' => ∃ x y : Nat, e = .returned (.tuple #[.int .i64 x, .int .i64 y]) ∧ (l ≤ x ∧ x < h) ∧ (l ≤ y ∧ y < h) ∧ Cnt w' s ∧ Turn (fun i => i = s) w w' := by
  obtain ⟨n, hnd⟩ : ∃ n, d.size = n := ⟨_, rfl⟩
  rw [hnd] at hh hn ⊢
  have v1 := hS.cell (i := a) (by omega)
  have v2 := hS.cell (i := b) (by omega)
  obtain ⟨x, hx⟩ : ∃ x, d[a]! = x := ⟨_, rfl⟩
  obtain ⟨y, hy⟩ : ∃ y, d[b]! = y := ⟨_, rfl⟩
  rw [hx] at v1
  rw [hy] at v2
  obtain ⟨c, hc⟩ := hs
  have c0 := cell_of_one hc
  have f0 := free_of_one hc
  have l1 : (a : Int) < (n : Int) := by omega
  have l2 : (b : Int) < (n : Int) := by omega
  have HC := Lib.hid hc
  clear hx hy hc
  by_cases hl : ltInt y x = true
  · go_enter Tryz.func141, Tryz.ntmps141
    go_wp2
    go_quiet (first | (go_at_call 130; exact quietOf (less_any _ _ _)))
    rw [hl]
    go_wp2
    go_ret2
    exact ⟨b, a, rfl, hb, ha, Cnt.set (w := w.drewN nq) ⟨c, HC.out⟩ _, ⟨rfl, rfl, rfl, by simp [World.setCell], fun i _ hi => (Below.heap_setCell _ _ _ _ hi)⟩⟩
  · have hl' : ltInt y x = false := by simpa using hl
    clear hl
    go_enter Tryz.func141, Tryz.ntmps141
    go_wp2
    go_quiet (first | (go_at_call 130; exact quietOf (less_any _ _ _)))
    rw [hl']
    go_wp2
    go_ret2
    exact ⟨a, b, rfl, ha, hb, ⟨c, HC.out⟩, ⟨rfl, rfl, rfl, Nat.le_refl _, fun i _ _ => rfl⟩⟩

theorem turn_turn {s : Nat} {w w1 w2 : World} (h : Turn (fun i => i = s) w w1) (k : Turn (fun i => i = s) w1 w2) : Turn (fun i => i = s) w w2 := h.trans (k.mono fun i _ hi => Or.inl hi)

theorem median_any (w : World) (g N cap : Nat) (d : Array Int) (a b c s l h : Nat) (hS : Row w g N d) (hs : Cnt w s) (ha : l ≤ a ∧ a < h) (hb : l ≤ b ∧ b < h) (hc : l ≤ c ∧ c < h) (hh : h ≤ d.size) (hn : d.size < 50) :
    Calls Tryz.prog 139 #[.slice (some ⟨g, 0, none⟩) d.size cap, .int .i64 a, .int .i64 b, .int .i64 c, .pointer (some ⟨s, 0, none⟩)] w fun e w' => ∃ x : Nat, e = .returned (.int .i64 x) ∧ (l ≤ x ∧ x < h) ∧ Cnt w' s ∧ Turn (fun i => i = s) w w' := by
  have hne := Lib.hid (hs.ne hS)
  have H := Lib.hid (fun cap w' a b hs' hS' ha hb => order2_any w' g N cap d a b s l h hS' hs' ha hb hh hn)
  obtain ⟨n, hnd⟩ : ∃ n, d.size = n := ⟨_, rfl⟩
  rw [hnd] at H ⊢
  go_enter Tryz.func139, Tryz.ntmps139
  go_wp2_with fail
  refine (H.out _ _ _ _ hs hS ha hb).mono ?_
  rintro e w1 ⟨x1, y1, rfl, hx1, hy1, hs1, ht1⟩
  go_wp2_with fail
  refine (H.out _ _ _ _ hs1 (hS.turn ht1 hne.out) hy1 hc).mono ?_
  rintro e w2 ⟨x2, y2, rfl, hx2, hy2, hs2, ht2⟩
  go_wp2_with fail
  refine (H.out _ _ _ _ hs2 (hS.turn (turn_turn ht1 ht2) hne.out) hx1 hx2).mono ?_
  rintro e w3 ⟨x3, y3, rfl, hx3, hy3, hs3, ht3⟩
  go_wp2
  go_ret
  exact ⟨y3, rfl, hy3, hs3, turn_turn (turn_turn ht1 ht2) ht3⟩

set_option maxRecDepth 100000 in
theorem pivot_any (w : World) (g N cap : Nat) (d : Array Int) (a b : Nat) (hS : Row w g N d) (hab : a + 12 < b) (hb : b ≤ d.size) (hn : d.size < 50) :
    Calls Tryz.prog 127 #[.slice (some ⟨g, 0, none⟩) d.size cap, .int .i64 a, .int .i64 b] w fun e w' => ∃ (p : Nat) (h : Int), e = .returned (.tuple #[.int .i64 p, .int .i64 h]) ∧ (a ≤ p ∧ p < b) ∧ (h = 0 ∨ h = 1 ∨ h = 2) ∧ Srt w w' g N d := by
  obtain ⟨l, hl⟩ : ∃ l : Nat, b - a = l := ⟨_, rfl⟩
  obtain ⟨q, hq⟩ : ∃ q : Nat, l / 4 = q := ⟨_, rfl⟩
  have e1 : (b : Int) - (a : Int) = (l : Int) := by omega
  have e2 : (l : Int).tdiv 4 = (q : Int) := by rw [Int.tdiv_eq_ediv_of_nonneg (by omega)]; omega
  obtain ⟨i, hi⟩ : ∃ i : Nat, a + q = i := ⟨_, rfl⟩
  obtain ⟨j, hj⟩ : ∃ j : Nat, a + q * 2 = j := ⟨_, rfl⟩
  obtain ⟨k, hk⟩ : ∃ k : Nat, a + q * 3 = k := ⟨_, rfl⟩
  have e3 : (a : Int) + (q : Int) = (i : Int) := by omega
  have e4 : (a : Int) + (q : Int) * 2 = (j : Int) := by omega
  have e5 : (a : Int) + (q : Int) * 3 = (k : Int) := by omega
  have l1 : (8 : Int) ≤ (l : Int) := by omega
  have l2 : (l : Int) < 50 := by omega
  have q12 : (q : Int) ≤ 12 := by omega
  have a50 : (a : Int) ≤ 50 := by omega
  have HC := Lib.hid (show Cnt (w.alloc (.cells #[.int .i64 0] 3)) w.heap.size from ⟨0, Deep.blk_alloc_new _ _⟩)
  have HS := Lib.hid ((Srt.start hS).alloc (.cells #[.int .i64 0] 3))
  have H := Lib.hid (fun cap => median_any (w.alloc (.cells #[.int .i64 0] 3)) g N cap d i j k w.heap.size a b HS.out.row HC.out (by omega) (by omega) (by omega) hb hn)
  have hne := Lib.hid (HC.out.ne HS.out.row)
  obtain ⟨n, hnd⟩ : ∃ n, d.size = n := ⟨_, rfl⟩
  rw [hnd] at H ⊢
  clear hi hj hk hq hl
  go_enter Tryz.func127, Tryz.ntmps127
  go_wp2_with fail
  refine (H.out _).mono ?_
  rintro e w1 ⟨x, rfl, hx, ⟨c, hc⟩, ht⟩
  have hR : Srt w w1 g N d := ⟨HS.out.turn.trans (Turn.mono ht (fun i _ hi => Or.inr (by rw [hi]; exact Nat.le_refl _))), HS.out.row.turn ht hne.out⟩
  have c0 := cell_of_one hc
  by_cases h0 : c = 0
  · subst h0
    go_wp2
    go_ret2
    exact ⟨x, 1, rfl, hx, by omega, hR⟩
  · have b0 : (c == 0) = false := by simpa using h0
    by_cases h12 : c = 12
    · subst h12
      go_wp2
      go_ret2
      exact ⟨x, 2, rfl, hx, by omega, hR⟩
    · have b12 : (c == 12) = false := by simpa using h12
      clear h0 h12
      go_wp2
      go_ret2
      exact ⟨x, 0, rfl, hx, by omega, hR⟩

theorem sorted_one (d : Array Int) (a : Nat) : SortedIn ltInt a (a + 1) d := fun i j h1 h2 h3 => by omega

set_option maxRecDepth 100000 in
set_option maxHeartbeats 4000000 in
theorem sPart_any (w : World) (g N cap : Nat) (d : Array Int) (a b : Nat) (hS : Row w g N d) (hab : a < b) (hb : b ≤ d.size) (hn : d.size < 50) :
    Calls Tryz.prog 129 #[.slice (some ⟨g, 0, none⟩) d.size cap, .int .i64 a, .int .i64 b] w fun e w' => ∃ r : Bool, e = .returned (.bool r) ∧ (r = true → SortedIn ltInt a b d) ∧ Srt w w' g N d := by
  obtain ⟨n, hnd⟩ : ∃ n, d.size = n := ⟨_, rfl⟩
  rw [hnd] at hb hn ⊢
  have hba : (b : Int) - (a : Int) < 50 := by omega
  have hba0 : (0 : Int) ≤ (b : Int) - (a : Int) := by omega
  go_enter Tryz.func129, Tryz.ntmps129
  go_wp2
  refine wp_loop_rounds 1 ?_
  rw [rounds_succ]
  go_wp2
  go_loopw [7] (fun v wr => ∃ (i m : Nat), a + 1 ≤ i ∧ i ≤ b ∧ v = .int .i64 i ∧ SortedIn ltInt a i d ∧ wr = w.drewN m) (fun v _ => (b - intOf v).toNat)
  case atStart => exact ⟨a + 1, 0, by omega, by omega, by go_num, sorted_one d a, rfl⟩
  case round =>
    obtain ⟨i, m, hi1, hi2, rfl, hs, rfl⟩ := hrel
    have HS := Lib.hid hs
    clear hs
    by_cases hlt : i < b
    · obtain ⟨q, rfl⟩ : ∃ q, i = q + 1 := ⟨i - 1, by omega⟩
      have c1 := hS.cell (i := q + 1) (by omega)
      have c2 := hS.cell (i := q) (by omega)
      obtain ⟨x, hx⟩ : ∃ x, d[q + 1]! = x := ⟨_, rfl⟩
      obtain ⟨y, hy⟩ : ∃ y, d[q]! = y := ⟨_, rfl⟩
      rw [hx] at c1
      rw [hy] at c2
      have e1 : ((q : Int) + 1 - 1) = q := by omega
      have hq1 : (q : Int) + 1 < (b : Int) := by omega
      have hq2 : (q : Int) + 1 < n := by omega
      have HXY := Lib.hid (And.intro hx hy)
      clear hx hy
      by_cases hl : ltInt x y = true
      · have hne : (((q + 1 : Nat) : Int) == (b : Int)) = false := by simp; omega
        go_wp2
        go_quiet (first | (go_at_call 130; exact quietOf2 (less_any _ _ _)))
        (try rw [hl])
        go_wp2
        go_ret
        exact ⟨false, rfl, (fun h => by cases h), (Srt.start hS).drewN _⟩
      · have hl' : ltInt x y = false := by simpa using hl
        have HN := Lib.hid (SortedIn.snoc Sort.swo_ltInt HS.out (by rw [HXY.out.1, show q + 1 - 1 = q by omega, HXY.out.2]; exact hl'))
        clear hl
        go_wp2
        go_quiet (first | (go_at_call 130; exact quietOf2 (less_any _ _ _)))
        (try rw [hl'])
        go_wp2
        go_roundw
        case rel => exact ⟨q + 1 + 1, _, by omega, by omega, by go_num, HN.out, rfl⟩
        case measure => simp [intOf]; omega
    · have e : i = b := by omega
      subst e
      have hg : decide ((i : Int) < (i : Int)) = false := by simp
      go_wp2
      go_quiet (fail)
      go_wp2
      go_ret
      exact ⟨true, rfl, fun _ => HS.out, (Srt.start hS).drewN _⟩

end Go.Proofs.YtopmmlcjlopmaaaGreatDoor
/- slices.Sort at uint64, at fewer than fifty: partitionEqualOrdered. -/
namespace Go.Proofs.YtopmmlcjlopmaaaGreatDoor
set_option linter.unusedVariables false
set_option linter.unusedSimpArgs false
open Go.ChangeShapes Go.WideShapes Go.ChangeAt Go.RowKit
open Go.Sort (swp ltInt SortedIn scanUp scanDown)

theorem up_go {p : Int → Bool} {d : Array Int} {j i : Nat} (h : i ≤ j) (hp : p d[i]! = true) : scanUp p d j i = scanUp p d j (i + 1) := by
  rw [scanUp, if_pos (by rw [hp]; simp [h])]
theorem up_stop {p : Int → Bool} {d : Array Int} {j i : Nat} (h : ¬ (i ≤ j ∧ p d[i]! = true)) : scanUp p d j i = i := by
  rw [scanUp, if_neg (by simpa using h)]
theorem down_go {p : Int → Bool} {d : Array Int} {i j : Nat} (h : i ≤ j + 1) (hp : p d[j + 1]! = true) : scanDown p d i (j + 1) = scanDown p d i j := by
  simp only [scanDown]; rw [if_pos (by rw [hp]; simp [h])]
theorem down_stop {p : Int → Bool} {d : Array Int} {i j : Nat} (h : ¬ (i ≤ j ∧ p d[j]! = true)) : scanDown p d i j = j := by
  rcases j with _ | j
  · rfl
  · simp only [scanDown]; rw [if_neg (by simpa using h)]

set_option maxRecDepth 100000 in
set_option maxHeartbeats 8000000 in
theorem partEq_any (w : World) (g N cap : Nat) (d : Array Int) (a b pivot : Nat) (hS : Row w g N d) (hp1 : a ≤ pivot) (hp2 : pivot < b) (hb : b ≤ d.size) (hn : d.size < 50) :
    Calls Tryz.prog 131 #[.slice (some ⟨g, 0, none⟩) d.size cap, .int .i64 a, .int .i64 b, .int .i64 pivot] w fun e w' => e = .returned (.int .i64 (Sort.partitionEqual ltInt d a b pivot).1) ∧ Srt w w' g N (Sort.partitionEqual ltInt d a b pivot).2 ∧ (Sort.partitionEqual ltInt d a b pivot).2.size = d.size := by
  obtain ⟨n, hnd⟩ : ∃ n, d.size = n := ⟨_, rfl⟩
  rw [hnd] at hb hn ⊢
  obtain ⟨R, hR0⟩ : ∃ R, Sort.partitionEqual ltInt d a b pivot = R := ⟨_, rfl⟩
  have HR0 := Lib.hid hR0
  rw [hR0]
  clear hR0
  have v1 := hS.cell (i := a) (by omega)
  have v2 := hS.cell (i := pivot) (by omega)
  have f1 := hS.free a
  have f2 := hS.free pivot
  obtain ⟨x, hx⟩ : ∃ x, d[a]! = x := ⟨_, rfl⟩
  obtain ⟨y, hy⟩ : ∃ y, d[pivot]! = y := ⟨_, rfl⟩
  rw [hx] at v1
  rw [hy] at v2
  obtain ⟨v3, hv3⟩ : ∃ v3, (w.setCell ⟨g, a, none⟩ (.int .u64 y)).cell? ⟨g, pivot, none⟩ = some v3 := ⟨_, (hS.set (i := a) (by omega) y).cell (i := pivot) (by simp; omega)⟩
  have hR1 := (Srt.start hS).swap' (i := a) (j := pivot) (by omega) (by omega) hx hy
  have hsz : (swp d a pivot).size = n := by rw [Sort.size_swp]; exact hnd
  have l1 : (a : Int) < (n : Int) := by omega
  have l2 : (pivot : Int) < (n : Int) := by omega
  clear hx hy
  go_enter Tryz.func131, Tryz.ntmps131
  go_wp2
  go_region
  go_wp2
  go_loopg [9, 10] n (fun k u v wr => ∃ (i j : Nat) (d2 : Array Int), j ≤ k ∧ d2.size = n ∧ a + 1 ≤ i ∧ i ≤ n ∧ j < n ∧ u = .int .i64 i ∧ v = .int .i64 j ∧ Sort.partEqLoop ltInt a i j d2 = R ∧ Srt w wr g N d2)
  case atStart => exact ⟨a + 1, b - 1, swp d a pivot, by omega, hsz, by omega, by omega, by omega, by go_num, by go_num, HR0.out, hR1.drew⟩
  case round =>
    obtain ⟨i, j, d2, hjk, hd2, hi1, hi2, hj, rfl, rfl, hE, hR⟩ := hrel
    have HE := Lib.hid ((Sort.partEqLoop_eq ltInt a i j d2).symm.trans hE)
    clear hE
    have c0 := hR.row.cell (i := a) (by omega)
    obtain ⟨p, hp⟩ : ∃ p, d2[a]! = p := ⟨_, rfl⟩
    rw [hp] at c0 HE
    have HP := Lib.hid hp
    clear hp
    obtain ⟨P, hP⟩ : ∃ P : Int → Bool, P = fun x => !ltInt p x := ⟨_, rfl⟩
    obtain ⟨Q, hQ⟩ : ∃ Q : Int → Bool, Q = fun x => ltInt p x := ⟨_, rfl⟩
    rw [← hP, ← hQ] at HE
    have HPQ := Lib.hid (And.intro hP hQ)
    clear hP hQ
    go_upto_block 2 with fail
    go_cut [9] from 29 to 82 (fun v wc => ∃ i1 : Nat, v = .int .i64 i1 ∧ Hid (scanUp P d2 j i = i1) ∧ a + 1 ≤ i1 ∧ i1 ≤ n ∧ Srt w wc g N d2)
    case first =>
      go_wp2
      go_loopw [9] (fun v w1 => ∃ i1 m : Nat, v = .int .i64 i1 ∧ scanUp P d2 j i1 = scanUp P d2 j i ∧ a + 1 ≤ i1 ∧ i1 ≤ n ∧ w1 = wr.drewN m) (fun v _ => (n - intOf v).toNat)
      case atStart => exact ⟨i, 0, rfl, rfl, hi1, hi2, rfl⟩
      case round =>
        obtain ⟨i1, m, rfl, hs1, h1, h2, rfl⟩ := hrel
        have HS1 := Lib.hid hs1
        clear hs1
        by_cases hle : i1 ≤ j
        · have c1 := hR.row.cell (i := i1) (by omega)
          obtain ⟨z, hz⟩ : ∃ z, d2[i1]! = z := ⟨_, rfl⟩
          rw [hz] at c1
          have HZ := Lib.hid hz
          clear hz
          have k1 : (i1 : Int) ≤ (j : Int) := by omega
          have k2 : (i1 : Int) < (n : Int) := by omega
          by_cases hl : ltInt p z = true
          · have E := Lib.hid (HS1.out.symm.trans (up_stop (fun h => by have := h.2; rw [HPQ.out.1, HZ.out] at this; simp [hl] at this)))
            go_wp2
            go_quiet (first | (go_at_call 130; exact quietOf2 (less_any _ _ _)))
            (try rw [hl])
            go_wp2
            go_meet
            case rel => exact ⟨i1, rfl, E.out, h1, h2, (hR.drewN _).drewN _⟩
          · have hl' : ltInt p z = false := by simpa using hl
            have E := Lib.hid ((up_go (p := P) (d := d2) hle (by rw [HPQ.out.1, HZ.out]; simp [hl'])).symm.trans HS1.out)
            clear hl
            go_wp2
            go_quiet (first | (go_at_call 130; exact quietOf2 (less_any _ _ _)))
            (try rw [hl'])
            go_wp2
            go_roundw
            case rel => exact ⟨i1 + 1, _, by go_num, E.out, by omega, by omega, rfl⟩
            case measure => simp [intOf]; omega
        · have E := Lib.hid (HS1.out.symm.trans (up_stop (fun h => hle h.1)))
          have hg : decide ((i1 : Int) ≤ (j : Int)) = false := by simp; omega
          go_wp2
          go_quiet (fail)
          go_wp2
          go_meet
          case rel => exact ⟨i1, rfl, E.out, h1, h2, (hR.drewN _).drewN _⟩
    case rest =>
      obtain ⟨i1, rfl, HS1, h1, h2, hR2⟩ := hcut
      clear hR c0
      have c0 := hR2.row.cell (i := a) (by omega)
      rw [HP.out] at c0
      go_upto_block 4 with fail
      go_cut [10] from 29 to 82 (fun v wc2 => ∃ j1 : Nat, v = .int .i64 j1 ∧ Hid (scanDown Q d2 i1 j = j1) ∧ j1 < n ∧ Srt w wc2 g N d2)
      case first =>
        go_wp2
        go_loopw [10] (fun v w1 => ∃ j1 m : Nat, v = .int .i64 j1 ∧ scanDown Q d2 i1 j1 = scanDown Q d2 i1 j ∧ j1 < n ∧ w1 = wc.drewN m) (fun v _ => (intOf v).toNat)
        case atStart => exact ⟨j, 0, rfl, rfl, hj, rfl⟩
        case round =>
          obtain ⟨j1, m, rfl, hs1, hj1, rfl⟩ := hrel
          have HS2 := Lib.hid hs1
          clear hs1
          by_cases hle : i1 ≤ j1
          · obtain ⟨q, rfl⟩ : ∃ q, j1 = q + 1 := ⟨j1 - 1, by omega⟩
            have c1 := hR2.row.cell (i := q + 1) (by omega)
            obtain ⟨z, hz⟩ : ∃ z, d2[q + 1]! = z := ⟨_, rfl⟩
            rw [hz] at c1
            have HZ := Lib.hid hz
            clear hz
            have k1 : (i1 : Int) ≤ (q : Int) + 1 := by omega
            have k2 : (q : Int) + 1 < (n : Int) := by omega
            have k3 : (q : Int) + 1 - 1 = q := by omega
            by_cases hl : ltInt p z = true
            · have E := Lib.hid ((down_go (p := Q) (d := d2) hle (by rw [HPQ.out.2, HZ.out]; exact hl)).symm.trans HS2.out)
              go_wp2
              go_quiet (first | (go_at_call 130; exact quietOf2 (less_any _ _ _)))
              (try rw [hl])
              go_wp2
              go_roundw
              case rel => exact ⟨q, _, by go_num, E.out, by omega, rfl⟩
              case measure => simp [intOf]
            · have hl' : ltInt p z = false := by simpa using hl
              have E := Lib.hid (HS2.out.symm.trans (down_stop (fun h => by have := h.2; rw [HPQ.out.2, HZ.out] at this; simp [hl'] at this)))
              clear hl
              go_wp2
              go_quiet (first | (go_at_call 130; exact quietOf2 (less_any _ _ _)))
              (try rw [hl'])
              go_wp2
              go_meet
              case rel => exact ⟨q + 1, rfl, E.out, by omega, (hR2.drewN _).drewN _⟩
          · have E := Lib.hid (HS2.out.symm.trans (down_stop (fun h => hle h.1)))
            have hg : decide ((i1 : Int) ≤ (j1 : Int)) = false := by simp; omega
            go_wp2
            go_quiet (fail)
            go_wp2
            go_meet
            case rel => exact ⟨j1, rfl, E.out, by omega, (hR2.drewN _).drewN _⟩
      case rest =>
        obtain ⟨j1, rfl, HS2, hj1, hR3⟩ := hcut
        clear hR2 c0
        rw [HS1.out, HS2.out] at HE
        by_cases hgt : j1 < i1
        · have E := Lib.hid (show ((i1, d2) : Nat × Array Int) = R by rw [← HE.out, if_pos hgt])
          have hgt' : (j1 : Int) < (i1 : Int) := by omega
          go_wp2
          go_ret
          exact ⟨by rw [← E.out]; rfl, by rw [← E.out]; exact hR3, by rw [← E.out]; exact hd2⟩
        · have E := Lib.hid (show Sort.partEqLoop ltInt a (i1 + 1) (j1 - 1) (swp d2 i1 j1) = R by rw [← HE.out, if_neg (by omega)])
          have hle' : (i1 : Int) ≤ (j1 : Int) := by omega
          have v1 := hR3.row.cell (i := i1) (by omega)
          have v2 := hR3.row.cell (i := j1) (by omega)
          have f1 := hR3.row.free i1
          have f2 := hR3.row.free j1
          obtain ⟨x, hx⟩ : ∃ x, d2[i1]! = x := ⟨_, rfl⟩
          obtain ⟨y, hy⟩ : ∃ y, d2[j1]! = y := ⟨_, rfl⟩
          rw [hx] at v1
          rw [hy] at v2
          obtain ⟨v3, hv3⟩ : ∃ v3, (wc.setCell ⟨g, i1, none⟩ (.int .u64 y)).cell? ⟨g, j1, none⟩ = some v3 := ⟨_, (hR3.row.set (i := i1) (by omega) y).cell (i := j1) (by simp; omega)⟩
          have hR4 := hR3.swap' (i := i1) (j := j1) (by omega) (by omega) hx hy
          have k1 : (i1 : Int) < (n : Int) := by omega
          clear hx hy
          go_wp2
          go_region
          go_wp2
          have hjj := Sort.scanDown_le Q d2 i1 j
          rw [HS2.out] at hjj
          go_roundg (j1 - 1)
          case measure => omega
          case rel => exact ⟨i1 + 1, j1 - 1, swp d2 i1 j1, Nat.le_refl _, by rw [Sort.size_swp]; exact hd2, by omega, by omega, by omega, by go_num, by go_num, E.out, hR4.drew⟩

end Go.Proofs.YtopmmlcjlopmaaaGreatDoor
