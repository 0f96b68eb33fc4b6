/- slices.Sort at uint64: siftDownOrdered, heapSortOrdered. -/
import Derived.Test.YtfakfmefjfemhaaSo
namespace Go.Proofs.Ytfakfmefjfemhaa
set_option linter.unusedVariables false
set_option linter.unusedSimpArgs false
open Go.ChangeShapes Go.WideShapes Go.ChangeAt Go.RowKit
open Go.Sort (swp ltInt)

/-- the greater child -/
def pick (hi F root : Nat) (d : Array Int) : Nat := if 2 * root + 2 < hi ∧ ltInt d[F + (2 * root + 1)]! d[F + (2 * root + 1) + 1]! = true then 2 * root + 2 else 2 * root + 1

theorem sift_step {hi F root : Nat} {d : Array Int} (h : 2 * root + 1 < hi) : Sort.siftDown ltInt hi F root d = if ltInt d[F + root]! d[F + pick hi F root d]! = true then Sort.siftDown ltInt hi F (pick hi F root d) (swp d (F + root) (F + pick hi F root d)) else d := by
  rw [Sort.siftDown, dif_neg (by omega)]
  unfold pick
  by_cases h1 : 2 * root + 2 < hi ∧ ltInt d[F + (2 * root + 1)]! d[F + (2 * root + 1) + 1]! = true
  · have hb : (decide (2 * root + 1 + 1 < hi) && ltInt d[F + (2 * root + 1)]! d[F + (2 * root + 1) + 1]!) = true := by rw [h1.2]; simp; omega
    rw [if_pos hb, if_pos h1]
    by_cases h2 : ltInt d[F + root]! d[F + (2 * root + 2)]! = true
    · rw [h2]; simp [h1.1]
    · rw [if_neg h2]; simp [h2]
  · have hb : (decide (2 * root + 1 + 1 < hi) && ltInt d[F + (2 * root + 1)]! d[F + (2 * root + 1) + 1]!) = false := by
      by_cases h3 : 2 * root + 2 < hi
      · have : ltInt d[F + (2 * root + 1)]! d[F + (2 * root + 1) + 1]! = false := by
          cases hc : ltInt d[F + (2 * root + 1)]! d[F + (2 * root + 1) + 1]! with
          | false => rfl
          | true => exact absurd ⟨h3, hc⟩ h1
        rw [this]; simp
      · simp; intro h4; omega
    rw [hb, if_neg h1]
    by_cases h2 : ltInt d[F + root]! d[F + (2 * root + 1)]! = true
    · simp [h2]
    · simp [h2]
theorem sift_end {hi F root : Nat} {d : Array Int} (h : hi ≤ 2 * root + 1) : Sort.siftDown ltInt hi F root d = d := by
  rw [Sort.siftDown, dif_pos h]

set_option maxRecDepth 100000 in
set_option maxHeartbeats 8000000 in
theorem sift_any (w : World) (g N cap : Nat) (d : Array Int) (lo hi F : Nat) (hS : Row w g N d) (hF : F + hi ≤ d.size) (hn : d.size < 50) (hlo : lo ≤ 50) :
    Calls Try.prog 74 #[.slice (some ⟨g, 0, none⟩) d.size cap, .int .i64 lo, .int .i64 hi, .int .i64 F] w fun e w' => e = .returned (.tuple #[]) ∧ Srt w w' g N (Sort.siftDown ltInt hi F lo d) ∧ (Sort.siftDown ltInt hi F lo d).size = d.size := by
  obtain ⟨n, hnd⟩ : ∃ n, d.size = n := ⟨_, rfl⟩
  rw [hnd] at hF hn ⊢
  go_enter Try.func74, Try.ntmps74
  go_wp2
  go_loopw [8] (fun v wr => ∃ (root : Nat) (d1 : Array Int), d1.size = n ∧ root ≤ 50 ∧ v = .int .i64 root ∧ Sort.siftDown ltInt hi F root d1 = Sort.siftDown ltInt hi F lo d ∧ Srt w wr g N d1) (fun v _ => (50 - intOf v).toNat)
  case atStart => exact ⟨lo, d, hnd, hlo, rfl, rfl, Srt.start hS⟩
  case round =>
    obtain ⟨root, d1, hd1, hr50, rfl, hE, hR⟩ := hrel
    have HE := Lib.hid hE
    clear hE
    by_cases hch : 2 * root + 1 < hi
    · have i0 : 2 * (root : Int) + 1 < (hi : Int) := by omega
      by_cases h2 : 2 * root + 2 < hi
      · have j2 : 2 * (root : Int) + 1 + 1 < (hi : Int) := by omega
        have u1 := hR.row.cell (i := F + (2 * root + 1)) (by omega)
        have u2 := hR.row.cell (i := F + (2 * root + 1) + 1) (by omega)
        obtain ⟨C, hC0⟩ : ∃ C : Nat, F + (2 * root + 1) = C := ⟨_, rfl⟩
        rw [hC0] at u1 u2
        obtain ⟨p, hp⟩ : ∃ p, d1[C]! = p := ⟨_, rfl⟩
        obtain ⟨q, hq⟩ : ∃ q, d1[C + 1]! = q := ⟨_, rfl⟩
        rw [hp] at u1
        rw [hq] at u2
        have k1 : (F : Int) + (2 * (root : Int) + 1) = (C : Int) := by omega
        have m1 : (C : Int) < (n : Int) := by omega
        have m2 : (C : Int) + 1 < (n : Int) := by omega
        by_cases hl0 : ltInt p q = true
        · have HPK := Lib.hid (show pick hi F root d1 = 2 * root + 2 by unfold pick; rw [hC0, hp, hq, if_pos ⟨h2, hl0⟩])
          have HJ := Lib.hid (And.intro hC0 (And.intro hp hq))
          clear hC0 hp hq
          go_wp2
          go_quiet (first | (go_at_call 69; exact quietOf (less_any _ _ _)))
          go_wp2
          clear u1 u2 k1 m1 m2
          have v1 := hR.row.cell (i := F + root) (by omega)
          have v2 := hR.row.cell (i := F + (2 * root + 2)) (by omega)
          have f1 := hR.row.free (F + root)
          have f2 := hR.row.free (F + (2 * root + 2))
          obtain ⟨R, hR0⟩ : ∃ R : Nat, F + root = R := ⟨_, rfl⟩
          obtain ⟨P, hP0⟩ : ∃ P : Nat, F + (2 * root + 2) = P := ⟨_, rfl⟩
          rw [hR0] at v1 f1
          rw [hP0] at v2 f2
          obtain ⟨x, hx⟩ : ∃ x, d1[R]! = x := ⟨_, rfl⟩
          obtain ⟨y, hy⟩ : ∃ y, d1[P]! = y := ⟨_, rfl⟩
          rw [hx] at v1
          rw [hy] at v2
          have i1 : (F : Int) + (root : Int) = (R : Int) := by omega
          have i2 : (F : Int) + (2 * (root : Int) + 1 + 1) = (P : Int) := by omega
          have l1 : (R : Int) < (n : Int) := by omega
          have l2 : (P : Int) < (n : Int) := by omega
          have HXY := Lib.hid (And.intro hx hy)
          have HI := Lib.hid (And.intro hR0 hP0)
          have HB := Lib.hid (show R < n ∧ P < n by omega)
          clear hx hy hR0 hP0
          by_cases hl : ltInt x y = true
          · have E := Lib.hid (show Sort.siftDown ltInt hi F ((2 * root + 2)) (swp d1 R P) = Sort.siftDown ltInt hi F lo d by
              rw [← HE.out, sift_step hch, HPK.out, HI.out.1, HI.out.2, HXY.out.1, HXY.out.2, if_pos hl])
            go_quiet (first | (go_at_call 69; exact quietOf2 (less_any _ _ _)))
            go_wp2
            go_region
            go_wp2
            go_roundw
            case rel => exact ⟨(2 * root + 2), swp d1 R P, by rw [Sort.size_swp]; exact hd1, by omega, by go_num, E.out, (hR.drewN _).swap' (by omega) (by omega) HXY.out.1 HXY.out.2⟩
            case measure => simp [intOf]; omega
          · have hl' : ltInt x y = false := by simpa using hl
            have E := Lib.hid (show d1 = Sort.siftDown ltInt hi F lo d by
              rw [← HE.out, sift_step hch, HPK.out, HI.out.1, HI.out.2, HXY.out.1, HXY.out.2, if_neg hl])
            clear hl
            go_quiet (first | (go_at_call 69; exact quietOf2 (less_any _ _ _)))
            go_wp2
            first | go_end0 | ((try simp only [Exit.inBlock, Exit.then]); refine bodyPost_ret (results_none rfl _ _ _) rfl ?_)
            exact ⟨rfl, by rw [← E.out]; exact (hR.drewN _).drewN _, by rw [← E.out]; exact hd1⟩
        · have hl0' : ltInt p q = false := by simpa using hl0
          have HPK := Lib.hid (show pick hi F root d1 = 2 * root + 1 by unfold pick; rw [hC0, hp, hq, if_neg (fun h => hl0 h.2)])
          have HJ := Lib.hid (And.intro hC0 (And.intro hp hq))
          clear hC0 hp hq hl0
          go_wp2
          go_quiet (first | (go_at_call 69; exact quietOf (less_any _ _ _)))
          go_wp2
          clear u1 u2 k1 m1 m2
          have v1 := hR.row.cell (i := F + root) (by omega)
          have v2 := hR.row.cell (i := F + (2 * root + 1)) (by omega)
          have f1 := hR.row.free (F + root)
          have f2 := hR.row.free (F + (2 * root + 1))
          obtain ⟨R, hR0⟩ : ∃ R : Nat, F + root = R := ⟨_, rfl⟩
          obtain ⟨P, hP0⟩ : ∃ P : Nat, F + (2 * root + 1) = P := ⟨_, rfl⟩
          rw [hR0] at v1 f1
          rw [hP0] at v2 f2
          obtain ⟨x, hx⟩ : ∃ x, d1[R]! = x := ⟨_, rfl⟩
          obtain ⟨y, hy⟩ : ∃ y, d1[P]! = y := ⟨_, rfl⟩
          rw [hx] at v1
          rw [hy] at v2
          have i1 : (F : Int) + (root : Int) = (R : Int) := by omega
          have i2 : (F : Int) + (2 * (root : Int) + 1) = (P : Int) := by omega
          have l1 : (R : Int) < (n : Int) := by omega
          have l2 : (P : Int) < (n : Int) := by omega
          have HXY := Lib.hid (And.intro hx hy)
          have HI := Lib.hid (And.intro hR0 hP0)
          have HB := Lib.hid (show R < n ∧ P < n by omega)
          clear hx hy hR0 hP0
          by_cases hl : ltInt x y = true
          · have E := Lib.hid (show Sort.siftDown ltInt hi F ((2 * root + 1)) (swp d1 R P) = Sort.siftDown ltInt hi F lo d by
              rw [← HE.out, sift_step hch, HPK.out, HI.out.1, HI.out.2, HXY.out.1, HXY.out.2, if_pos hl])
            go_quiet (first | (go_at_call 69; exact quietOf2 (less_any _ _ _)))
            go_wp2
            go_region
            go_wp2
            go_roundw
            case rel => exact ⟨(2 * root + 1), swp d1 R P, by rw [Sort.size_swp]; exact hd1, by omega, by go_num, E.out, (hR.drewN _).swap' (by omega) (by omega) HXY.out.1 HXY.out.2⟩
            case measure => simp [intOf]; omega
          · have hl' : ltInt x y = false := by simpa using hl
            have E := Lib.hid (show d1 = Sort.siftDown ltInt hi F lo d by
              rw [← HE.out, sift_step hch, HPK.out, HI.out.1, HI.out.2, HXY.out.1, HXY.out.2, if_neg hl])
            clear hl
            go_quiet (first | (go_at_call 69; exact quietOf2 (less_any _ _ _)))
            go_wp2
            first | go_end0 | ((try simp only [Exit.inBlock, Exit.then]); refine bodyPost_ret (results_none rfl _ _ _) rfl ?_)
            exact ⟨rfl, by rw [← E.out]; exact (hR.drewN _).drewN _, by rw [← E.out]; exact hd1⟩
      · have j2 : decide (2 * (root : Int) + 1 + 1 < (hi : Int)) = false := by simp; omega
        have HPK := Lib.hid (show pick hi F root d1 = 2 * root + 1 by unfold pick; rw [if_neg (fun h => h2 h.1)])
        · have htrue : True := trivial
          go_wp2
          go_quiet (fail)
          go_wp2
          have v1 := hR.row.cell (i := F + root) (by omega)
          have v2 := hR.row.cell (i := F + (2 * root + 1)) (by omega)
          have f1 := hR.row.free (F + root)
          have f2 := hR.row.free (F + (2 * root + 1))
          obtain ⟨R, hR0⟩ : ∃ R : Nat, F + root = R := ⟨_, rfl⟩
          obtain ⟨P, hP0⟩ : ∃ P : Nat, F + (2 * root + 1) = P := ⟨_, rfl⟩
          rw [hR0] at v1 f1
          rw [hP0] at v2 f2
          obtain ⟨x, hx⟩ : ∃ x, d1[R]! = x := ⟨_, rfl⟩
          obtain ⟨y, hy⟩ : ∃ y, d1[P]! = y := ⟨_, rfl⟩
          rw [hx] at v1
          rw [hy] at v2
          have i1 : (F : Int) + (root : Int) = (R : Int) := by omega
          have i2 : (F : Int) + (2 * (root : Int) + 1) = (P : Int) := by omega
          have l1 : (R : Int) < (n : Int) := by omega
          have l2 : (P : Int) < (n : Int) := by omega
          have HXY := Lib.hid (And.intro hx hy)
          have HI := Lib.hid (And.intro hR0 hP0)
          have HB := Lib.hid (show R < n ∧ P < n by omega)
          clear hx hy hR0 hP0
          by_cases hl : ltInt x y = true
          · have E := Lib.hid (show Sort.siftDown ltInt hi F ((2 * root + 1)) (swp d1 R P) = Sort.siftDown ltInt hi F lo d by
              rw [← HE.out, sift_step hch, HPK.out, HI.out.1, HI.out.2, HXY.out.1, HXY.out.2, if_pos hl])
            go_quiet (first | (go_at_call 69; exact quietOf2 (less_any _ _ _)))
            go_wp2
            go_region
            go_wp2
            go_roundw
            case rel => exact ⟨(2 * root + 1), swp d1 R P, by rw [Sort.size_swp]; exact hd1, by omega, by go_num, E.out, (hR.drewN _).swap' (by omega) (by omega) HXY.out.1 HXY.out.2⟩
            case measure => simp [intOf]; omega
          · have hl' : ltInt x y = false := by simpa using hl
            have E := Lib.hid (show d1 = Sort.siftDown ltInt hi F lo d by
              rw [← HE.out, sift_step hch, HPK.out, HI.out.1, HI.out.2, HXY.out.1, HXY.out.2, if_neg hl])
            clear hl
            go_quiet (first | (go_at_call 69; exact quietOf2 (less_any _ _ _)))
            go_wp2
            first | go_end0 | ((try simp only [Exit.inBlock, Exit.then]); refine bodyPost_ret (results_none rfl _ _ _) rfl ?_)
            exact ⟨rfl, by rw [← E.out]; exact (hR.drewN _).drewN _, by rw [← E.out]; exact hd1⟩
    · have hge : (hi : Int) ≤ 2 * (root : Int) + 1 := by omega
      have E := Lib.hid ((sift_end (F := F) (d := d1) (show hi ≤ 2 * root + 1 by omega)).symm.trans HE.out)
      go_wp2
      go_end0
      exact ⟨rfl, by rw [← E.out]; exact hR, by rw [← E.out]; exact hd1⟩

theorem sift0_any (w : World) (g N cap : Nat) (d : Array Int) (hi F : Nat) (hS : Row w g N d) (hF : F + hi ≤ d.size) (hn : d.size < 50) :
    Calls Try.prog 74 #[.slice (some ⟨g, 0, none⟩) d.size cap, .int .i64 0, .int .i64 hi, .int .i64 F] w fun e w' => e = .returned (.tuple #[]) ∧ Srt w w' g N (Sort.siftDown ltInt hi F 0 d) ∧ (Sort.siftDown ltInt hi F 0 d).size = d.size :=
  sift_any w g N cap d 0 hi F hS hF hn (by omega)

set_option maxRecDepth 100000 in
set_option maxHeartbeats 8000000 in
theorem heap_any (w : World) (g N cap : Nat) (d : Array Int) (a b : Nat) (hS : Row w g N d) (hab : a ≤ b) (hb : b ≤ d.size) (hn : d.size < 50) :
    Calls Try.prog 64 #[.slice (some ⟨g, 0, none⟩) d.size cap, .int .i64 a, .int .i64 b] w fun e w' => e = .returned (.tuple #[]) ∧ Srt w w' g N (Sort.heapSort ltInt d a b) ∧ (Sort.heapSort ltInt d a b).size = d.size := by
  obtain ⟨n, hnd⟩ : ∃ n, d.size = n := ⟨_, rfl⟩
  rw [hnd] at hb hn ⊢
  obtain ⟨h, hh⟩ : ∃ h : Nat, b - a = h := ⟨_, rfl⟩
  have e1 : (b : Int) - (a : Int) = (h : Int) := by omega
  have e2 : ((h : Int) - 1).tdiv 2 = (((h - 1) / 2 : Nat) : Int) := by
    rcases h with _ | h
    · rfl
    · rw [show (((h + 1 : Nat) : Int) - 1) = (h : Int) by omega, Int.tdiv_eq_ediv_of_nonneg (by omega)]; simp
  obtain ⟨r, hr⟩ : ∃ r : Nat, (h - 1) / 2 = r := ⟨_, rfl⟩
  rw [hr] at e2
  have hr2 : r ≤ 50 := by omega
  have HD := Lib.hid (show Sort.heapSort ltInt d a b = Sort.heapPop ltInt a h (Sort.heapBuild ltInt h a (r + 1) d) by unfold Sort.heapSort; rw [hh, hr])
  have hah : a + h ≤ n := by omega
  clear hr
  go_enter Try.func64, Try.ntmps64
  go_wp2
  go_loopw [9] (fun v wr => ∃ (k : Nat) (d1 : Array Int), d1.size = n ∧ k ≤ r + 1 ∧ v = .int .i64 ((k : Int) - 1) ∧ Sort.heapBuild ltInt h a k d1 = Sort.heapBuild ltInt h a (r + 1) d ∧ Srt w wr g N d1) (fun v _ => (intOf v + 1).toNat)
  case atStart => exact ⟨r + 1, d, hnd, Nat.le_refl _, by go_num, rfl, Srt.start hS⟩
  case round =>
    obtain ⟨k, d1, hd1, hk, rfl, hE, hR⟩ := hrel
    rcases k with _ | k
    · have HE := Lib.hid (show d1 = Sort.heapBuild ltInt h a (r + 1) d from hE)
      clear hE
      rw [show ((0 : Nat) : Int) - 1 = -1 from rfl]
      go_wp2
      go_loopw [10] (fun v wr => ∃ (k : Nat) (d2 : Array Int), d2.size = n ∧ k ≤ h ∧ v = .int .i64 ((k : Int) - 1) ∧ Sort.heapPop ltInt a k d2 = Sort.heapPop ltInt a h d1 ∧ Srt w wr g N d2) (fun v _ => (intOf v + 1).toNat)
      case atStart => exact ⟨h, d1, hd1, Nat.le_refl _, by go_num, rfl, hR⟩
      case round =>
        obtain ⟨k, d2, hd2, hk2, rfl, hE2, hR2⟩ := hrel
        rcases k with _ | k
        · have E2 := Lib.hid (show d2 = Sort.heapSort ltInt d a b by rw [HD.out, ← HE.out]; exact hE2)
          clear hE2
          go_wp2
          go_end0
          exact ⟨rfl, by rw [← E2.out]; exact hR2, by rw [← E2.out]; exact hd2⟩
        · rw [show (((k + 1 : Nat) : Int) - 1) = k by omega]
          have HE2 := Lib.hid (show Sort.heapPop ltInt a k (Sort.siftDown ltInt k a 0 (swp d2 a (a + k))) = Sort.heapPop ltInt a h d1 from hE2)
          have v1 := hR2.row.cell (i := a) (by omega)
          have v2 := hR2.row.cell (i := a + k) (by omega)
          have f1 := hR2.row.free a
          have f2 := hR2.row.free (a + k)
          obtain ⟨P, hP0⟩ : ∃ P : Nat, a + k = P := ⟨_, rfl⟩
          rw [hP0] at v2 f2 HE2
          obtain ⟨x, hx⟩ : ∃ x, d2[a]! = x := ⟨_, rfl⟩
          obtain ⟨y, hy⟩ : ∃ y, d2[P]! = y := ⟨_, rfl⟩
          rw [hx] at v1
          rw [hy] at v2
          have i1 : (a : Int) + (k : Int) = (P : Int) := by omega
          have l1 : (a : Int) < (n : Int) := by omega
          have l2 : (P : Int) < (n : Int) := by omega
          have HXY := Lib.hid (And.intro hx hy)
          have HB := Lib.hid (show a < n ∧ P < n ∧ a + k ≤ n by omega)
          have HSZ := Lib.hid (show (swp d2 a P).size = n by rw [Sort.size_swp]; exact hd2)
          obtain ⟨v3, hv3⟩ : ∃ v3, (wr.setCell ⟨g, a, none⟩ (.int .u64 y)).cell? ⟨g, P, none⟩ = some v3 := ⟨_, (hR2.row.set (i := a) (by omega) y).cell (i := P) (by simp; omega)⟩
          have hR3 := hR2.swap' (i := a) (j := P) (by omega) (by omega) hx hy
          have HC := fun cap w hS => Lib.hid (sift0_any w g N cap (swp d2 a P) k a hS (by rw [Sort.size_swp]; omega) (by rw [Sort.size_swp]; omega))
          rw [HSZ.out] at HC
          clear hx hy hP0 hE2
          go_wp2
          go_region
          go_wp2_with (go_at_call 74; refine (HC _ _ hR3.drew.row).out.mono ?_; rintro e w2 ⟨rfl, hR4, hs4⟩)
          go_roundw
          case rel => exact ⟨k, _, hs4, by omega, by go_num, HE2.out, (hR3.drew).trans hR4⟩
          case measure => simp [intOf]
    · rw [show (((k + 1 : Nat) : Int) - 1) = k by omega]
      have HE := Lib.hid (show Sort.heapBuild ltInt h a k (Sort.siftDown ltInt h a k d1) = Sort.heapBuild ltInt h a (r + 1) d from hE)
      clear hE
      obtain ⟨nn, hnn⟩ : ∃ nn, d1.size = nn := ⟨_, rfl⟩
      have HC := fun cap w hS => Lib.hid (sift_any w g N cap d1 k h a hS (by omega) (by omega) (by omega))
      rw [hd1] at HC
      go_wp2_with (go_at_call 74; refine (HC _ _ hR.row).out.mono ?_; rintro e w2 ⟨rfl, hR2, hs2⟩)
      go_roundw
      case rel => exact ⟨k, _, hs2, by omega, by go_num, HE.out, hR.trans hR2⟩
      case measure => simp [intOf]

end Go.Proofs.Ytfakfmefjfemhaa
