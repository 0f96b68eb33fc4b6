/- Several texts of ours in one: Pa, Sb, Sk. -/
import Derived.Test.YtopmmlcjlopmaaaGreatDoorGShSpSe
import Derived.Test.YtopmmlcjlopmaaaGreatDoorGBvAM
/- slices.Sort at uint64, at fewer than fifty: partitionOrdered. -/
namespace Go.Proofs.YtopmmlcjlopmaaaGreatDoor
set_option linter.unusedVariables false
set_option linter.unusedSimpArgs false
open Go.ChangeShapes Go.WideShapes Go.ChangeAt Go.RowKit
open Go.Sort (swp ltInt SortedIn scanUp scanDown)

theorem part_eq (d0 : Array Int) (a b pivot : Nat) : Sort.partition ltInt d0 a b pivot = (if scanUp (fun x => ltInt x (swp d0 a pivot)[a]!) (swp d0 a pivot) (b - 1) (a + 1) > scanDown (fun x => !ltInt x (swp d0 a pivot)[a]!) (swp d0 a pivot) (scanUp (fun x => ltInt x (swp d0 a pivot)[a]!) (swp d0 a pivot) (b - 1) (a + 1)) (b - 1) then
    (scanDown (fun x => !ltInt x (swp d0 a pivot)[a]!) (swp d0 a pivot) (scanUp (fun x => ltInt x (swp d0 a pivot)[a]!) (swp d0 a pivot) (b - 1) (a + 1)) (b - 1), true, swp (swp d0 a pivot) (scanDown (fun x => !ltInt x (swp d0 a pivot)[a]!) (swp d0 a pivot) (scanUp (fun x => ltInt x (swp d0 a pivot)[a]!) (swp d0 a pivot) (b - 1) (a + 1)) (b - 1)) a)
    else ((Sort.partLoop ltInt a (scanUp (fun x => ltInt x (swp d0 a pivot)[a]!) (swp d0 a pivot) (b - 1) (a + 1) + 1) (scanDown (fun x => !ltInt x (swp d0 a pivot)[a]!) (swp d0 a pivot) (scanUp (fun x => ltInt x (swp d0 a pivot)[a]!) (swp d0 a pivot) (b - 1) (a + 1)) (b - 1) - 1) (swp (swp d0 a pivot) (scanUp (fun x => ltInt x (swp d0 a pivot)[a]!) (swp d0 a pivot) (b - 1) (a + 1)) (scanDown (fun x => !ltInt x (swp d0 a pivot)[a]!) (swp d0 a pivot) (scanUp (fun x => ltInt x (swp d0 a pivot)[a]!) (swp d0 a pivot) (b - 1) (a + 1)) (b - 1)))).1, false,
      swp (Sort.partLoop ltInt a (scanUp (fun x => ltInt x (swp d0 a pivot)[a]!) (swp d0 a pivot) (b - 1) (a + 1) + 1) (scanDown (fun x => !ltInt x (swp d0 a pivot)[a]!) (swp d0 a pivot) (scanUp (fun x => ltInt x (swp d0 a pivot)[a]!) (swp d0 a pivot) (b - 1) (a + 1)) (b - 1) - 1) (swp (swp d0 a pivot) (scanUp (fun x => ltInt x (swp d0 a pivot)[a]!) (swp d0 a pivot) (b - 1) (a + 1)) (scanDown (fun x => !ltInt x (swp d0 a pivot)[a]!) (swp d0 a pivot) (scanUp (fun x => ltInt x (swp d0 a pivot)[a]!) (swp d0 a pivot) (b - 1) (a + 1)) (b - 1)))).2
        (Sort.partLoop ltInt a (scanUp (fun x => ltInt x (swp d0 a pivot)[a]!) (swp d0 a pivot) (b - 1) (a + 1) + 1) (scanDown (fun x => !ltInt x (swp d0 a pivot)[a]!) (swp d0 a pivot) (scanUp (fun x => ltInt x (swp d0 a pivot)[a]!) (swp d0 a pivot) (b - 1) (a + 1)) (b - 1) - 1) (swp (swp d0 a pivot) (scanUp (fun x => ltInt x (swp d0 a pivot)[a]!) (swp d0 a pivot) (b - 1) (a + 1)) (scanDown (fun x => !ltInt x (swp d0 a pivot)[a]!) (swp d0 a pivot) (scanUp (fun x => ltInt x (swp d0 a pivot)[a]!) (swp d0 a pivot) (b - 1) (a + 1)) (b - 1)))).1 a)) := rfl

set_option maxRecDepth 100000 in
set_option maxHeartbeats 16000000 in
theorem partition_any (w : World) (g N cap : Nat) (d : Array Int) (a b pivot : Nat) (hS : Row w g N d) (hp1 : a ≤ pivot) (hp2 : pivot < b) (hb : b ≤ d.size) (hn : d.size < 50) :
    Calls Tryz.prog 132 #[.slice (some ⟨g, 0, none⟩) d.size cap, .int .i64 a, .int .i64 b, .int .i64 pivot] w fun e w' => e = .returned (.tuple #[.int .i64 (Sort.partition ltInt d a b pivot).1, .bool (Sort.partition ltInt d a b pivot).2.1]) ∧ Srt w w' g N (Sort.partition ltInt d a b pivot).2.2 ∧ (Sort.partition ltInt d a b pivot).2.2.size = d.size := by
  obtain ⟨n, hnd⟩ : ∃ n, d.size = n := ⟨_, rfl⟩
  rw [hnd] at hb hn ⊢
  obtain ⟨R, hR0⟩ : ∃ R, Sort.partition ltInt d a b pivot = R := ⟨_, rfl⟩
  have HE := Lib.hid ((part_eq d a b pivot).symm.trans hR0)
  rw [hR0]
  clear hR0
  have hR00 := Srt.start hS
  have v1 := hR00.row.cell (i := a) (by omega)
  have v2 := hR00.row.cell (i := pivot) (by omega)
  have f1 := hR00.row.free a
  have f2 := hR00.row.free pivot
  obtain ⟨x, hx⟩ : ∃ x, d[a]! = x := ⟨_, rfl⟩
  obtain ⟨y, hy⟩ : ∃ y, d[pivot]! = y := ⟨_, rfl⟩
  rw [hx] at v1
  rw [hy] at v2
  obtain ⟨v3, hv3⟩ : ∃ v3, (w.setCell ⟨g, a, none⟩ (.int .u64 y)).cell? ⟨g, pivot, none⟩ = some v3 := ⟨_, (hR00.row.set (i := a) (by omega) y).cell (i := pivot) (by simp; omega)⟩
  have hR1 := hR00.swap' (i := a) (j := pivot) (by omega) (by omega) hx hy
  have kk1 : (a : Int) < (n : Int) := by omega
  have kk2 : (pivot : Int) < (n : Int) := by omega
  clear hx hy
  have hsz : (swp d a pivot).size = n := by rw [Sort.size_swp]; exact hnd
  obtain ⟨d1, hd1e⟩ : ∃ d1, swp d a pivot = d1 := ⟨_, rfl⟩
  rw [hd1e] at hsz hR1 HE
  clear hd1e
  obtain ⟨b1, hb1⟩ : ∃ b1 : Nat, b - 1 = b1 := ⟨_, rfl⟩
  rw [hb1] at HE
  have hbi : (b : Int) - 1 = (b1 : Int) := by omega
  go_enter Tryz.func132, Tryz.ntmps132
  go_wp2
  go_region
  obtain ⟨w0, hw0, hR⟩ : ∃ w0, ((w.setCell ⟨g, a, none⟩ (.int .u64 y)).setCell ⟨g, pivot, none⟩ (.int .u64 x)).drew = w0 ∧ Srt w w0 g N d1 := ⟨_, rfl, hR1.drew⟩
  rw [hw0]
  clear hw0 hR1 v1 v2 f1 f2 hv3
  have c0 := hR.row.cell (i := a) (by omega)
  obtain ⟨p, hp⟩ : ∃ p, d1[a]! = p := ⟨_, rfl⟩
  rw [hp] at c0 HE
  have HP := Lib.hid hp
  clear hp
  obtain ⟨P, hP⟩ : ∃ P : Int → Bool, P = fun x => ltInt x p := ⟨_, rfl⟩
  obtain ⟨Q, hQ⟩ : ∃ Q : Int → Bool, Q = fun x => !ltInt x p := ⟨_, rfl⟩
  rw [← hP, ← hQ] at HE
  have HPQ := Lib.hid (And.intro hP hQ)
  clear hP hQ
  go_upto_block 0 with fail
  go_cut [10] from 30 (fun v wc => ∃ i1 : Nat, v = .int .i64 i1 ∧ Hid (scanUp P d1 b1 (a + 1) = i1) ∧ a + 1 ≤ i1 ∧ i1 ≤ n ∧ Srt w wc g N d1)
  case first =>
    go_wp2
    go_loopw [10] (fun v w1 => ∃ i1 m : Nat, v = .int .i64 i1 ∧ scanUp P d1 b1 i1 = scanUp P d1 b1 (a + 1) ∧ a + 1 ≤ i1 ∧ i1 ≤ n ∧ w1 = w0.drewN m) (fun v _ => (n - intOf v).toNat)
    case atStart => exact ⟨(a + 1), 0, by go_num, rfl, by omega, by omega, rfl⟩
    case round =>
      obtain ⟨i1, m, rfl, hs1, h1, h2, rfl⟩ := hrel
      have HS1 := Lib.hid hs1
      clear hs1
      by_cases hle : i1 ≤ b1
      · have c1 := hR.row.cell (i := i1) (by omega)
        obtain ⟨z, hz⟩ : ∃ z, d1[i1]! = z := ⟨_, rfl⟩
        rw [hz] at c1
        have HZ := Lib.hid hz
        clear hz
        have k1 : (i1 : Int) ≤ (b1 : Int) := by omega
        have k2 : (i1 : Int) < (n : Int) := by omega
        by_cases hl : ltInt z p = true
        · have E := Lib.hid ((up_go (p := P) (d := d1) hle (by rw [HPQ.out.1, HZ.out]; exact hl)).symm.trans HS1.out)
          go_wp2
          go_quiet (first | (go_at_call 130; exact quietOf2 (less_any _ _ _)))
          (try rw [hl])
          go_wp2
          go_roundw
          case rel => exact ⟨i1 + 1, _, by go_num, E.out, by omega, by omega, rfl⟩
          case measure => simp [intOf]; omega
        · have hl' : ltInt z p = false := by simpa using hl
          have E := Lib.hid (HS1.out.symm.trans (up_stop (fun h => by have := h.2; rw [HPQ.out.1, HZ.out] at this; simp [hl'] at this)))
          clear hl
          go_wp2
          go_quiet (first | (go_at_call 130; exact quietOf2 (less_any _ _ _)))
          (try rw [hl'])
          go_wp2
          go_meet
          case rel => exact ⟨i1, rfl, E.out, h1, h2, (hR.drewN _).drewN _⟩
      · have E := Lib.hid (HS1.out.symm.trans (up_stop (fun h => hle h.1)))
        have hg : decide ((i1 : Int) ≤ (b1 : Int)) = false := by simp; omega
        go_wp2
        go_quiet (fail)
        go_wp2
        go_meet
        case rel => exact ⟨i1, rfl, E.out, h1, h2, (hR.drewN _).drewN _⟩
  case rest =>
    obtain ⟨i1, rfl, HS1, h1, h2, hR2⟩ := hcut
    clear hR c0
    have c0 := hR2.row.cell (i := a) (by omega)
    rw [HP.out] at c0
    go_upto_block 2 with fail
    go_cut [11] from 30 (fun v wc2 => ∃ j1 : Nat, v = .int .i64 j1 ∧ Hid (scanDown Q d1 i1 b1 = j1) ∧ j1 < n ∧ Srt w wc2 g N d1)
    case first =>
      go_wp2
      go_loopw [11] (fun v w1 => ∃ j1 m : Nat, v = .int .i64 j1 ∧ scanDown Q d1 i1 j1 = scanDown Q d1 i1 b1 ∧ j1 < n ∧ w1 = wc.drewN m) (fun v _ => (intOf v).toNat)
      case atStart => exact ⟨b1, 0, by go_num, rfl, by omega, rfl⟩
      case round =>
        obtain ⟨j1, m, rfl, hs1, hj1, rfl⟩ := hrel
        have HS2 := Lib.hid hs1
        clear hs1
        by_cases hle : i1 ≤ j1
        · obtain ⟨q, rfl⟩ : ∃ q, j1 = q + 1 := ⟨j1 - 1, by omega⟩
          have c1 := hR2.row.cell (i := q + 1) (by omega)
          obtain ⟨z, hz⟩ : ∃ z, d1[q + 1]! = z := ⟨_, rfl⟩
          rw [hz] at c1
          have HZ := Lib.hid hz
          clear hz
          have k1 : (i1 : Int) ≤ (q : Int) + 1 := by omega
          have k2 : (q : Int) + 1 < (n : Int) := by omega
          have k3 : (q : Int) + 1 - 1 = q := by omega
          by_cases hl : ltInt z p = true
          · have E := Lib.hid (HS2.out.symm.trans (down_stop (fun h => by have := h.2; rw [HPQ.out.2, HZ.out] at this; simp [hl] at this)))
            go_wp2
            go_quiet (first | (go_at_call 130; exact quietOf2 (less_any _ _ _)))
            (try rw [hl])
            go_wp2
            go_meet
            case rel => exact ⟨q + 1, rfl, E.out, by omega, (hR2.drewN _).drewN _⟩
          · have hl' : ltInt z p = false := by simpa using hl
            have E := Lib.hid ((down_go (p := Q) (d := d1) hle (by rw [HPQ.out.2, HZ.out]; simp [hl'])).symm.trans HS2.out)
            clear hl
            go_wp2
            go_quiet (first | (go_at_call 130; exact quietOf2 (less_any _ _ _)))
            (try rw [hl'])
            go_wp2
            go_roundw
            case rel => exact ⟨q, _, by go_num, E.out, by omega, rfl⟩
            case measure => simp [intOf]
        · have E := Lib.hid (HS2.out.symm.trans (down_stop (fun h => hle h.1)))
          have hg : decide ((i1 : Int) ≤ (j1 : Int)) = false := by simp; omega
          go_wp2
          go_quiet (fail)
          go_wp2
          go_meet
          case rel => exact ⟨j1, rfl, E.out, by omega, (hR2.drewN _).drewN _⟩
    case rest =>
      obtain ⟨j1, rfl, HS2, hj1, hR3⟩ := hcut
      clear hR2 c0
      rw [HS1.out, HS2.out] at HE
      by_cases hgt : j1 < i1
      · have E := Lib.hid (show ((j1, true, swp d1 j1 a) : Nat × Bool × Array Int) = R by rw [← HE.out, if_pos hgt])
        have hgt' : (j1 : Int) < (i1 : Int) := by omega
        have v1 := hR3.row.cell (i := j1) (by omega)
        have v2 := hR3.row.cell (i := a) (by omega)
        have f1 := hR3.row.free j1
        have f2 := hR3.row.free a
        obtain ⟨x, hx⟩ : ∃ x, d1[j1]! = x := ⟨_, rfl⟩
        obtain ⟨y, hy⟩ : ∃ y, d1[a]! = y := ⟨_, rfl⟩
        rw [hx] at v1
        rw [hy] at v2
        obtain ⟨v3, hv3⟩ : ∃ v3, (wc.setCell ⟨g, j1, none⟩ (.int .u64 y)).cell? ⟨g, a, none⟩ = some v3 := ⟨_, (hR3.row.set (i := j1) (by omega) y).cell (i := a) (by simp; omega)⟩
        have hR4 := hR3.swap' (i := j1) (j := a) (by omega) (by omega) hx hy
        have kk1 : (j1 : Int) < (n : Int) := by omega
        have kk2 : (a : Int) < (n : Int) := by omega
        clear hx hy
        go_wp2
        go_region
        go_wp2
        go_ret2
        exact ⟨by rw [← E.out]; rfl, by rw [← E.out]; exact hR4.drew, by rw [← E.out]; show (swp d1 j1 a).size = n; rw [Sort.size_swp]; exact hsz⟩
      · have E := Lib.hid (show (((Sort.partLoop ltInt a (i1 + 1) (j1 - 1) (swp d1 i1 j1)).1, false, swp (Sort.partLoop ltInt a (i1 + 1) (j1 - 1) (swp d1 i1 j1)).2 (Sort.partLoop ltInt a (i1 + 1) (j1 - 1) (swp d1 i1 j1)).1 a) : Nat × Bool × Array Int) = R by rw [← HE.out, if_neg (by omega)])
        have hle' : (i1 : Int) ≤ (j1 : Int) := by omega
        have v1 := hR3.row.cell (i := i1) (by omega)
        have v2 := hR3.row.cell (i := j1) (by omega)
        have f1 := hR3.row.free i1
        have f2 := hR3.row.free j1
        obtain ⟨x, hx⟩ : ∃ x, d1[i1]! = x := ⟨_, rfl⟩
        obtain ⟨y, hy⟩ : ∃ y, d1[j1]! = y := ⟨_, rfl⟩
        rw [hx] at v1
        rw [hy] at v2
        obtain ⟨v3, hv3⟩ : ∃ v3, (wc.setCell ⟨g, i1, none⟩ (.int .u64 y)).cell? ⟨g, j1, none⟩ = some v3 := ⟨_, (hR3.row.set (i := i1) (by omega) y).cell (i := j1) (by simp; omega)⟩
        have hR4 := hR3.swap' (i := i1) (j := j1) (by omega) (by omega) hx hy
        have kk1 : (i1 : Int) < (n : Int) := by omega
        have kk2 : (j1 : Int) < (n : Int) := by omega
        clear hx hy
        obtain ⟨L, hL⟩ : ∃ L, Sort.partLoop ltInt a (i1 + 1) (j1 - 1) (swp d1 i1 j1) = L := ⟨_, rfl⟩
        rw [hL] at E
        go_wp2
        go_region
        go_wp2
        go_loopg [10, 11] n (fun k u v wr => ∃ (i j : Nat) (d2 : Array Int), j ≤ k ∧ d2.size = n ∧ a + 1 ≤ i ∧ i ≤ n ∧ j < n ∧ u = .int .i64 i ∧ v = .int .i64 j ∧ Sort.partLoop ltInt a i j d2 = L ∧ Srt w wr g N d2)
        case atStart => exact ⟨i1 + 1, j1 - 1, swp d1 i1 j1, by omega, by rw [Sort.size_swp]; exact hsz, by omega, by omega, by omega, by go_num, by go_num, hL, hR4.drew⟩
        case round =>
          clear HE HP HPQ HS1 HS2 hL v1 v2 f1 f2 hv3 kk1 kk2
          obtain ⟨i, j, d2, hjk, hd2, hi1, hi2, hj, rfl, rfl, hE, hR⟩ := hrel
          have HE := Lib.hid ((Sort.partLoop_eq ltInt a i j d2).symm.trans hE)
          clear hE hR3 hR4
          have c0 := hR.row.cell (i := a) (by omega)
          obtain ⟨p, hp⟩ : ∃ p, d2[a]! = p := ⟨_, rfl⟩
          rw [hp] at c0 HE
          have HP := Lib.hid hp
          clear hp
          obtain ⟨P, hP⟩ : ∃ P : Int → Bool, P = fun x => ltInt x p := ⟨_, rfl⟩
          obtain ⟨Q, hQ⟩ : ∃ Q : Int → Bool, Q = fun x => !ltInt x p := ⟨_, rfl⟩
          rw [← hP, ← hQ] at HE
          have HPQ := Lib.hid (And.intro hP hQ)
          clear hP hQ
          go_upto_block 6 with fail
          go_cut [10] from 99 to 152 (fun v wc => ∃ i1 : Nat, v = .int .i64 i1 ∧ Hid (scanUp P d2 j i = i1) ∧ a + 1 ≤ i1 ∧ i1 ≤ n ∧ Srt w wc g N d2)
          case first =>
            go_wp2
            go_loopw [10] (fun v w1 => ∃ i1 m : Nat, v = .int .i64 i1 ∧ scanUp P d2 j i1 = scanUp P d2 j i ∧ a + 1 ≤ i1 ∧ i1 ≤ n ∧ w1 = wr.drewN m) (fun v _ => (n - intOf v).toNat)
            case atStart => exact ⟨i, 0, by go_num, rfl, hi1, hi2, rfl⟩
            case round =>
              obtain ⟨i1, m, rfl, hs1, h1, h2, rfl⟩ := hrel
              have HS1 := Lib.hid hs1
              clear hs1
              by_cases hle : i1 ≤ j
              · have c1 := hR.row.cell (i := i1) (by omega)
                obtain ⟨z, hz⟩ : ∃ z, d2[i1]! = z := ⟨_, rfl⟩
                rw [hz] at c1
                have HZ := Lib.hid hz
                clear hz
                have k1 : (i1 : Int) ≤ (j : Int) := by omega
                have k2 : (i1 : Int) < (n : Int) := by omega
                by_cases hl : ltInt z p = true
                · have E := Lib.hid ((up_go (p := P) (d := d2) hle (by rw [HPQ.out.1, HZ.out]; exact hl)).symm.trans HS1.out)
                  go_wp2
                  go_quiet (first | (go_at_call 130; exact quietOf2 (less_any _ _ _)))
                  (try rw [hl])
                  go_wp2
                  go_roundw
                  case rel => exact ⟨i1 + 1, _, by go_num, E.out, by omega, by omega, rfl⟩
                  case measure => simp [intOf]; omega
                · have hl' : ltInt z p = false := by simpa using hl
                  have E := Lib.hid (HS1.out.symm.trans (up_stop (fun h => by have := h.2; rw [HPQ.out.1, HZ.out] at this; simp [hl'] at this)))
                  clear hl
                  go_wp2
                  go_quiet (first | (go_at_call 130; exact quietOf2 (less_any _ _ _)))
                  (try rw [hl'])
                  go_wp2
                  go_meet
                  case rel => exact ⟨i1, rfl, E.out, h1, h2, (hR.drewN _).drewN _⟩
              · have E := Lib.hid (HS1.out.symm.trans (up_stop (fun h => hle h.1)))
                have hg : decide ((i1 : Int) ≤ (j : Int)) = false := by simp; omega
                go_wp2
                go_quiet (fail)
                go_wp2
                go_meet
                case rel => exact ⟨i1, rfl, E.out, h1, h2, (hR.drewN _).drewN _⟩
          case rest =>
            obtain ⟨i1, rfl, HS1, h1, h2, hR2⟩ := hcut
            clear hR c0
            have c0 := hR2.row.cell (i := a) (by omega)
            rw [HP.out] at c0
            go_upto_block 8 with fail
            go_cut [11] from 99 to 152 (fun v wc2 => ∃ j1 : Nat, v = .int .i64 j1 ∧ Hid (scanDown Q d2 i1 j = j1) ∧ j1 < n ∧ Srt w wc2 g N d2)
            case first =>
              go_wp2
              go_loopw [11] (fun v w1 => ∃ j1 m : Nat, v = .int .i64 j1 ∧ scanDown Q d2 i1 j1 = scanDown Q d2 i1 j ∧ j1 < n ∧ w1 = wc.drewN m) (fun v _ => (intOf v).toNat)
              case atStart => exact ⟨j, 0, by go_num, rfl, hj, rfl⟩
              case round =>
                obtain ⟨j1, m, rfl, hs1, hj1, rfl⟩ := hrel
                have HS2 := Lib.hid hs1
                clear hs1
                by_cases hle : i1 ≤ j1
                · obtain ⟨q, rfl⟩ : ∃ q, j1 = q + 1 := ⟨j1 - 1, by omega⟩
                  have c1 := hR2.row.cell (i := q + 1) (by omega)
                  obtain ⟨z, hz⟩ : ∃ z, d2[q + 1]! = z := ⟨_, rfl⟩
                  rw [hz] at c1
                  have HZ := Lib.hid hz
                  clear hz
                  have k1 : (i1 : Int) ≤ (q : Int) + 1 := by omega
                  have k2 : (q : Int) + 1 < (n : Int) := by omega
                  have k3 : (q : Int) + 1 - 1 = q := by omega
                  by_cases hl : ltInt z p = true
                  · have E := Lib.hid (HS2.out.symm.trans (down_stop (fun h => by have := h.2; rw [HPQ.out.2, HZ.out] at this; simp [hl] at this)))
                    go_wp2
                    go_quiet (first | (go_at_call 130; exact quietOf2 (less_any _ _ _)))
                    (try rw [hl])
                    go_wp2
                    go_meet
                    case rel => exact ⟨q + 1, rfl, E.out, by omega, (hR2.drewN _).drewN _⟩
                  · have hl' : ltInt z p = false := by simpa using hl
                    have E := Lib.hid ((down_go (p := Q) (d := d2) hle (by rw [HPQ.out.2, HZ.out]; simp [hl'])).symm.trans HS2.out)
                    clear hl
                    go_wp2
                    go_quiet (first | (go_at_call 130; exact quietOf2 (less_any _ _ _)))
                    (try rw [hl'])
                    go_wp2
                    go_roundw
                    case rel => exact ⟨q, _, by go_num, E.out, by omega, rfl⟩
                    case measure => simp [intOf]
                · have E := Lib.hid (HS2.out.symm.trans (down_stop (fun h => hle h.1)))
                  have hg : decide ((i1 : Int) ≤ (j1 : Int)) = false := by simp; omega
                  go_wp2
                  go_quiet (fail)
                  go_wp2
                  go_meet
                  case rel => exact ⟨j1, rfl, E.out, by omega, (hR2.drewN _).drewN _⟩
            case rest =>
              obtain ⟨j1, rfl, HS2, hj1, hR3⟩ := hcut
              clear hR2 c0
              rw [HS1.out, HS2.out] at HE
              by_cases hgt : j1 < i1
              · have E2 := Lib.hid (show ((j1, d2) : Nat × Array Int) = L by rw [← HE.out, if_pos hgt])
                have hgt' : (j1 : Int) < (i1 : Int) := by omega
                have E3 := Lib.hid (show ((j1, false, swp d2 j1 a) : Nat × Bool × Array Int) = R by rw [← E.out, ← E2.out])
                have v1 := hR3.row.cell (i := j1) (by omega)
                have v2 := hR3.row.cell (i := a) (by omega)
                have f1 := hR3.row.free j1
                have f2 := hR3.row.free a
                obtain ⟨x, hx⟩ : ∃ x, d2[j1]! = x := ⟨_, rfl⟩
                obtain ⟨y, hy⟩ : ∃ y, d2[a]! = y := ⟨_, rfl⟩
                rw [hx] at v1
                rw [hy] at v2
                obtain ⟨v3, hv3⟩ : ∃ v3, (wc.setCell ⟨g, j1, none⟩ (.int .u64 y)).cell? ⟨g, a, none⟩ = some v3 := ⟨_, (hR3.row.set (i := j1) (by omega) y).cell (i := a) (by simp; omega)⟩
                have hR4 := hR3.swap' (i := j1) (j := a) (by omega) (by omega) hx hy
                have kk1 : (j1 : Int) < (n : Int) := by omega
                have kk2 : (a : Int) < (n : Int) := by omega
                clear hx hy
                go_wp2
                go_region
                go_wp2
                go_ret2
                exact ⟨by rw [← E3.out]; rfl, by rw [← E3.out]; exact hR4.drew, by rw [← E3.out]; show (swp d2 j1 a).size = n; rw [Sort.size_swp]; exact hd2⟩
              · have E2 := Lib.hid (show Sort.partLoop ltInt a (i1 + 1) (j1 - 1) (swp d2 i1 j1) = L by rw [← HE.out, if_neg (by omega)])
                have hle' : (i1 : Int) ≤ (j1 : Int) := by omega
                have v1 := hR3.row.cell (i := i1) (by omega)
                have v2 := hR3.row.cell (i := j1) (by omega)
                have f1 := hR3.row.free i1
                have f2 := hR3.row.free j1
                obtain ⟨x, hx⟩ : ∃ x, d2[i1]! = x := ⟨_, rfl⟩
                obtain ⟨y, hy⟩ : ∃ y, d2[j1]! = y := ⟨_, rfl⟩
                rw [hx] at v1
                rw [hy] at v2
                obtain ⟨v3, hv3⟩ : ∃ v3, (wc.setCell ⟨g, i1, none⟩ (.int .u64 y)).cell? ⟨g, j1, none⟩ = some v3 := ⟨_, (hR3.row.set (i := i1) (by omega) y).cell (i := j1) (by simp; omega)⟩
                have hR4 := hR3.swap' (i := i1) (j := j1) (by omega) (by omega) hx hy
                have kk1 : (i1 : Int) < (n : Int) := by omega
                have kk2 : (j1 : Int) < (n : Int) := by omega
                clear hx hy
                go_wp2
                go_region
                go_wp2
                have hjj := Sort.scanDown_le Q d2 i1 j
                rw [HS2.out] at hjj
                go_roundg (j1 - 1)
                case measure => omega
                case rel => exact ⟨i1 + 1, j1 - 1, swp d2 i1 j1, Nat.le_refl _, by rw [Sort.size_swp]; exact hd2, by omega, by omega, by omega, by go_num, by go_num, E2.out, hR4.drew⟩

end Go.Proofs.YtopmmlcjlopmaaaGreatDoor
/- slices.Sort at uint64, at fewer than fifty: bits.Len, nextPowerOfTwo, xorshift, breakPatternsOrdered. -/
namespace Go.Proofs.YtopmmlcjlopmaaaGreatDoor
set_option linter.unusedVariables false
set_option linter.unusedSimpArgs false
open Go.ChangeShapes Go.WideShapes Go.ChangeAt Go.RowKit
open Go.Sort (swp ltInt SortedIn PermIn)

def lenT (l : Nat) : Nat := if l = 0 then 0 else if l < 2 then 1 else if l < 4 then 2 else if l < 8 then 3 else if l < 16 then 4 else if l < 32 then 5 else 6

set_option maxRecDepth 100000 in
set_option maxHeartbeats 16000000 in
theorem len64_any (l : Nat) (w : World) (h : l < 50) : Calls Tryz.prog 134 #[.int .u64 l] w fun e w' => e = .returned (.int .i64 (lenT l)) ∧ w = w' := by
  have : l = 0 ∨ l = 1 ∨ l = 2 ∨ l = 3 ∨ l = 4 ∨ l = 5 ∨ l = 6 ∨ l = 7 ∨ l = 8 ∨ l = 9 ∨ l = 10 ∨ l = 11 ∨ l = 12 ∨ l = 13 ∨ l = 14 ∨ l = 15 ∨ l = 16 ∨ l = 17 ∨ l = 18 ∨ l = 19 ∨ l = 20 ∨ l = 21 ∨ l = 22 ∨ l = 23 ∨ l = 24 ∨ l = 25 ∨ l = 26 ∨ l = 27 ∨ l = 28 ∨ l = 29 ∨ l = 30 ∨ l = 31 ∨ l = 32 ∨ l = 33 ∨ l = 34 ∨ l = 35 ∨ l = 36 ∨ l = 37 ∨ l = 38 ∨ l = 39 ∨ l = 40 ∨ l = 41 ∨ l = 42 ∨ l = 43 ∨ l = 44 ∨ l = 45 ∨ l = 46 ∨ l = 47 ∨ l = 48 ∨ l = 49 := by omega
  clear h
  rcases this with rfl | rfl | rfl | rfl | rfl | rfl | rfl | rfl | rfl | rfl | rfl | rfl | rfl | rfl | rfl | rfl | rfl | rfl | rfl | rfl | rfl | rfl | rfl | rfl | rfl | rfl | rfl | rfl | rfl | rfl | rfl | rfl | rfl | rfl | rfl | rfl | rfl | rfl | rfl | rfl | rfl | rfl | rfl | rfl | rfl | rfl | rfl | rfl | rfl | rfl
  all_goals
    go_enter Tryz.func134, Tryz.ntmps134
    go_wp2
    go_ret
    exact ⟨by kernel_rfl, rfl⟩

theorem len_any (l : Nat) (w : World) (h : l < 50) : Calls Tryz.prog 120 #[.int .u64 l] w fun e w' => e = .returned (.int .i64 (lenT l)) ∧ w = w' := by
  go_enter Tryz.func120, Tryz.ntmps120
  go_wp2_with (go_at_call 134; refine (len64_any l _ h).mono ?_; rintro e w' ⟨rfl, rfl⟩)
  go_ret
  exact ⟨rfl, rfl⟩

theorem pow2_any (l : Nat) (w : World) (h : l < 50) (h8 : 8 ≤ l) : Calls Tryz.prog 136 #[.int .i64 l] w fun e w' => (∃ md : Int, e = .returned (.int .u64 md) ∧ (md = 16 ∨ md = 32 ∨ md = 64) ∧ l < md ∧ md ≤ 2 * l) ∧ w = w' := by
  have hl0 : (0 : Int) ≤ (l : Int) := by omega
  have hl1 : (l : Int) < 50 := by omega
  by_cases h1 : l < 16
  · have e : (lenT l : Int) = 4 := by unfold lenT; rw [if_neg (by omega), if_neg (by omega), if_neg (by omega), if_neg (by omega), if_pos h1]; rfl
    go_enter Tryz.func136, Tryz.ntmps136
    go_wp2_with (go_at_call 120; refine (len_any l _ h).mono ?_; rw [e]; rintro e w' ⟨rfl, rfl⟩)
    go_ret
    exact ⟨⟨16, rfl, by omega, by omega, by omega⟩, rfl⟩
  · by_cases h2 : l < 32
    · have e : (lenT l : Int) = 5 := by unfold lenT; rw [if_neg (by omega), if_neg (by omega), if_neg (by omega), if_neg (by omega), if_neg h1, if_pos h2]; rfl
      go_enter Tryz.func136, Tryz.ntmps136
      go_wp2_with (go_at_call 120; refine (len_any l _ h).mono ?_; rw [e]; rintro e w' ⟨rfl, rfl⟩)
      go_ret
      exact ⟨⟨32, rfl, by omega, by omega, by omega⟩, rfl⟩
    · have e : (lenT l : Int) = 6 := by unfold lenT; rw [if_neg (by omega), if_neg (by omega), if_neg (by omega), if_neg (by omega), if_neg h1, if_neg h2]; rfl
      go_enter Tryz.func136, Tryz.ntmps136
      go_wp2_with (go_at_call 120; refine (len_any l _ h).mono ?_; rw [e]; rintro e w' ⟨rfl, rfl⟩)
      go_ret
      exact ⟨⟨64, rfl, by omega, by omega, by omega⟩, rfl⟩

/-- a generator of numbers in a block of its own -/
def Rng (w : World) (s : Nat) : Prop := ∃ c : Int, w.heap[s]? = some (.cells #[.int .u64 c] 209 (0, 0))
theorem Rng.ne {w : World} {s g N : Nat} {d : Array Int} (h : Rng w s) (hr : Row w g N d) : s ≠ g := by
  rintro rfl
  obtain ⟨c, hc⟩ := h
  obtain ⟨c', hc', _⟩ := hr
  rw [hc] at hc'; simp at hc'

set_option maxRecDepth 100000 in
set_option maxHeartbeats 4000000 in
theorem sNext_any (w : World) (s : Nat) (hs : Rng w s) : Calls Tryz.prog 137 #[.pointer (some ⟨s, 0, none⟩)] w fun e w' => ∃ r : Int, e = .returned (.int .u64 r) ∧ Rng w' s ∧ Turn (fun i => i = s) w w' := by
  obtain ⟨c, hc⟩ := hs
  have c0 := cell_of_one hc
  have f0 := free_of_one hc
  have hA : ∀ x y z : Value, (((w.setCell ⟨s, 0, none⟩ x).setCell ⟨s, 0, none⟩ y).setCell ⟨s, 0, none⟩ z).cell? ⟨s, 0, none⟩ = some z := fun x y z => cell_of_one (one_setCell (one_setCell (one_setCell hc)))
  go_enter Tryz.func137, Tryz.ntmps137
  go_wp2
  go_region
  go_wp2
  go_region
  go_wp2
  go_region
  go_wp2
  go_ret
  exact ⟨_, rfl, ⟨_, one_setCell (one_setCell (one_setCell hc))⟩, ⟨rfl, rfl, rfl, by simp [World.setCell], fun i _ hi => (Below.heap_setCell _ _ _ _ hi).trans ((Below.heap_setCell _ _ _ _ hi).trans (Below.heap_setCell _ _ _ _ hi))⟩⟩

theorem and_le (r m : Int) (h0 : 0 ≤ m) (h1 : m < 18446744073709551616) : 0 ≤ bits .and .u64 r m ∧ bits .and .u64 r m ≤ m := by
  have e : bits .and .u64 r m = ((BitVec.ofInt 64 r &&& BitVec.ofInt 64 m).toNat : Int) := wrap_bv _
  rw [e, BitVec.toNat_and]
  have h2 : (BitVec.ofInt 64 m).toNat ≤ m.toNat := by
    rw [BitVec.toNat_ofInt]
    have : (m % (2 ^ 64 : Nat)) = m := Int.emod_eq_of_lt h0 (by simpa using h1)
    rw [this]; exact Nat.le_refl _
  have h3 := Nat.and_le_right (n := (BitVec.ofInt 64 r).toNat) (m := (BitVec.ofInt 64 m).toNat)
  omega

end Go.Proofs.YtopmmlcjlopmaaaGreatDoor
/- slices.Sort at uint64, at fewer than fifty: breakPatternsOrdered. -/
namespace Go.Proofs.YtopmmlcjlopmaaaGreatDoor
set_option linter.unusedVariables false
set_option linter.unusedSimpArgs false
open Go.ChangeShapes Go.WideShapes Go.ChangeAt Go.RowKit
open Go.Sort (swp ltInt SortedIn PermIn)

set_option maxRecDepth 100000 in
set_option maxHeartbeats 8000000 in
theorem break_any (w : World) (g N cap : Nat) (d : Array Int) (a b : Nat) (hS : Row w g N d) (hab : a + 12 < b) (hb : b ≤ d.size) (hn : d.size < 50) :
    Calls Tryz.prog 126 #[.slice (some ⟨g, 0, none⟩) d.size cap, .int .i64 a, .int .i64 b] w fun e w' => e = .returned (.tuple #[]) ∧ ∃ d' : Array Int, Srt w w' g N d' ∧ PermIn a b d d' := by
  obtain ⟨n, hnd⟩ : ∃ n, d.size = n := ⟨_, rfl⟩
  rw [hnd] at hb hn ⊢
  obtain ⟨l, hl⟩ : ∃ l : Nat, b - a = l := ⟨_, rfl⟩
  obtain ⟨q, hq⟩ : ∃ q : Nat, l / 4 = q := ⟨_, rfl⟩
  have e1 : (b : Int) - (a : Int) = (l : Int) := by omega
  have e2 : (l : Int).tdiv 4 = (q : Int) := by rw [Int.tdiv_eq_ediv_of_nonneg (by omega)]; omega
  obtain ⟨k, hk⟩ : ∃ k : Nat, a + q * 2 = k := ⟨_, rfl⟩
  have e4 : (a : Int) + (q : Int) * 2 = (k : Int) := by omega
  have l1 : (8 : Int) ≤ (l : Int) := by omega
  have l2 : (l : Int) < 50 := by omega
  have q12 : (q : Int) ≤ 12 := by omega
  have a50 : (a : Int) ≤ 50 := by omega
  have k50 : (k : Int) ≤ 50 := by omega
  have hk1 : a + 6 ≤ k := by omega
  have hk2 : k + 1 < b := by omega
  go_enter Tryz.func126, Tryz.ntmps126
  go_wp2_with fail
  refine (pow2_any l _ (by omega) (by omega)).mono ?_
  rintro e w1 ⟨⟨md, rfl, hmd, hm1, hm2⟩, rfl⟩
  have hR0 := (Srt.start hS).alloc (.cells #[.int .u64 l] 209)
  have hG0 : Rng (w.alloc (.cells #[.int .u64 l] 209)) w.heap.size := ⟨_, Deep.blk_alloc_new _ _⟩
  have hmb : 16 ≤ md ∧ md ≤ 64 := by omega
  obtain ⟨mb0, mb1⟩ := hmb
  clear hmd
  go_wp2
  go_loopw [9] (fun v wr => ∃ (i : Nat) (d1 : Array Int), k ≤ i + 1 ∧ i ≤ k + 2 ∧ v = .int .i64 i ∧ d1.size = n ∧ PermIn a b d d1 ∧ Srt w wr g N d1 ∧ Rng wr w.heap.size) (fun v _ => (k + 2 - intOf v).toNat)
  case atStart => exact ⟨k - 1, d, by omega, by omega, by go_num, hnd, Sort.permIn_refl _ _ _, hR0, hG0⟩
  case round =>
    obtain ⟨i, d1, hi1, hi2, rfl, hd1, hpm, hR, hG⟩ := hrel
    by_cases hlt : i ≤ k + 1
    · have hlt' : (i : Int) ≤ (k : Int) + 1 := by omega
      have hne := hG.ne hR.row
      go_wp2_with fail
      refine (sNext_any _ _ hG).mono ?_
      rintro e w2 ⟨r, rfl, hG2, hT2⟩
      have hR2 : Srt w w2 g N d1 := ⟨hR.turn.trans (hT2.mono fun i _ hi => Or.inr (by rw [hi]; exact Nat.le_refl _)), hR.row.turn hT2 hne⟩
      have hal := and_le r (md - 1) (by omega) (by omega)
      obtain ⟨o, ho⟩ : ∃ o : Nat, bits .and .u64 r (md - 1) = (o : Int) := ⟨(bits .and .u64 r (md - 1)).toNat, by omega⟩
      rw [ho] at hal
      obtain ⟨_, o1⟩ := hal
      clear hR hG hT2
      by_cases hol : o < l
      · have hol' : (o : Int) < (l : Int) := by omega
        obtain ⟨P, hP⟩ : ∃ P : Nat, a + o = P := ⟨_, rfl⟩
        have eP : (a : Int) + (o : Int) = (P : Int) := by omega
        have v1 := hR2.row.cell (i := i) (by omega)
        have v2 := hR2.row.cell (i := P) (by omega)
        have f1 := hR2.row.free i
        have f2 := hR2.row.free P
        obtain ⟨x, hx⟩ : ∃ x, d1[i]! = x := ⟨_, rfl⟩
        obtain ⟨y, hy⟩ : ∃ y, d1[P]! = y := ⟨_, rfl⟩
        rw [hx] at v1
        rw [hy] at v2
        obtain ⟨v3, hv3⟩ : ∃ v3, (w2.setCell ⟨g, i, none⟩ (.int .u64 y)).cell? ⟨g, P, none⟩ = some v3 := ⟨_, (hR2.row.set (i := i) (by omega) y).cell (i := P) (by simp; omega)⟩
        have hR3 := hR2.swap' (i := i) (j := P) (by omega) (by omega) hx hy
        have kk1 : (i : Int) < (n : Int) := by omega
        have kk2 : (P : Int) < (n : Int) := by omega
        have HPm := Lib.hid (Sort.permIn_trans _ _ _ a b hpm (Sort.swp_permIn d1 a b i P (by omega) (by omega) (by omega) (by omega) (by omega)))
        have HG3 : Hid (Rng ((w2.setCell ⟨g, i, none⟩ (.int .u64 y)).setCell ⟨g, P, none⟩ (.int .u64 x)) w.heap.size) := Lib.hid (by obtain ⟨c, hc⟩ := hG2; exact ⟨c, ((Below.heap_setCell _ _ _ _ hne).trans (Below.heap_setCell _ _ _ _ hne)).trans hc⟩)
        clear hx hy
        go_wp2
        go_region
        go_wp2
        go_roundw
        case rel => exact ⟨i + 1, swp d1 i P, by omega, by omega, by go_num, by rw [Sort.size_swp]; exact hd1, HPm.out, hR3.drew, HG3.out⟩
        case measure => simp [intOf]; omega
      · have hol' : (l : Int) ≤ (o : Int) := by omega
        obtain ⟨o2, ho2⟩ : ∃ o2 : Nat, o - l = o2 := ⟨_, rfl⟩
        have eo : (o : Int) - (l : Int) = (o2 : Int) := by omega
        obtain ⟨P, hP⟩ : ∃ P : Nat, a + o2 = P := ⟨_, rfl⟩
        have eP : (a : Int) + (o2 : Int) = (P : Int) := by omega
        have v1 := hR2.row.cell (i := i) (by omega)
        have v2 := hR2.row.cell (i := P) (by omega)
        have f1 := hR2.row.free i
        have f2 := hR2.row.free P
        obtain ⟨x, hx⟩ : ∃ x, d1[i]! = x := ⟨_, rfl⟩
        obtain ⟨y, hy⟩ : ∃ y, d1[P]! = y := ⟨_, rfl⟩
        rw [hx] at v1
        rw [hy] at v2
        obtain ⟨v3, hv3⟩ : ∃ v3, (w2.setCell ⟨g, i, none⟩ (.int .u64 y)).cell? ⟨g, P, none⟩ = some v3 := ⟨_, (hR2.row.set (i := i) (by omega) y).cell (i := P) (by simp; omega)⟩
        have hR3 := hR2.swap' (i := i) (j := P) (by omega) (by omega) hx hy
        have kk1 : (i : Int) < (n : Int) := by omega
        have kk2 : (P : Int) < (n : Int) := by omega
        have HPm := Lib.hid (Sort.permIn_trans _ _ _ a b hpm (Sort.swp_permIn d1 a b i P (by omega) (by omega) (by omega) (by omega) (by omega)))
        have HG3 : Hid (Rng ((w2.setCell ⟨g, i, none⟩ (.int .u64 y)).setCell ⟨g, P, none⟩ (.int .u64 x)) w.heap.size) := Lib.hid (by obtain ⟨c, hc⟩ := hG2; exact ⟨c, ((Below.heap_setCell _ _ _ _ hne).trans (Below.heap_setCell _ _ _ _ hne)).trans hc⟩)
        clear hx hy
        go_wp2
        go_region
        go_wp2
        go_roundw
        case rel => exact ⟨i + 1, swp d1 i P, by omega, by omega, by go_num, by rw [Sort.size_swp]; exact hd1, HPm.out, hR3.drew, HG3.out⟩
        case measure => simp [intOf]; omega
    · have hge : (k : Int) + 1 < (i : Int) := by omega
      go_wp2
      go_end0
      exact ⟨rfl, d1, hR, hpm⟩

end Go.Proofs.YtopmmlcjlopmaaaGreatDoor
