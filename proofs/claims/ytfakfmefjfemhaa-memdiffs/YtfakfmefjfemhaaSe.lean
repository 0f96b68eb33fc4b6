/- slices.Sort at uint64, at fewer than fifty: partitionEqualOrdered. -/
import Derived.Test.YtfakfmefjfemhaaSp
import Derived.Deep.CutRange
import Derived.Deep.CutBlock
namespace Go.Proofs.Ytfakfmefjfemhaa
set_option linter.unusedVariables false
set_option linter.unusedSimpArgs false
open Go.ChangeShapes Go.WideShapes Go.ChangeAt Go.RowKit
open Go.Sort (swp ltInt SortedIn scanUp scanDown)

theorem up_go {p : Int → Bool} {d : Array Int} {j i : Nat} (h : i ≤ j) (hp : p d[i]! = true) : scanUp p d j i = scanUp p d j (i + 1) := by
  rw [scanUp, if_pos (by rw [hp]; simp [h])]
theorem up_stop {p : Int → Bool} {d : Array Int} {j i : Nat} (h : ¬ (i ≤ j ∧ p d[i]! = true)) : scanUp p d j i = i := by
  rw [scanUp, if_neg (by simpa using h)]
theorem down_go {p : Int → Bool} {d : Array Int} {i j : Nat} (h : i ≤ j + 1) (hp : p d[j + 1]! = true) : scanDown p d i (j + 1) = scanDown p d i j := by
  simp only [scanDown]; rw [if_pos (by rw [hp]; simp [h])]
theorem down_stop {p : Int → Bool} {d : Array Int} {i j : Nat} (h : ¬ (i ≤ j ∧ p d[j]! = true)) : scanDown p d i j = j := by
  rcases j with _ | j
  · rfl
  · simp only [scanDown]; rw [if_neg (by simpa using h)]

set_option maxRecDepth 100000 in
set_option maxHeartbeats 8000000 in
theorem partEq_any (w : World) (g N cap : Nat) (d : Array Int) (a b pivot : Nat) (hS : Row w g N d) (hp1 : a ≤ pivot) (hp2 : pivot < b) (hb : b ≤ d.size) (hn : d.size < 50) :
    Calls Try.prog 70 #[.slice (some ⟨g, 0, none⟩) d.size cap, .int .i64 a, .int .i64 b, .int .i64 pivot] w fun e w' => e = .returned (.int .i64 (Sort.partitionEqual ltInt d a b pivot).1) ∧ Srt w w' g N (Sort.partitionEqual ltInt d a b pivot).2 ∧ (Sort.partitionEqual ltInt d a b pivot).2.size = d.size := by
  obtain ⟨n, hnd⟩ : ∃ n, d.size = n := ⟨_, rfl⟩
  rw [hnd] at hb hn ⊢
  obtain ⟨R, hR0⟩ : ∃ R, Sort.partitionEqual ltInt d a b pivot = R := ⟨_, rfl⟩
  have HR0 := Lib.hid hR0
  rw [hR0]
  clear hR0
  have v1 := hS.cell (i := a) (by omega)
  have v2 := hS.cell (i := pivot) (by omega)
  have f1 := hS.free a
  have f2 := hS.free pivot
  obtain ⟨x, hx⟩ : ∃ x, d[a]! = x := ⟨_, rfl⟩
  obtain ⟨y, hy⟩ : ∃ y, d[pivot]! = y := ⟨_, rfl⟩
  rw [hx] at v1
  rw [hy] at v2
  obtain ⟨v3, hv3⟩ : ∃ v3, (w.setCell ⟨g, a, none⟩ (.int .u64 y)).cell? ⟨g, pivot, none⟩ = some v3 := ⟨_, (hS.set (i := a) (by omega) y).cell (i := pivot) (by simp; omega)⟩
  have hR1 := (Srt.start hS).swap' (i := a) (j := pivot) (by omega) (by omega) hx hy
  have hsz : (swp d a pivot).size = n := by rw [Sort.size_swp]; exact hnd
  have l1 : (a : Int) < (n : Int) := by omega
  have l2 : (pivot : Int) < (n : Int) := by omega
  clear hx hy
  go_enter Try.func70, Try.ntmps70
  go_wp2
  go_region
  go_wp2
  go_loopg [9, 10] n (fun k u v wr => ∃ (i j : Nat) (d2 : Array Int), j ≤ k ∧ d2.size = n ∧ a + 1 ≤ i ∧ i ≤ n ∧ j < n ∧ u = .int .i64 i ∧ v = .int .i64 j ∧ Sort.partEqLoop ltInt a i j d2 = R ∧ Srt w wr g N d2)
  case atStart => exact ⟨a + 1, b - 1, swp d a pivot, by omega, hsz, by omega, by omega, by omega, by go_num, by go_num, HR0.out, hR1.drew⟩
  case round =>
    obtain ⟨i, j, d2, hjk, hd2, hi1, hi2, hj, rfl, rfl, hE, hR⟩ := hrel
    have HE := Lib.hid ((Sort.partEqLoop_eq ltInt a i j d2).symm.trans hE)
    clear hE
    have c0 := hR.row.cell (i := a) (by omega)
    obtain ⟨p, hp⟩ : ∃ p, d2[a]! = p := ⟨_, rfl⟩
    rw [hp] at c0 HE
    have HP := Lib.hid hp
    clear hp
    obtain ⟨P, hP⟩ : ∃ P : Int → Bool, P = fun x => !ltInt p x := ⟨_, rfl⟩
    obtain ⟨Q, hQ⟩ : ∃ Q : Int → Bool, Q = fun x => ltInt p x := ⟨_, rfl⟩
    rw [← hP, ← hQ] at HE
    have HPQ := Lib.hid (And.intro hP hQ)
    clear hP hQ
    go_upto_block 2 with fail
    go_cut [9] from 29 to 82 (fun v wc => ∃ i1 : Nat, v = .int .i64 i1 ∧ Hid (scanUp P d2 j i = i1) ∧ a + 1 ≤ i1 ∧ i1 ≤ n ∧ Srt w wc g N d2)
    case first =>
      go_wp2
      go_loopw [9] (fun v w1 => ∃ i1 m : Nat, v = .int .i64 i1 ∧ scanUp P d2 j i1 = scanUp P d2 j i ∧ a + 1 ≤ i1 ∧ i1 ≤ n ∧ w1 = wr.drewN m) (fun v _ => (n - intOf v).toNat)
      case atStart => exact ⟨i, 0, rfl, rfl, hi1, hi2, rfl⟩
      case round =>
        obtain ⟨i1, m, rfl, hs1, h1, h2, rfl⟩ := hrel
        have HS1 := Lib.hid hs1
        clear hs1
        by_cases hle : i1 ≤ j
        · have c1 := hR.row.cell (i := i1) (by omega)
          obtain ⟨z, hz⟩ : ∃ z, d2[i1]! = z := ⟨_, rfl⟩
          rw [hz] at c1
          have HZ := Lib.hid hz
          clear hz
          have k1 : (i1 : Int) ≤ (j : Int) := by omega
          have k2 : (i1 : Int) < (n : Int) := by omega
          by_cases hl : ltInt p z = true
          · have E := Lib.hid (HS1.out.symm.trans (up_stop (fun h => by have := h.2; rw [HPQ.out.1, HZ.out] at this; simp [hl] at this)))
            go_wp2
            go_quiet (first | (go_at_call 69; exact quietOf2 (less_any _ _ _)))
            (try rw [hl])
            go_wp2
            go_meet
            case rel => exact ⟨i1, rfl, E.out, h1, h2, (hR.drewN _).drewN _⟩
          · have hl' : ltInt p z = false := by simpa using hl
            have E := Lib.hid ((up_go (p := P) (d := d2) hle (by rw [HPQ.out.1, HZ.out]; simp [hl'])).symm.trans HS1.out)
            clear hl
            go_wp2
            go_quiet (first | (go_at_call 69; exact quietOf2 (less_any _ _ _)))
            (try rw [hl'])
            go_wp2
            go_roundw
            case rel => exact ⟨i1 + 1, _, by go_num, E.out, by omega, by omega, rfl⟩
            case measure => simp [intOf]; omega
        · have E := Lib.hid (HS1.out.symm.trans (up_stop (fun h => hle h.1)))
          have hg : decide ((i1 : Int) ≤ (j : Int)) = false := by simp; omega
          go_wp2
          go_quiet (fail)
          go_wp2
          go_meet
          case rel => exact ⟨i1, rfl, E.out, h1, h2, (hR.drewN _).drewN _⟩
    case rest =>
      obtain ⟨i1, rfl, HS1, h1, h2, hR2⟩ := hcut
      clear hR c0
      have c0 := hR2.row.cell (i := a) (by omega)
      rw [HP.out] at c0
      go_upto_block 4 with fail
      go_cut [10] from 29 to 82 (fun v wc2 => ∃ j1 : Nat, v = .int .i64 j1 ∧ Hid (scanDown Q d2 i1 j = j1) ∧ j1 < n ∧ Srt w wc2 g N d2)
      case first =>
        go_wp2
        go_loopw [10] (fun v w1 => ∃ j1 m : Nat, v = .int .i64 j1 ∧ scanDown Q d2 i1 j1 = scanDown Q d2 i1 j ∧ j1 < n ∧ w1 = wc.drewN m) (fun v _ => (intOf v).toNat)
        case atStart => exact ⟨j, 0, rfl, rfl, hj, rfl⟩
        case round =>
          obtain ⟨j1, m, rfl, hs1, hj1, rfl⟩ := hrel
          have HS2 := Lib.hid hs1
          clear hs1
          by_cases hle : i1 ≤ j1
          · obtain ⟨q, rfl⟩ : ∃ q, j1 = q + 1 := ⟨j1 - 1, by omega⟩
            have c1 := hR2.row.cell (i := q + 1) (by omega)
            obtain ⟨z, hz⟩ : ∃ z, d2[q + 1]! = z := ⟨_, rfl⟩
            rw [hz] at c1
            have HZ := Lib.hid hz
            clear hz
            have k1 : (i1 : Int) ≤ (q : Int) + 1 := by omega
            have k2 : (q : Int) + 1 < (n : Int) := by omega
            have k3 : (q : Int) + 1 - 1 = q := by omega
            by_cases hl : ltInt p z = true
            · have E := Lib.hid ((down_go (p := Q) (d := d2) hle (by rw [HPQ.out.2, HZ.out]; exact hl)).symm.trans HS2.out)
              go_wp2
              go_quiet (first | (go_at_call 69; exact quietOf2 (less_any _ _ _)))
              (try rw [hl])
              go_wp2
              go_roundw
              case rel => exact ⟨q, _, by go_num, E.out, by omega, rfl⟩
              case measure => simp [intOf]
            · have hl' : ltInt p z = false := by simpa using hl
              have E := Lib.hid (HS2.out.symm.trans (down_stop (fun h => by have := h.2; rw [HPQ.out.2, HZ.out] at this; simp [hl'] at this)))
              clear hl
              go_wp2
              go_quiet (first | (go_at_call 69; exact quietOf2 (less_any _ _ _)))
              (try rw [hl'])
              go_wp2
              go_meet
              case rel => exact ⟨q + 1, rfl, E.out, by omega, (hR2.drewN _).drewN _⟩
          · have E := Lib.hid (HS2.out.symm.trans (down_stop (fun h => hle h.1)))
            have hg : decide ((i1 : Int) ≤ (j1 : Int)) = false := by simp; omega
            go_wp2
            go_quiet (fail)
            go_wp2
            go_meet
            case rel => exact ⟨j1, rfl, E.out, by omega, (hR2.drewN _).drewN _⟩
      case rest =>
        obtain ⟨j1, rfl, HS2, hj1, hR3⟩ := hcut
        clear hR2 c0
        rw [HS1.out, HS2.out] at HE
        by_cases hgt : j1 < i1
        · have E := Lib.hid (show ((i1, d2) : Nat × Array Int) = R by rw [← HE.out, if_pos hgt])
          have hgt' : (j1 : Int) < (i1 : Int) := by omega
          go_wp2
          go_ret
          exact ⟨by rw [← E.out]; rfl, by rw [← E.out]; exact hR3, by rw [← E.out]; exact hd2⟩
        · have E := Lib.hid (show Sort.partEqLoop ltInt a (i1 + 1) (j1 - 1) (swp d2 i1 j1) = R by rw [← HE.out, if_neg (by omega)])
          have hle' : (i1 : Int) ≤ (j1 : Int) := by omega
          have v1 := hR3.row.cell (i := i1) (by omega)
          have v2 := hR3.row.cell (i := j1) (by omega)
          have f1 := hR3.row.free i1
          have f2 := hR3.row.free j1
          obtain ⟨x, hx⟩ : ∃ x, d2[i1]! = x := ⟨_, rfl⟩
          obtain ⟨y, hy⟩ : ∃ y, d2[j1]! = y := ⟨_, rfl⟩
          rw [hx] at v1
          rw [hy] at v2
          obtain ⟨v3, hv3⟩ : ∃ v3, (wc.setCell ⟨g, i1, none⟩ (.int .u64 y)).cell? ⟨g, j1, none⟩ = some v3 := ⟨_, (hR3.row.set (i := i1) (by omega) y).cell (i := j1) (by simp; omega)⟩
          have hR4 := hR3.swap' (i := i1) (j := j1) (by omega) (by omega) hx hy
          have k1 : (i1 : Int) < (n : Int) := by omega
          clear hx hy
          go_wp2
          go_region
          go_wp2
          have hjj := Sort.scanDown_le Q d2 i1 j
          rw [HS2.out] at hjj
          go_roundg (j1 - 1)
          case measure => omega
          case rel => exact ⟨i1 + 1, j1 - 1, swp d2 i1 j1, Nat.le_refl _, by rw [Sort.size_swp]; exact hd2, by omega, by omega, by omega, by go_num, by go_num, E.out, hR4.drew⟩

end Go.Proofs.Ytfakfmefjfemhaa
