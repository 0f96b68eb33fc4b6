/- slices.Sort at uint64, at fewer than fifty: pdqsortOrdered. -/
import Derived.Test.YtfakfmefjfemhaaPa
import Derived.Test.YtfakfmefjfemhaaSk
import Derived.Deep.CutRange
import Derived.Deep.CutBlock
import Derived.Deep.Cut
namespace Go.Proofs.Ytfakfmefjfemhaa
set_option linter.unusedVariables false
set_option linter.unusedSimpArgs false
open Go.ChangeShapes Go.WideShapes Go.ChangeAt Go.RowKit
open Go.Sort (swp ltInt SortedIn PermIn Below)

/-- what is sorted and a permutation of dk between a' and b' is so of d between a and b -/
def Done (a b : Nat) (d : Array Int) (a' b' : Nat) (dk : Array Int) : Prop := ∀ R, PermIn a' b' dk R → SortedIn ltInt a' b' R → PermIn a b d R ∧ SortedIn ltInt a b R

theorem Done.perm {a b a' b' : Nat} {d dk d1 : Array Int} (h : Done a b d a' b' dk) (hp : PermIn a' b' dk d1) : Done a b d a' b' d1 := fun R h1 h2 => h R (Sort.permIn_trans _ _ _ _ _ hp h1) h2

theorem wrap_i64 {a : Int} (h0 : 0 ≤ a) (h1 : a < 100) : IntKind.i64.wrap a = a := by
  unfold IntKind.wrap
  simp [IntKind.bits, IntKind.signed]
  omega

set_option maxRecDepth 1000000 in
set_option maxHeartbeats 16000000 in
theorem pdq_any : ∀ (K : Nat) (w : World) (g N cap : Nat) (d : Array Int) (a b limit : Nat) (_ : b - a < K) (_ : Row w g N d) (_ : a ≤ b) (_ : b ≤ d.size) (_ : d.size < 50) (_ : limit ≤ 64) (_ : Below ltInt a b d),
    Calls Try.prog 59 #[.slice (some ⟨g, 0, none⟩) d.size cap, .int .i64 a, .int .i64 b, .int .i64 limit] w fun e w' => e = .returned (.tuple #[]) ∧ ∃ d' : Array Int, Srt w w' g N d' ∧ PermIn a b d d' ∧ SortedIn ltInt a b d' := by
  intro K
  induction K with
  | zero => intro _ _ _ _ _ _ _ _ h; exact absurd h (Nat.not_lt_zero _)
  | succ K ih =>
    intro w g N cap d a b limit hK hS hab hb hn hlimit hBel0
    obtain ⟨n, hnd⟩ : ∃ n, d.size = n := ⟨_, rfl⟩
    rw [hnd] at hb hn ⊢
    have IH := Lib.hid ih
    clear ih
    go_enter Try.func59, Try.ntmps59
    go_wp2
    go_loopg [1, 2, 3, 8, 9] (b - a) (fun k s1 s2 s3 s8 s9 wr => ∃ (a' b' lim : Nat) (wb wp : Bool) (dk : Array Int), s1 = .int .i64 a' ∧ s2 = .int .i64 b' ∧ s3 = .int .i64 lim ∧ s8 = .bool wb ∧ s9 = .bool wp ∧
      a' ≤ b' ∧ b' ≤ n ∧ b' - a' ≤ k ∧ k ≤ b - a ∧ lim ≤ 64 ∧ dk.size = n ∧ Below ltInt a' b' dk ∧ Srt w wr g N dk ∧ Hid (Done a b d a' b' dk))
    case atStart => exact ⟨a, b, limit, true, true, d, rfl, rfl, rfl, rfl, rfl, hab, hb, Nat.le_refl _, Nat.le_refl _, hlimit, hnd, hBel0, Srt.start hS, Lib.hid (fun R h1 h2 => ⟨h1, h2⟩)⟩
    case round =>
      obtain ⟨a', b', lim, wb, wp, dk, rfl, rfl, rfl, rfl, rfl, hab', hb', hk, hkN, hlim, hds, hBel, hR, hD⟩ := hrel
      by_cases h12 : b' - a' ≤ 12
      · have h12z : (b' : Int) - (a' : Int) ≤ 12 := by omega
        have hc := ins_any wr g N cap dk a' b' hR.row hab' (by omega) (by omega)
        rw [hds] at hc
        have h2 := Lib.hid (Sort.insertionSort_holds Sort.swo_ltInt dk a' b' hab' (by omega))
        go_wp2_with (go_at_call 63; refine hc.mono ?_; rintro e w1 ⟨rfl, hw1, _⟩)
        (try simp only [Exit.inBlock, Exit.then]); refine bodyPost_ret (results_none rfl _ _ _) rfl ?_
        exact ⟨rfl, _, hR.trans hw1, hD.out _ h2.out.1 h2.out.2⟩
      · have h12z : ¬ ((b' : Int) - (a' : Int) ≤ 12) := by omega
        by_cases hl0 : lim = 0
        · subst hl0
          have hc := heap_any wr g N cap dk a' b' hR.row hab' (by omega) (by omega)
          rw [hds] at hc
          have h2 := Lib.hid (Sort.heapSort_holds Sort.swo_ltInt dk a' b' hab' (by omega))
          go_wp2_with (go_at_call 64; refine hc.mono ?_; rintro e w1 ⟨rfl, hw1, _⟩)
          (try simp only [Exit.inBlock, Exit.then]); refine bodyPost_ret (results_none rfl _ _ _) rfl ?_
          exact ⟨rfl, _, hR.trans hw1, hD.out _ h2.out.1 h2.out.2⟩
        · have hl0z : ¬ ((lim : Int) = 0) := by omega
          go_upto_if 35 with fail
          go_cut [3] from 19 (fun s3 wc => ∃ (lim1 : Nat) (d1 : Array Int), s3 = .int .i64 lim1 ∧ lim1 ≤ 64 ∧ d1.size = n ∧ PermIn a' b' dk d1 ∧ Srt w wc g N d1)
          case first =>
            cases wb
            · have hc := break_any wr g N cap dk a' b' hR.row (by omega) (by omega) (by omega)
              rw [hds] at hc
              go_wp2_with (go_at_call 65; refine hc.mono ?_; rintro e w1 ⟨rfl, d1, hw1, hp1⟩)
              go_meet
              case rel => exact ⟨lim - 1, d1, by go_num, by omega, hp1.1.trans hds, hp1, hR.trans hw1⟩
            · go_wp2_with fail
              go_meet
              case rel => exact ⟨lim, dk, rfl, hlim, hds, Sort.permIn_refl _ _ _, hR⟩
          case rest =>
            obtain ⟨lim1, d1, rfl, hlim1, hd1, hp1, hR1⟩ := hcut
            have hD1 := Lib.hid (hD.out.perm hp1)
            have hB1 := hBel.perm (by omega) hp1
            clear hR hD hBel hp1 hds hlim hl0 hl0z
            have hc17 := pivot_any wc g N cap d1 a' b' hR1.row (by omega) (by omega) (by omega)
            rw [hd1] at hc17
            go_upto_if 50 with (go_at_call 66; refine hc17.mono ?_; rintro e w2 ⟨p, h, rfl, hp, hh, hw2⟩)
            have hR2 := hR1.trans hw2
            clear hR1 hw2 hc17
            go_cut [11, 12] from 19 (fun s11 s12 wc => ∃ (p2 : Nat) (h2 : Int) (d2 : Array Int), s11 = .int .i64 p2 ∧ s12 = .int .i64 h2 ∧ (a' ≤ p2 ∧ p2 < b') ∧ (h2 = 0 ∨ h2 = 1) ∧ d2.size = n ∧ PermIn a' b' d1 d2 ∧ Srt w wc g N d2)
            case first =>
              by_cases e2 : h = 2
              · subst e2
                have hc18 := rev_any w2 g N cap d1 a' b' hR2.row (by omega) (by omega) (by omega)
                rw [hd1] at hc18
                have h2 := Lib.hid (Sort.reverseRange_holds d1 a' b' hab' (by omega))
                obtain ⟨p2, hp2⟩ : ∃ p2 : Nat, b' - 1 - (p - a') = p2 := ⟨_, rfl⟩
                have ep : (b' : Int) - 1 - ((p : Int) - (a' : Int)) = (p2 : Int) := by omega
                go_wp2_with (go_at_call 67; refine hc18.mono ?_; rintro e w3 ⟨rfl, hw3, hs3⟩)
                go_meet
                case rel => exact ⟨p2, 1, _, by go_num, rfl, by omega, by omega, hs3, h2.out, hR2.trans hw3⟩
              · have e2' : (h == 2) = false := by simpa using e2
                go_wp2_with fail
                go_meet
                case rel => exact ⟨p, h, d1, rfl, rfl, hp, by omega, hd1, Sort.permIn_refl _ _ _, hR2⟩
            case rest =>
              obtain ⟨p2, h2, d2, rfl, rfl, hp2, hh2, hd2, hpm2, hR3⟩ := hcut
              have hD2 := Lib.hid (hD1.out.perm hpm2)
              have hB2 := hB1.perm (by omega) hpm2
              clear hR2 hD1 hB1 hpm2 hd1 hp hh
              go_upto_region 15 with fail
              go_cut [68] from 19 (fun s68 wx => ∃ r : Bool, s68 = .bool r ∧ wx = wc)
              case first =>
                rcases hh2 with rfl | rfl <;> cases wb <;> cases wp <;>
                  (go_wp2_with fail
                   go_meet
                   exact ⟨_, rfl, rfl⟩)
              case rest =>
                obtain ⟨r, rfl, rfl⟩ := hcut
                go_upto_if 68 with fail
                go_cut [] from 19 (fun wx => Srt w wx g N d2)
                case first =>
                  cases r
                  · go_wp2_with fail
                    go_meet
                    case rel => exact hR3
                  · have hc19 := part_any wc g N cap d2 a' b' hR3.row (by omega) (by omega) (by omega)
                    rw [hd2] at hc19
                    go_wp2_with (go_at_call 68; refine hc19.mono ?_; rintro e w4 ⟨r, rfl, hs4, hw4⟩; cases r)
                    · go_meet
                      case rel => exact hR3.trans hw4
                    · (try simp only [Exit.inBlock, Exit.then]); refine bodyPost_ret (results_none rfl _ _ _) rfl ?_
                      exact ⟨rfl, d2, hR3.trans hw4, hD2.out _ (Sort.permIn_refl _ _ _) (hs4 (by trivial))⟩
                case rest =>
                  rename_i wx
                  have hR4 := hcut
                  clear hR3 hcut
                  have c2 := hR4.row.cell (i := p2) (by omega)
                  obtain ⟨y, hy⟩ : ∃ y, d2[p2]! = y := ⟨_, rfl⟩
                  rw [hy] at c2
                  have HY := Lib.hid hy
                  clear hy
                  have kp : (p2 : Int) < (n : Int) := by omega
                  go_upto_region 17 with fail
                  go_cut [87] from 19 (fun s87 wx => ∃ r : Bool, s87 = .bool r ∧ (r = true → 0 < a' ∧ ltInt d2[a' - 1]! d2[p2]! = false) ∧ Srt w wx g N d2)
                  case first =>
                    rcases Nat.eq_zero_or_pos a' with ha0 | ha0
                    · have ha0z : decide ((a' : Int) > 0) = false := decide_eq_false (by omega)
                      go_quiet (fail)
                      go_wp2_with fail
                      go_meet
                      case rel => exact ⟨false, rfl, (fun h => by cases h), hR4.drewN _⟩
                    · obtain ⟨q, rfl⟩ : ∃ q : Nat, a' = q + 1 := ⟨a' - 1, by omega⟩
                      have ha0z : (q : Int) + 1 > 0 := by omega
                      have e1 : ((q : Int) + 1 - 1) = q := by omega
                      have wq : IntKind.i64.wrap (q : Int) = q := wrap_i64 (by omega) (by omega)
                      have c1 := hR4.row.cell (i := q) (by omega)
                      obtain ⟨x, hx⟩ : ∃ x, d2[q]! = x := ⟨_, rfl⟩
                      rw [hx] at c1
                      have HX := Lib.hid hx
                      clear hx
                      have kq : (q : Int) < (n : Int) := by omega
                      go_quiet (first | (go_at_call 69; exact quietOf (less_any _ _ _)))
                      go_wp2_with fail
                      go_meet
                      case rel => exact ⟨!ltInt x y, rfl, (fun h => ⟨ha0, by rw [show q + 1 - 1 = q by omega, HX.out, HY.out]; simpa using h⟩), hR4.drewN _⟩
                  case rest =>
                    obtain ⟨r, rfl, hr, hR5⟩ := hcut
                    clear hR4 c2
                    cases r
                    · obtain ⟨mid, ap, d4, hx⟩ : ∃ mid ap d4, Sort.partition ltInt d2 a' b' p2 = (mid, ap, d4) := ⟨(Sort.partition ltInt d2 a' b' p2).1, (Sort.partition ltInt d2 a' b' p2).2.1, (Sort.partition ltInt d2 a' b' p2).2.2, rfl⟩
                      obtain ⟨r1, r2, r3, r4, r5, r6, r7⟩ := Sort.round_part Sort.swo_ltInt (Sort.partition_holds _) hp2.1 hp2.2 (show b' ≤ d2.size by omega) hB2 hx
                      have hc22 := fun wz hz => partition_any wz g N cap d2 a' b' p2 hz hp2.1 hp2.2 (by omega) (by omega)
                      rw [hd2, hx] at hc22
                      have R6 := Lib.hid r6
                      have R7 := Lib.hid r7
                      have H22 := Lib.hid hc22
                      clear hx r6 r7 hc22
                      go_upto_if 113 with (go_at_call 71; refine (H22.out _ hR5.row).mono ?_; rintro e w7 ⟨rfl, hw7, hs7⟩)
                      have hR7 := hR5.trans hw7
                      clear hR5 hw7
                      by_cases h4 : mid - a' < b' - mid
                      · have h4z : (mid : Int) - (a' : Int) < (b' : Int) - (mid : Int) := by omega
                        have hih := IH.out w7 g N cap d4 a' mid lim1 (by omega) hR7.row (by omega) (by omega) (by omega) hlim1 r4
                        rw [hs7] at hih
                        go_wp2_with (go_at_call 59; refine hih.mono ?_; rintro e w8 ⟨rfl, d8, hw8, hp8, hs8⟩)
                        go_roundg (b' - (mid + 1))
                        case measure => omega
                        case rel => exact ⟨mid + 1, b', lim1, _, ap, d8, by go_num, rfl, rfl, rfl, rfl, by omega, by omega, Nat.le_refl _, by omega, hlim1, hp8.1.trans hs7, (R6.out _ hp8 hs8).1, hR7.trans hw8, Lib.hid (fun R hx1 hx2 => by have hz := (R6.out _ hp8 hs8).2 R hx1 hx2; exact hD2.out R hz.1 hz.2)⟩
                      · have h4z : ¬ ((mid : Int) - (a' : Int) < (b' : Int) - (mid : Int)) := by omega
                        have hih := IH.out w7 g N cap d4 (mid + 1) b' lim1 (by omega) hR7.row (by omega) (by omega) (by omega) hlim1 r5
                        rw [hs7] at hih
                        go_wp2_with (go_at_call 59; refine hih.mono ?_; rintro e w8 ⟨rfl, d8, hw8, hp8, hs8⟩)
                        go_roundg (mid - a')
                        case measure => omega
                        case rel => exact ⟨a', mid, lim1, _, ap, d8, rfl, rfl, rfl, rfl, rfl, by omega, by omega, Nat.le_refl _, by omega, hlim1, hp8.1.trans hs7, (R7.out _ hp8 hs8).1, hR7.trans hw8, Lib.hid (fun R hx1 hx2 => by have hz := (R7.out _ hp8 hs8).2 R hx1 hx2; exact hD2.out R hz.1 hz.2)⟩
                    · obtain ⟨ha0, hlt⟩ := hr rfl
                      obtain ⟨mid, d4, hx⟩ : ∃ mid d4, Sort.partitionEqual ltInt d2 a' b' p2 = (mid, d4) := ⟨(Sort.partitionEqual ltInt d2 a' b' p2).1, (Sort.partitionEqual ltInt d2 a' b' p2).2, rfl⟩
                      obtain ⟨r1, r2, r3, r4, r5⟩ := Sort.round_eq Sort.swo_ltInt (Sort.partitionEqual_holds _) ha0 hp2.1 hp2.2 (show b' ≤ d2.size by omega) hB2 hlt hx
                      have hc21 := fun wz hz => partEq_any wz g N cap d2 a' b' p2 hz hp2.1 hp2.2 (by omega) (by omega)
                      rw [hd2, hx] at hc21
                      have R5 := Lib.hid r5
                      have H21 := Lib.hid hc21
                      clear hx r5 hc21 hr
                      go_wp2_with (go_at_call 70; refine (H21.out _ hR5.row).mono ?_; rintro e w7 ⟨rfl, hw7, hs7⟩)
                      go_roundg (b' - mid)
                      case measure => omega
                      case rel => exact ⟨mid, b', lim1, wb, wp, d4, rfl, rfl, rfl, rfl, rfl, r2, hb', Nat.le_refl _, by omega, hlim1, hs7, r4, hR5.trans hw7, Lib.hid (fun R hx1 hx2 => by have hz := R5.out R hx1 hx2; exact hD2.out R hz.1 hz.2)⟩

end Go.Proofs.Ytfakfmefjfemhaa
