/- Several texts of ours in one: Sq, Sc, Sd. -/
import Derived.Test.YtopmmlcjlopmaaaGreatDoorGPaSbSk
import Derived.Deep.CutRange
import Derived.Deep.CutBlock
import Derived.Deep.Cut
import Derived.Lib.SliceRun
import Derived.Lib.SlicesCompact
/- slices.Sort at uint64, at fewer than fifty: pdqsortOrdered. -/
namespace Go.Proofs.YtopmmlcjlopmaaaGreatDoor
set_option linter.unusedVariables false
set_option linter.unusedSimpArgs false
open Go.ChangeShapes Go.WideShapes Go.ChangeAt Go.RowKit
open Go.Sort (swp ltInt SortedIn PermIn Below)

/-- what is sorted and a permutation of dk between a' and b' is so of d between a and b -/
def Done (a b : Nat) (d : Array Int) (a' b' : Nat) (dk : Array Int) : Prop := ∀ R, PermIn a' b' dk R → SortedIn ltInt a' b' R → PermIn a b d R ∧ SortedIn ltInt a b R

theorem Done.perm {a b a' b' : Nat} {d dk d1 : Array Int} (h : Done a b d a' b' dk) (hp : PermIn a' b' dk d1) : Done a b d a' b' d1 := fun R h1 h2 => h R (Sort.permIn_trans _ _ _ _ _ hp h1) h2

theorem wrap_i64 {a : Int} (h0 : 0 ≤ a) (h1 : a < 100) : IntKind.i64.wrap a = a := by
  unfold IntKind.wrap
  simp [IntKind.bits, IntKind.signed]
  omega

set_option maxRecDepth 1000000 in
set_option maxHeartbeats 16000000 in
theorem pdq_any : ∀ (K : Nat) (w : World) (g N cap : Nat) (d : Array Int) (a b limit : Nat) (_ : b - a < K) (_ : Row w g N d) (_ : a ≤ b) (_ : b ≤ d.size) (_ : d.size < 50) (_ : limit ≤ 64) (_ : Below ltInt a b d),
    Calls Tryz.prog 119 #[.slice (some ⟨g, 0, none⟩) d.size cap, .int .i64 a, .int .i64 b, .int .i64 limit] w fun e w' => e = .returned (.tuple #[]) ∧ ∃ d' : Array Int, Srt w w' g N d' ∧ PermIn a b d d' ∧ SortedIn ltInt a b d' := by
  intro K
  induction K with
  | zero => intro _ _ _ _ _ _ _ _ h; exact absurd h (Nat.not_lt_zero _)
  | succ K ih =>
    intro w g N cap d a b limit hK hS hab hb hn hlimit hBel0
    obtain ⟨n, hnd⟩ : ∃ n, d.size = n := ⟨_, rfl⟩
    rw [hnd] at hb hn ⊢
    have IH := Lib.hid ih
    clear ih
    go_enter Tryz.func119, Tryz.ntmps119
    go_wp2
    go_loopg [1, 2, 3, 8, 9] (b - a) (fun k s1 s2 s3 s8 s9 wr => ∃ (a' b' lim : Nat) (wb wp : Bool) (dk : Array Int), s1 = .int .i64 a' ∧ s2 = .int .i64 b' ∧ s3 = .int .i64 lim ∧ s8 = .bool wb ∧ s9 = .bool wp ∧
      a' ≤ b' ∧ b' ≤ n ∧ b' - a' ≤ k ∧ k ≤ b - a ∧ lim ≤ 64 ∧ dk.size = n ∧ Below ltInt a' b' dk ∧ Srt w wr g N dk ∧ Hid (Done a b d a' b' dk))
    case atStart => exact ⟨a, b, limit, true, true, d, rfl, rfl, rfl, rfl, rfl, hab, hb, Nat.le_refl _, Nat.le_refl _, hlimit, hnd, hBel0, Srt.start hS, Lib.hid (fun R h1 h2 => ⟨h1, h2⟩)⟩
    case round =>
      obtain ⟨a', b', lim, wb, wp, dk, rfl, rfl, rfl, rfl, rfl, hab', hb', hk, hkN, hlim, hds, hBel, hR, hD⟩ := hrel
      by_cases h12 : b' - a' ≤ 12
      · have h12z : (b' : Int) - (a' : Int) ≤ 12 := by omega
        have hc := ins_any wr g N cap dk a' b' hR.row hab' (by omega) (by omega)
        rw [hds] at hc
        have h2 := Lib.hid (Sort.insertionSort_holds Sort.swo_ltInt dk a' b' hab' (by omega))
        go_wp2_with (go_at_call 124; refine hc.mono ?_; rintro e w1 ⟨rfl, hw1, _⟩)
        (try simp only [Exit.inBlock, Exit.then]); refine bodyPost_ret (results_none rfl _ _ _) rfl ?_
        exact ⟨rfl, _, hR.trans hw1, hD.out _ h2.out.1 h2.out.2⟩
      · have h12z : ¬ ((b' : Int) - (a' : Int) ≤ 12) := by omega
        by_cases hl0 : lim = 0
        · subst hl0
          have hc := heap_any wr g N cap dk a' b' hR.row hab' (by omega) (by omega)
          rw [hds] at hc
          have h2 := Lib.hid (Sort.heapSort_holds Sort.swo_ltInt dk a' b' hab' (by omega))
          go_wp2_with (go_at_call 125; refine hc.mono ?_; rintro e w1 ⟨rfl, hw1, _⟩)
          (try simp only [Exit.inBlock, Exit.then]); refine bodyPost_ret (results_none rfl _ _ _) rfl ?_
          exact ⟨rfl, _, hR.trans hw1, hD.out _ h2.out.1 h2.out.2⟩
        · have hl0z : ¬ ((lim : Int) = 0) := by omega
          go_upto_if 35 with fail
          go_cut [3] from 19 (fun s3 wc => ∃ (lim1 : Nat) (d1 : Array Int), s3 = .int .i64 lim1 ∧ lim1 ≤ 64 ∧ d1.size = n ∧ PermIn a' b' dk d1 ∧ Srt w wc g N d1)
          case first =>
            cases wb
            · have hc := break_any wr g N cap dk a' b' hR.row (by omega) (by omega) (by omega)
              rw [hds] at hc
              go_wp2_with (go_at_call 126; refine hc.mono ?_; rintro e w1 ⟨rfl, d1, hw1, hp1⟩)
              go_meet
              case rel => exact ⟨lim - 1, d1, by go_num, by omega, hp1.1.trans hds, hp1, hR.trans hw1⟩
            · go_wp2_with fail
              go_meet
              case rel => exact ⟨lim, dk, rfl, hlim, hds, Sort.permIn_refl _ _ _, hR⟩
          case rest =>
            obtain ⟨lim1, d1, rfl, hlim1, hd1, hp1, hR1⟩ := hcut
            have hD1 := Lib.hid (hD.out.perm hp1)
            have hB1 := hBel.perm (by omega) hp1
            clear hR hD hBel hp1 hds hlim hl0 hl0z
            have hc17 := pivot_any wc g N cap d1 a' b' hR1.row (by omega) (by omega) (by omega)
            rw [hd1] at hc17
            go_upto_if 50 with (go_at_call 127; refine hc17.mono ?_; rintro e w2 ⟨p, h, rfl, hp, hh, hw2⟩)
            have hR2 := hR1.trans hw2
            clear hR1 hw2 hc17
            go_cut [11, 12] from 19 (fun s11 s12 wc => ∃ (p2 : Nat) (h2 : Int) (d2 : Array Int), s11 = .int .i64 p2 ∧ s12 = .int .i64 h2 ∧ (a' ≤ p2 ∧ p2 < b') ∧ (h2 = 0 ∨ h2 = 1) ∧ d2.size = n ∧ PermIn a' b' d1 d2 ∧ Srt w wc g N d2)
            case first =>
              by_cases e2 : h = 2
              · subst e2
                have hc18 := rev_any w2 g N cap d1 a' b' hR2.row (by omega) (by omega) (by omega)
                rw [hd1] at hc18
                have h2 := Lib.hid (Sort.reverseRange_holds d1 a' b' hab' (by omega))
                obtain ⟨p2, hp2⟩ : ∃ p2 : Nat, b' - 1 - (p - a') = p2 := ⟨_, rfl⟩
                have ep : (b' : Int) - 1 - ((p : Int) - (a' : Int)) = (p2 : Int) := by omega
                go_wp2_with (go_at_call 128; refine hc18.mono ?_; rintro e w3 ⟨rfl, hw3, hs3⟩)
                go_meet
                case rel => exact ⟨p2, 1, _, by go_num, rfl, by omega, by omega, hs3, h2.out, hR2.trans hw3⟩
              · have e2' : (h == 2) = false := by simpa using e2
                go_wp2_with fail
                go_meet
                case rel => exact ⟨p, h, d1, rfl, rfl, hp, by omega, hd1, Sort.permIn_refl _ _ _, hR2⟩
            case rest =>
              obtain ⟨p2, h2, d2, rfl, rfl, hp2, hh2, hd2, hpm2, hR3⟩ := hcut
              have hD2 := Lib.hid (hD1.out.perm hpm2)
              have hB2 := hB1.perm (by omega) hpm2
              clear hR2 hD1 hB1 hpm2 hd1 hp hh
              go_upto_region 15 with fail
              go_cut [68] from 19 (fun s68 wx => ∃ r : Bool, s68 = .bool r ∧ wx = wc)
              case first =>
                rcases hh2 with rfl | rfl <;> cases wb <;> cases wp <;>
                  (go_wp2_with fail
                   go_meet
                   exact ⟨_, rfl, rfl⟩)
              case rest =>
                obtain ⟨r, rfl, rfl⟩ := hcut
                go_upto_if 68 with fail
                go_cut [] from 19 (fun wx => Srt w wx g N d2)
                case first =>
                  cases r
                  · go_wp2_with fail
                    go_meet
                    case rel => exact hR3
                  · have hc19 := sPart_any wc g N cap d2 a' b' hR3.row (by omega) (by omega) (by omega)
                    rw [hd2] at hc19
                    go_wp2_with (go_at_call 129; refine hc19.mono ?_; rintro e w4 ⟨r, rfl, hs4, hw4⟩; cases r)
                    · go_meet
                      case rel => exact hR3.trans hw4
                    · (try simp only [Exit.inBlock, Exit.then]); refine bodyPost_ret (results_none rfl _ _ _) rfl ?_
                      exact ⟨rfl, d2, hR3.trans hw4, hD2.out _ (Sort.permIn_refl _ _ _) (hs4 (by trivial))⟩
                case rest =>
                  rename_i wx
                  have hR4 := hcut
                  clear hR3 hcut
                  have c2 := hR4.row.cell (i := p2) (by omega)
                  obtain ⟨y, hy⟩ : ∃ y, d2[p2]! = y := ⟨_, rfl⟩
                  rw [hy] at c2
                  have HY := Lib.hid hy
                  clear hy
                  have kp : (p2 : Int) < (n : Int) := by omega
                  go_upto_region 17 with fail
                  go_cut [87] from 19 (fun s87 wx => ∃ r : Bool, s87 = .bool r ∧ (r = true → 0 < a' ∧ ltInt d2[a' - 1]! d2[p2]! = false) ∧ Srt w wx g N d2)
                  case first =>
                    rcases Nat.eq_zero_or_pos a' with ha0 | ha0
                    · have ha0z : decide ((a' : Int) > 0) = false := decide_eq_false (by omega)
                      go_quiet (fail)
                      go_wp2_with fail
                      go_meet
                      case rel => exact ⟨false, rfl, (fun h => by cases h), hR4.drewN _⟩
                    · obtain ⟨q, rfl⟩ : ∃ q : Nat, a' = q + 1 := ⟨a' - 1, by omega⟩
                      have ha0z : (q : Int) + 1 > 0 := by omega
                      have e1 : ((q : Int) + 1 - 1) = q := by omega
                      have wq : IntKind.i64.wrap (q : Int) = q := wrap_i64 (by omega) (by omega)
                      have c1 := hR4.row.cell (i := q) (by omega)
                      obtain ⟨x, hx⟩ : ∃ x, d2[q]! = x := ⟨_, rfl⟩
                      rw [hx] at c1
                      have HX := Lib.hid hx
                      clear hx
                      have kq : (q : Int) < (n : Int) := by omega
                      go_quiet (first | (go_at_call 130; exact quietOf (less_any _ _ _)))
                      go_wp2_with fail
                      go_meet
                      case rel => exact ⟨!ltInt x y, rfl, (fun h => ⟨ha0, by rw [show q + 1 - 1 = q by omega, HX.out, HY.out]; simpa using h⟩), hR4.drewN _⟩
                  case rest =>
                    obtain ⟨r, rfl, hr, hR5⟩ := hcut
                    clear hR4 c2
                    cases r
                    · obtain ⟨mid, ap, d4, hx⟩ : ∃ mid ap d4, Sort.partition ltInt d2 a' b' p2 = (mid, ap, d4) := ⟨(Sort.partition ltInt d2 a' b' p2).1, (Sort.partition ltInt d2 a' b' p2).2.1, (Sort.partition ltInt d2 a' b' p2).2.2, rfl⟩
                      obtain ⟨r1, r2, r3, r4, r5, r6, r7⟩ := Sort.round_part Sort.swo_ltInt (Sort.partition_holds _) hp2.1 hp2.2 (show b' ≤ d2.size by omega) hB2 hx
                      have hc22 := fun wz hz => partition_any wz g N cap d2 a' b' p2 hz hp2.1 hp2.2 (by omega) (by omega)
                      rw [hd2, hx] at hc22
                      have R6 := Lib.hid r6
                      have R7 := Lib.hid r7
                      have H22 := Lib.hid hc22
                      clear hx r6 r7 hc22
                      go_upto_if 113 with (go_at_call 132; refine (H22.out _ hR5.row).mono ?_; rintro e w7 ⟨rfl, hw7, hs7⟩)
                      have hR7 := hR5.trans hw7
                      clear hR5 hw7
                      by_cases h4 : mid - a' < b' - mid
                      · have h4z : (mid : Int) - (a' : Int) < (b' : Int) - (mid : Int) := by omega
                        have hih := IH.out w7 g N cap d4 a' mid lim1 (by omega) hR7.row (by omega) (by omega) (by omega) hlim1 r4
                        rw [hs7] at hih
                        go_wp2_with (go_at_call 119; refine hih.mono ?_; rintro e w8 ⟨rfl, d8, hw8, hp8, hs8⟩)
                        go_roundg (b' - (mid + 1))
                        case measure => omega
                        case rel => exact ⟨mid + 1, b', lim1, _, ap, d8, by go_num, rfl, rfl, rfl, rfl, by omega, by omega, Nat.le_refl _, by omega, hlim1, hp8.1.trans hs7, (R6.out _ hp8 hs8).1, hR7.trans hw8, Lib.hid (fun R hx1 hx2 => by have hz := (R6.out _ hp8 hs8).2 R hx1 hx2; exact hD2.out R hz.1 hz.2)⟩
                      · have h4z : ¬ ((mid : Int) - (a' : Int) < (b' : Int) - (mid : Int)) := by omega
                        have hih := IH.out w7 g N cap d4 (mid + 1) b' lim1 (by omega) hR7.row (by omega) (by omega) (by omega) hlim1 r5
                        rw [hs7] at hih
                        go_wp2_with (go_at_call 119; refine hih.mono ?_; rintro e w8 ⟨rfl, d8, hw8, hp8, hs8⟩)
                        go_roundg (mid - a')
                        case measure => omega
                        case rel => exact ⟨a', mid, lim1, _, ap, d8, rfl, rfl, rfl, rfl, rfl, by omega, by omega, Nat.le_refl _, by omega, hlim1, hp8.1.trans hs7, (R7.out _ hp8 hs8).1, hR7.trans hw8, Lib.hid (fun R hx1 hx2 => by have hz := (R7.out _ hp8 hs8).2 R hx1 hx2; exact hD2.out R hz.1 hz.2)⟩
                    · obtain ⟨ha0, hlt⟩ := hr rfl
                      obtain ⟨mid, d4, hx⟩ : ∃ mid d4, Sort.partitionEqual ltInt d2 a' b' p2 = (mid, d4) := ⟨(Sort.partitionEqual ltInt d2 a' b' p2).1, (Sort.partitionEqual ltInt d2 a' b' p2).2, rfl⟩
                      obtain ⟨r1, r2, r3, r4, r5⟩ := Sort.round_eq Sort.swo_ltInt (Sort.partitionEqual_holds _) ha0 hp2.1 hp2.2 (show b' ≤ d2.size by omega) hB2 hlt hx
                      have hc21 := fun wz hz => partEq_any wz g N cap d2 a' b' p2 hz hp2.1 hp2.2 (by omega) (by omega)
                      rw [hd2, hx] at hc21
                      have R5 := Lib.hid r5
                      have H21 := Lib.hid hc21
                      clear hx r5 hc21 hr
                      go_wp2_with (go_at_call 131; refine (H21.out _ hR5.row).mono ?_; rintro e w7 ⟨rfl, hw7, hs7⟩)
                      go_roundg (b' - mid)
                      case measure => omega
                      case rel => exact ⟨mid, b', lim1, wb, wp, d4, rfl, rfl, rfl, rfl, rfl, r2, hb', Nat.le_refl _, by omega, hlim1, hs7, r4, hR5.trans hw7, Lib.hid (fun R hx1 hx2 => by have hz := R5.out R hx1 hx2; exact hD2.out R hz.1 hz.2)⟩

end Go.Proofs.YtopmmlcjlopmaaaGreatDoor
/- slices.Sort and slices.Compact at uint64, at fewer than fifty. -/
namespace Go.Proofs.YtopmmlcjlopmaaaGreatDoor
set_option linter.unusedVariables false
set_option linter.unusedSimpArgs false
open Go.ChangeShapes Go.WideShapes Go.ChangeAt Go.RowKit Go.Lib
open Go.Sort (swp ltInt SortedIn PermIn Below)

set_option maxRecDepth 100000 in
theorem lenT_le (l : Nat) (h : l < 50) : ∃ k : Nat, (lenT l : Int) = (k : Int) ∧ k ≤ 64 := by
  have : ∀ l : Fin 50, ∃ k : Fin 65, (lenT l.1 : Int) = (k.1 : Int) := by decide
  obtain ⟨k, hk⟩ := this ⟨l, h⟩
  exact ⟨k.1, hk, by omega⟩

theorem sort_any (w : World) (g N cap : Nat) (d : Array Int) (hS : Row w g N d) (hn : d.size < 50) :
    Calls Tryz.prog 94 #[.slice (some ⟨g, 0, none⟩) d.size cap] w fun e w' => e = .returned (.tuple #[]) ∧ ∃ d' : Array Int, Srt w w' g N d' ∧ PermIn 0 d.size d d' ∧ SortedIn ltInt 0 d.size d' := by
  obtain ⟨k, hk, hk64⟩ := lenT_le d.size hn
  have H := Lib.hid (pdq_any (d.size + 1) w g N cap d 0 d.size k (by omega) hS (Nat.zero_le _) (Nat.le_refl _) hn hk64 (Or.inl rfl))
  have HL := Lib.hid (len_any d.size w hn)
  obtain ⟨n, hnd⟩ : ∃ n, d.size = n := ⟨_, rfl⟩
  rw [hnd] at H HL hn hk ⊢
  rw [hk] at HL
  go_enter Tryz.func94, Tryz.ntmps94
  go_wp2_with fail
  refine HL.out.mono ?_
  rintro e w1 ⟨rfl, rfl⟩
  go_wp2_with fail
  refine H.out.mono ?_
  rintro e w1 ⟨rfl, d', h1, h2, h3⟩
  go_wp2
  go_end0
  exact ⟨rfl, d', h1, h2, h3⟩

theorem ins_nil (w : World) : Calls Tryz.prog 124 #[.slice none 0 0, .int .i64 0, .int .i64 0] w fun e w' => e = .returned (.tuple #[]) ∧ w = w' := by
  go_enter Tryz.func124, Tryz.ntmps124
  go_wp2
  refine wp_loop_rounds 1 ?_
  rw [rounds_succ]
  go_wp2
  go_end0
  exact ⟨rfl, rfl⟩

theorem pdq_nil (w : World) (k : Int) : Calls Tryz.prog 119 #[.slice none 0 0, .int .i64 0, .int .i64 0, .int .i64 k] w fun e w' => e = .returned (.tuple #[]) ∧ w = w' := by
  go_enter Tryz.func119, Tryz.ntmps119
  go_wp2
  refine wp_loop_rounds 1 ?_
  rw [rounds_succ]
  go_wp2_with (go_at_call 124; refine (ins_nil _).mono ?_; rintro e w1 ⟨rfl, rfl⟩)
  (try simp only [Exit.inBlock, Exit.then]); refine bodyPost_ret (results_none rfl _ _ _) rfl ?_
  exact ⟨rfl, rfl⟩

theorem sort_nil (w : World) : Calls Tryz.prog 94 #[.slice none 0 0] w fun e w' => e = .returned (.tuple #[]) ∧ w = w' := by
  go_enter Tryz.func94, Tryz.ntmps94
  go_wp2_with fail
  refine (len_any 0 w (by omega)).mono ?_
  rintro e w1 ⟨rfl, rfl⟩
  go_wp2_with fail
  refine (pdq_nil w _).mono ?_
  rintro e w1 ⟨rfl, rfl⟩
  go_wp2
  go_end0
  exact ⟨rfl, rfl⟩

theorem Srt.set {w w' : World} {g N : Nat} {d : Array Int} (h : Srt w w' g N d) {i : Nat} (hi : i < d.size) (x : Int) : Srt w (w'.setCell ⟨g, i, none⟩ (.int .u64 x)) g N (d.setIfInBounds i x) :=
  ⟨h.turn.trans (Turn.setCell _ _ _ _ (Or.inl rfl)), h.row.set hi x⟩

theorem Srt.sets {w : World} {g N : Nat} : ∀ (xs : List Int) (d : Array Int) (w' : World) (k : Nat), Srt w w' g N d → k + xs.length ≤ d.size → Srt w (w'.setCells g k (xs.map (Value.int .u64))) g N (lay d k xs)
  | [], _, _, _, h, _ => h
  | x :: r, d, w', k, h, hk => by
    have hl : k + (r.length + 1) ≤ d.size := by simpa using hk
    exact Srt.sets r _ _ (k + 1) (h.set (i := k) (by omega) x) (by simp; omega)

theorem Row.pre {w : World} {g N : Nat} {d d' : Array Int} (h : Row w g N d) (hs : d'.size ≤ d.size) (he : ∀ i, i < d'.size → d'[i]! = d[i]!) : Row w g N d' := by
  obtain ⟨c, hc, hN, hd, hv⟩ := h
  exact ⟨c, hc, hN, by omega, fun i hi => by rw [hv i (by omega), he i hi]⟩

theorem comp_get {d dk : Array Int} {k : Nat} (h : CompInv d d.size k dk) : (compactUpTo d d.size).toArray.size = k ∧ ∀ i, i < k → (compactUpTo d d.size).toArray[i]! = dk[i]! := by
  refine ⟨by simpa using h.len, fun i hi => ?_⟩
  have := h.low i hi
  have hl : i < (compactUpTo d d.size).toArray.size := by simp [h.len]; exact hi
  rw [getElem!_pos _ i hl]
  simp only [List.getElem_toArray]
  rw [List.getElem?_eq_getElem (by rw [h.len]; exact hi)] at this
  exact Option.some.inj this

theorem lay_low {dk : Array Int} {k : Nat} {xs : List Int} (h : k + xs.length ≤ dk.size) {i : Nat} (hi : i < k) : (lay dk k xs)[i]! = dk[i]! := by
  have e := lay_get? xs dk k i h
  rw [if_neg (by omega)] at e
  rw [Array.getElem!_eq_getD, Array.getElem!_eq_getD, Array.getD_eq_getD_getElem?, Array.getD_eq_getD_getElem?, e]

theorem lay_size : ∀ (xs : List Int) (d : Array Int) (k : Nat), (lay d k xs).size = d.size
  | [], _, _ => rfl
  | x :: r, d, k => by rw [lay, lay_size r]; simp

set_option maxRecDepth 100000 in
set_option maxHeartbeats 8000000 in
theorem compact_any (w : World) (g N cap : Nat) (d : Array Int) (hS : Row w g N d) (hn : d.size < 50) (hcap : d.size ≤ cap) :
    Calls Tryz.prog 95 #[.slice (some ⟨g, 0, none⟩) d.size cap] w fun e w' => e = .returned (.slice (some ⟨g, 0, none⟩) (compactUpTo d d.size).length cap) ∧ Srt w w' g N (compactUpTo d d.size).toArray := by
  have HA : Hid (∀ q, (∀ j, j < d.size → keeps d j = true) → (compactUpTo d d.size).length = d.size ∧ Srt w (w.drewN q) g N (compactUpTo d d.size).toArray) := Lib.hid (by
    intro q hall
    have e : compactUpTo d d.size = d.toList := by rw [compactUpTo_all d _ hall, range_map_get]
    rw [e]
    exact ⟨by simp, (Srt.start hS).drewN q⟩)
  have HD : Hid (∀ k dk w', CompInv d d.size k dk → Srt w w' g N dk → k < d.size → (compactUpTo d d.size).length = k ∧ Srt w (w'.setCells g k ((List.replicate (d.size - k) 0).map (Value.int .u64))) g N (compactUpTo d d.size).toArray) := Lib.hid (by
    intro k dk w' hI hR hk
    obtain ⟨e1, e2⟩ := comp_get hI
    have hs := hI.size
    have h1 := Srt.sets (List.replicate (d.size - k) 0) dk w' k hR (by simp; omega)
    refine ⟨hI.len, h1.turn, h1.row.pre (by rw [e1, lay_size]; omega) fun i hi => ?_⟩
    rw [e2 i (by omega), lay_low (by simp; omega) (by omega)])
  obtain ⟨n, hnd⟩ : ∃ n, d.size = n := ⟨_, rfl⟩
  obtain ⟨C, hC⟩ : ∃ C, compactUpTo d d.size = C := ⟨_, rfl⟩
  rw [hC] at HA HD ⊢
  rw [hnd] at HA HD hn hcap ⊢
  clear hC
  by_cases h2 : n < 2
  · have h2' : (n : Int) < 2 := by omega
    go_enter Tryz.func95, Tryz.ntmps95
    go_wp2
    go_ret
    obtain ⟨e1, e2⟩ := HA.out 0 (fun j hj => keeps_lt_one d j (by omega))
    exact ⟨by rw [e1]; rfl, e2⟩
  · have h2' : (2 : Int) ≤ (n : Int) := by omega
    go_enter Tryz.func95, Tryz.ntmps95
    go_wp2
    go_loopg [3] n (fun g1 s3 wr => ∃ k q : Nat, 1 ≤ k ∧ k ≤ n ∧ n - k ≤ g1 ∧ s3 = .int .i64 k ∧ wr = w.drewN q ∧ Hid (∀ j, j < k → keeps d j = true))
    case atStart => exact ⟨1, 0, Nat.le_refl _, by omega, by omega, rfl, rfl, Lib.hid (keeps_lt_one d)⟩
    case round =>
      obtain ⟨k, q, hk1, hk, hg, rfl, rfl, hall⟩ := hrel
      by_cases hlt : k < n
      · obtain ⟨j, rfl⟩ : ∃ j, k = j + 1 := ⟨k - 1, by omega⟩
        have c1 := hS.cell (i := j + 1) (by omega)
        have c0 := hS.cell (i := j) (by omega)
        obtain ⟨x, hx⟩ : ∃ x, d[j + 1]! = x := ⟨_, rfl⟩
        obtain ⟨y, hy⟩ : ∃ y, d[j]! = y := ⟨_, rfl⟩
        rw [hx] at c1
        rw [hy] at c0
        have HXY := Lib.hid (And.intro hx hy)
        clear hx hy
        have e1 : ((j : Int) + 1 - 1) = j := by omega
        have kk1 : (j : Int) + 1 < (n : Int) := by omega
        by_cases hdup : x = y
        · subst hdup
          have eb : (x == x) = true := by simp
          have HI := Lib.hid (CompInv.start hall.out (keeps_neg (by omega) (by rw [HXY.out.1, show j + 1 - 1 = j by omega, HXY.out.2])))
          go_wp2
          go_quiet (fail)
          go_wp2
          go_loopg [3, 5] n (fun g1 s3 s5 wr => ∃ (kk k2 : Nat) (dk : Array Int), s3 = .int .i64 kk ∧ s5 = .int .i64 k2 ∧ 1 ≤ k2 ∧ j + 1 + k2 ≤ n ∧ n - (j + 1 + k2) ≤ g1 ∧ Srt w wr g N dk ∧ kk < j + 1 + k2 ∧ dk.size = n ∧ Hid (CompInv d (j + 1 + k2) kk dk))
          case atStart => exact ⟨j + 1, 1, d, by go_num, rfl, Nat.le_refl _, by omega, by omega, (Srt.start hS).drewN _, by omega, hnd, HI⟩
          case round =>
            obtain ⟨kk, k2, dk, rfl, rfl, h1, hle, hg2, hR, hkk, hds, hI⟩ := hrel
            by_cases hlt2 : j + 1 + k2 < n
            · obtain ⟨p, rfl⟩ : ∃ p, k2 = p + 1 := ⟨k2 - 1, by omega⟩
              have cm := hR.row.cell (i := j + 1 + (p + 1)) (by omega)
              have cp := hR.row.cell (i := j + 1 + p) (by omega)
              have ck := hR.row.cell (i := kk) (by omega)
              have fk := hR.row.free kk
              rw [hI.out.high (j + 1 + (p + 1)) (by omega)] at cm
              rw [hI.out.high (j + 1 + p) (by omega)] at cp
              obtain ⟨u, hu⟩ : ∃ u, d[j + 1 + (p + 1)]! = u := ⟨_, rfl⟩
              obtain ⟨v, hv⟩ : ∃ v, d[j + 1 + p]! = v := ⟨_, rfl⟩
              obtain ⟨old, ho⟩ : ∃ old, dk[kk]! = old := ⟨_, rfl⟩
              rw [hu] at cm
              rw [hv] at cp
              rw [ho] at ck
              have HUV := Lib.hid (And.intro hu hv)
              clear hu hv ho
              have e2 : ((p : Int) + 1 - 1) = p := by omega
              have kk2 : (j : Int) + 1 + ((p : Int) + 1) < (n : Int) := by omega
              have kk3 : (kk : Int) < (n : Int) := by omega
              by_cases huv : u = v
              · subst huv
                have eb2 : (u != u) = false := by simp
                have HN := Lib.hid (hI.out.skip (keeps_neg (by omega) (by rw [HUV.out.1, show j + 1 + (p + 1) - 1 = j + 1 + p by omega, HUV.out.2])))
                go_wp2
                go_quiet (fail)
                go_wp2
                go_roundg (n - (j + 1 + (p + 1 + 1)))
                case measure => omega
                case rel => exact ⟨kk, p + 1 + 1, dk, rfl, by go_num, by omega, by omega, Nat.le_refl _, hR.drewN _, by omega, hds, HN⟩
              · have eb2 : (u != v) = true := by simpa using huv
                have HN := Lib.hid (by have := hI.out.keep (by omega) (keeps_pos (by rw [HUV.out.1, show j + 1 + (p + 1) - 1 = j + 1 + p by omega, HUV.out.2]; exact huv)); rw [HUV.out.1] at this; exact this)
                go_wp2
                go_quiet (fail)
                go_wp2
                go_roundg (n - (j + 1 + (p + 1 + 1)))
                case measure => omega
                case rel => exact ⟨kk + 1, p + 1 + 1, dk.setIfInBounds kk u, by go_num, by go_num, by omega, by omega, Nat.le_refl _, (hR.drewN _).set (i := kk) (by omega) u, by omega, by simp [hds], HN⟩
            · have hend : j + 1 + k2 = n := by omega
              have hcl : ∀ ty, (Builtin.clear_ #[43] ty #[.slice (some ⟨g, kk, none⟩) (n - kk) (cap - kk)]).run Tryz.prog wr = .ok (.tuple #[]) (wr.setCells g kk (List.replicate (n - kk) (.int .u64 0))) :=
                fun ty => Lib.run_clear_slice wr _ _ ty _ Tryz.underlying43 Tryz.zeroValue23 rfl rfl g kk _ _ (by omega) (fun i hi => by rw [hR.row.cell (i := kk + i) (by omega)]; rfl) (fun i hi => hR.row.free (kk + i))
              have HE := Lib.hid (HD.out kk dk wr (hend ▸ hI.out) hR (by omega))
              go_wp2
              go_ret
              refine ⟨by rw [HE.out.1]; rfl, ?_⟩
              have := HE.out.2
              rw [List.map_replicate] at this
              exact this
        · have eb : (x == y) = false := by simpa using hdup
          have HN : Hid (∀ i, i < j + 1 + 1 → keeps d i = true) := Lib.hid (by
            intro i hi
            by_cases e : i = j + 1
            · subst e
              exact keeps_pos (by rw [HXY.out.1, show j + 1 - 1 = j by omega, HXY.out.2]; exact hdup)
            · exact hall.out i (by omega))
          go_wp2
          go_quiet (fail)
          go_wp2
          go_roundg (n - (j + 1 + 1))
          case measure => omega
          case rel => exact ⟨j + 1 + 1, _, by omega, by omega, Nat.le_refl _, by go_num, rfl, HN⟩
      · have hkn : k = n := by omega
        subst hkn
        go_wp2
        go_ret
        obtain ⟨e1, e2⟩ := HA.out q hall.out
        exact ⟨by rw [e1]; rfl, e2⟩

theorem compact_nil (w : World) : Calls Tryz.prog 95 #[.slice none 0 0] w fun e w' => e = .returned (.slice none 0 0) ∧ w = w' := by
  go_enter Tryz.func95, Tryz.ntmps95
  go_wp2
  go_ret
  exact ⟨rfl, rfl⟩

end Go.Proofs.YtopmmlcjlopmaaaGreatDoor
/- slices.Sort and slices.Compact at uint64, over lists: what lies in a row of one's own. -/
namespace Go.Proofs.YtopmmlcjlopmaaaGreatDoor
set_option linter.unusedVariables false
set_option linter.unusedSimpArgs false
open Go.ChangeShapes Go.WideShapes Go.ChangeAt Go.RowKit Go.Lib
open Go.Sort (swp ltInt SortedIn PermIn Below)

/-- v is a slice of one's own, behind block B, with the words zs -/
def Lst (w : World) (B : Nat) (v : Value) (zs : List Int) : Prop := w.ownsRow B 23 1 v zs.length (zs.map (Value.int .u64))

theorem Lst.form {w : World} {B : Nat} {v : Value} {zs : List Int} (h : Lst w B v zs) : (v = .slice none 0 0 ∧ zs = []) ∨ ∃ g cap, v = .slice (some ⟨g, 0, none⟩) zs.length cap ∧ B ≤ g ∧ zs.length ≤ cap ∧ cap ≤ maxLen ∧ Row w g cap zs.toArray := by
  rcases h.2 with ⟨h1, h2⟩ | ⟨g, cap, cur, h1, h2, h3, h4, h5, h6, h7⟩
  · exact Or.inl ⟨h1, List.length_eq_zero_iff.1 h2⟩
  · refine Or.inr ⟨g, cap, h1, h2, h4, h5, cur, h3, by omega, by simpa using h4, fun i hi => ?_⟩
    have hi' : i < zs.length := by simpa using hi
    have e : (cur.toList.take (zs.length * 1))[i]? = (zs.map (Value.int .u64))[i]? := by rw [h7]
    rw [List.getElem?_take, if_pos (by omega), Array.getElem?_toList] at e
    rw [e, List.getElem?_map, List.getElem?_eq_getElem hi']
    simp [getElem!_pos, hi']

theorem Row.lst {w : World} {B g cap : Nat} {d : Array Int} (h : Row w g cap d) (hB : B ≤ g) (hc : cap ≤ maxLen) : Lst w B (.slice (some ⟨g, 0, none⟩) d.toList.length cap) d.toList := by
  obtain ⟨c, h1, h2, h3, h4⟩ := h
  refine ⟨by simp, Or.inr ⟨g, cap, c, rfl, hB, h1, by simpa using h3, hc, by omega, ?_⟩⟩
  apply List.ext_getElem?
  intro i
  rw [List.getElem?_take]
  by_cases hi : i < d.size
  · rw [if_pos (by simpa using hi), Array.getElem?_toList, h4 i hi, List.getElem?_map, Array.getElem?_toList, Array.getElem?_eq_getElem hi, getElem!_pos d i hi]
    rfl
  · rw [if_neg (by simpa using hi), List.getElem?_map, Array.getElem?_toList, Array.getElem?_eq_none (by omega)]
    rfl

theorem Lst.len {w : World} {B : Nat} {v : Value} {zs : List Int} (h : Lst w B v zs) : ∃ A c, v = .slice A zs.length c := by
  rcases h.form with ⟨h1, h2⟩ | ⟨g, cap, h1, _⟩
  · exact ⟨none, 0, by rw [h1, h2]; rfl⟩
  · exact ⟨_, _, h1⟩

theorem below_refl (B : Nat) (w : World) : Go.RowKit.Below B w w := Go.RowKit.Below.refl B w

theorem Srt.below {w w' : World} {g N B : Nat} {d : Array Int} (h : Srt w w' g N d) (hg : B ≤ g) (hB : B ≤ w.heap.size) : Go.RowKit.Below B w w' := h.turn.below (fun i hi => by rw [hi]; exact hg) hB

theorem sort_lst (w : World) (B : Nat) (v : Value) (zs : List Int) (h : Lst w B v zs) (hB : B ≤ w.heap.size) (hn : zs.length < 50) :
    Calls Tryz.prog 94 #[v] w fun e w' => e = .returned (.tuple #[]) ∧ ∃ zs', zs'.Perm zs ∧ zs'.Pairwise (· ≤ ·) ∧ Lst w' B v zs' ∧ Go.RowKit.Below B w w' := by
  rcases h.form with ⟨rfl, rfl⟩ | ⟨g, cap, rfl, h2, h3, h4, h5⟩
  · refine (sort_nil w).mono ?_
    rintro e w' ⟨rfl, rfl⟩
    exact ⟨rfl, [], List.Perm.refl _, List.Pairwise.nil, h, below_refl _ _⟩
  · have := sort_any w g cap cap zs.toArray h5 (by simpa using hn)
    rw [List.size_toArray] at this
    refine this.mono ?_
    rintro e w' ⟨rfl, d', k1, k2, k3⟩
    have hs : d'.size = zs.length := by simpa using k2.1
    have hl : d'.toList.length = zs.length := by simpa using hs
    refine ⟨rfl, d'.toList, ?_, ?_, ?_, k1.below h2 hB⟩
    · have := k2.2.2
      rw [← hs, Array.extract_size] at this
      rw [hs] at this
      simpa using this
    · rw [List.pairwise_iff_getElem]
      intro i j hi hj hij
      have := k3 i j (Nat.zero_le _) hij (by omega)
      rw [getElem!_pos d' i (by simpa using hi), getElem!_pos d' j (by simpa using hj)] at this
      simp only [ltInt, decide_eq_false_iff_not] at this
      simp only [Array.getElem_toList]
      omega
    · rw [← hl]
      exact k1.row.lst h2 h4

theorem comp_rising {d : Array Int} (hs : ∀ i j, i < j → j < d.size → d[i]! ≤ d[j]!) : ∀ m, m ≤ d.size → (compactUpTo d m).Pairwise (· < ·) ∧ (∀ x, x ∈ compactUpTo d m ↔ ∃ i, i < m ∧ d[i]! = x) := by
  intro m
  induction m with
  | zero => intro _; exact ⟨by simp [compactUpTo], by simp [compactUpTo]⟩
  | succ m ih =>
    intro hm
    obtain ⟨h1, h2⟩ := ih (by omega)
    rw [compactUpTo_succ]
    by_cases hk : keeps d m = true
    · rw [if_pos hk]
      refine ⟨List.pairwise_append.2 ⟨h1, by simp, fun x hx y hy => ?_⟩, fun x => ?_⟩
      · simp at hy; subst hy
        obtain ⟨i, hi, rfl⟩ := (h2 x).1 hx
        have h3 : m ≠ 0 := by omega
        have h4 : d[m]! ≠ d[m - 1]! := by simpa [keeps, h3] using hk
        have h5 := hs (m - 1) m (by omega) (by omega)
        have h6 : d[i]! ≤ d[m - 1]! := by
          by_cases e : i = m - 1
          · rw [e]; exact Int.le_refl _
          · exact hs i (m - 1) (by omega) (by omega)
        omega
      · rw [List.mem_append, h2 x]
        constructor
        · rintro (⟨i, hi, e⟩ | hx)
          · exact ⟨i, by omega, e⟩
          · simp at hx; exact ⟨m, by omega, hx.symm⟩
        · rintro ⟨i, hi, e⟩
          by_cases him : i = m
          · subst him; right; simp [e]
          · left; exact ⟨i, by omega, e⟩
    · have hk' : keeps d m = false := by simpa using hk
      have h3 : m ≠ 0 := by intro e; subst e; simp [keeps] at hk'
      have h4 : d[m]! = d[m - 1]! := by
        have := hk'
        simp only [keeps, decide_eq_false_iff_not, not_or] at this
        exact Decidable.not_not.1 this.2
      rw [hk', if_neg (by simp), List.append_nil]
      refine ⟨h1, fun x => ?_⟩
      rw [h2 x]
      constructor
      · rintro ⟨i, hi, e⟩
        exact ⟨i, by omega, e⟩
      · rintro ⟨i, hi, e⟩
        by_cases him : i = m
        · subst him; exact ⟨i - 1, by omega, by rw [← e, h4]⟩
        · exact ⟨i, by omega, e⟩

theorem compact_lst (w : World) (B : Nat) (v : Value) (zs : List Int) (h : Lst w B v zs) (hs : zs.Pairwise (· ≤ ·)) (hB : B ≤ w.heap.size) (hn : zs.length < 50) :
    Calls Tryz.prog 95 #[v] w fun e w' => ∃ v' ps, e = .returned v' ∧ ps.Pairwise (· < ·) ∧ (∀ x, x ∈ ps ↔ x ∈ zs) ∧ Lst w' B v' ps ∧ Go.RowKit.Below B w w' := by
  rcases h.form with ⟨rfl, rfl⟩ | ⟨g, cap, rfl, h2, h3, h4, h5⟩
  · refine (compact_nil w).mono ?_
    rintro e w' ⟨rfl, rfl⟩
    exact ⟨_, [], rfl, List.Pairwise.nil, fun _ => Iff.rfl, h, below_refl _ _⟩
  · have := compact_any w g cap cap zs.toArray h5 (by simpa using hn) (by simpa using h3)
    rw [List.size_toArray] at this
    refine this.mono ?_
    rintro e w' ⟨rfl, k1⟩
    obtain ⟨r1, r2⟩ := comp_rising (d := zs.toArray) (fun i j hij hj => by
      have hj' : j < zs.length := by simpa using hj
      have := List.pairwise_iff_getElem.1 hs i j (by omega) hj' hij
      rw [getElem!_pos _ i (by simp; omega), getElem!_pos _ j (by simpa using hj')]
      simpa using this) zs.length (by simp)
    refine ⟨_, _, rfl, r1, fun x => ?_, k1.row.lst h2 h4, k1.below h2 hB⟩
    rw [r2 x, List.mem_iff_getElem]
    constructor
    · rintro ⟨i, hi, e⟩
      rw [getElem!_pos _ i (by simpa using hi)] at e
      exact ⟨i, hi, by simpa using e⟩
    · rintro ⟨i, hi, e⟩
      exact ⟨i, hi, by rw [getElem!_pos _ i (by simpa using hi)]; simpa using e⟩

end Go.Proofs.YtopmmlcjlopmaaaGreatDoor
