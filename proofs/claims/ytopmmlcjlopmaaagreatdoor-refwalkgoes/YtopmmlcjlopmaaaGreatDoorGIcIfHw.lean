/- Several texts of ours in one: Ic, If, Hw. -/
import Derived.Test.YtopmmlcjlopmaaaGreatDoorGL9fL9aIb
import Derived.Test.YtopmmlcjlopmaaaGreatDoorGIeKbGt
import Derived.Test.YtopmmlcjlopmaaaGreatDoorGHsHtKh
import Derived.Test.YtopmmlcjlopmaaaGreatDoorGVmRN
/- The document's Mark. (Laid by tools/gen_ic.py.) -/
namespace Go.Proofs.YtopmmlcjlopmaaaGreatDoor
set_option linter.unusedVariables false
set_option linter.unusedSimpArgs false
open Go.ChangeShapes Go.WideShapes Go.ChangeAt Go.RowKit Go.Joins

set_option maxRecDepth 100000 in
set_option maxHeartbeats 3200000 in
theorem rmark_any {w : World} {M : Int} {vs vt : Value} {f : Int → Int} {tr : List Int} {L0 : List (Int × Int)} (h : Doc w M vs vt f tr L0) (hM : 14 ≤ M ∧ M ≤ 22) (hl : L0.length < 50000) (hwd : ∀ j, W64 (f j)) (A : Option Addr) (N c : Nat) (S : List (Int × Int × Int)) (hN : S.length = N) (hS : StepsIn w (.slice A N c) S) (hn : N ≤ 1000) (hw : ∀ k, k < N → W64 (stepAt S k).2.1)
    (y : Int) (W U X : Bool) (lv fr : Int) (dirty : Bool) :
    Calls Tryz.prog 35 #[.agg (docCells M vs vt), pathV (.slice A N c) y W U X lv fr, .bool dirty] w fun e w' => ∃ vs' L', e = .returned (.agg (docCells M vs' vt)) ∧ Doc w' M vs' vt (markN M f S (dirty && decide (y = 0)) N) tr L' ∧ L'.length ≤ L0.length + N ∧ Below w.heap.size w w' := by
  obtain ⟨A0, c0, A2, c2, rfl, rfl⟩ := h.form
  have H0 := Lib.hid (RMk.start h (.slice A N c) ⟨S, y, W, U, X, lv, fr⟩)
  have HN := Lib.hid hN
  have HS := Lib.hid hS
  have HW := Lib.hid hw
  have HWd := Lib.hid hwd
  clear h hN hS hw hwd
  have e6 : IntKind.i64.wrap ((N : Int) - 1) = (N : Int) - 1 := i64_wrap (by omega) (by omega)
  go_enter Tryz.func35, Tryz.ntmps35
  go_wp2
  go_loopw [7] (fun i wr => ∃ (k : Nat) (vs : Value) (L : List (Int × Int)), k ≤ N ∧ i = .int .i64 k ∧ L.length ≤ L0.length + k ∧ Hid (RMk w wr M vs (.slice A2 tr.length c2) (markN M f S (dirty && decide (y = 0)) k) tr L (.slice A N c) ⟨S, y, W, U, X, lv, fr⟩)) (fun i _ => (N - intOf i).toNat)
  case atStart => exact ⟨0, _, L0, by omega, rfl, by omega, H0⟩
  case round =>
    obtain ⟨k, vs, L, hk, rfl, hL, HK⟩ := hrel
    clear H0
    obtain ⟨A1, c1, _, _, rfl, _⟩ := HK.out.doc.form
    obtain ⟨p0, p1, p2, p3, p4, p5, p6⟩ := HK.out.pbox.seven
    obtain ⟨m0, m1, m2⟩ := HK.out.mbox.three
    by_cases hlt : k < N
    · obtain ⟨ad, rfl, d0, d1, d2⟩ := steps_at (HS.out.below HK.out.below) (k := k) (by rw [HN.out]; exact hlt)
      have hsw := Lib.hid (HW.out k hlt)
      have HF : Hid (markN M f S (dirty && decide (y = 0)) (k + 1) = orS M (markN M f S (dirty && decide (y = 0)) k) (stepAt S k).2.1 (flagN N (dirty && decide (y = 0)) k)) := Lib.hid (by rw [← HN.out]; rfl)
      have d1' : wr.cell? ⟨(ad.add (k * 3)).block, (ad.add (k * 3)).off + 1, none⟩ = some (.int .u64 (stepAt S k).2.1) := d1
      clear d0 d1 d2
      generalize (stepAt S k).2.1 = s at *
      by_cases hla : k + 1 = N
      · have hl2 : ((k : Int) == (N : Int) - 1) = true := by simp; omega
        cases dirty
        · have HQ : Hid (orS M (markN M f S (false && decide (y = 0)) k) s 32 = markN M f S (false && decide (y = 0)) (k + 1)) := Lib.hid (by rw [HF.out, show flagN N (false && decide (y = 0)) k = 32 from rfl])
          clear hla HF
          have C := fun w' hD => rset8_any (w := w') (M := M) (vs := .slice A1 L.length c1) (vt := .slice A2 tr.length c2) (f := markN M f S (false && decide (y = 0)) k) (tr := tr) (L := L) hD hM (by omega) (markN_words HWd.out k) s 32 hsw.out w64_32
          rw [HQ.out] at C
          go_wp2
          refine wp_region_still_tail 8 (by kernel_rfl) (by kernel_rfl) ?_
          simp only [List.take_succ_cons, List.take_zero, List.drop_succ_cons, List.drop_zero]
          repeat still_step
          refine wpStill_nil ?_
          change wpList _ _ _ _ _ wr.drew
          have HK2 := Lib.hid (HK.out.quiet (Kept.drew0 wr))
          clear HK p0 p1 p2 p3 p4 p5 p6 m0 m1 m2 d1' HQ
          generalize wr.drew = w2 at *
          go_wp2_with (first | (go_at_call 80; refine (C w2 HK2.out.doc).mono ?_; rintro e w3 ⟨vs', L', rfl, hD3, hL3, hB3⟩; have HK3 := Lib.hid (HK2.out.set hB3 hD3); have H3 := Lib.hid (HK2.out.quiet hB3); obtain ⟨A3, c3, _, _, rfl, _⟩ := hD3.form; clear hB3 hD3; obtain ⟨m0, m1, m2⟩ := H3.out.mbox.three; have z0 := H3.out.mbox.fz 0; have z1 := H3.out.mbox.fz 1; have z2 := H3.out.mbox.fz 2))
          go_roundw
          case rel => exact ⟨k + 1, _, L', by omega, by go_num, by omega, HK3⟩
          case measure => simp [intOf]; omega
        · by_cases hy : y = 0
          · have HQ : Hid (orS M (markN M f S (true && decide (y = 0)) k) s 96 = markN M f S (true && decide (y = 0)) (k + 1)) := Lib.hid (by rw [HF.out, show flagN N (true && decide (y = 0)) k = 96 from by unfold flagN; rw [if_pos (by simp [hla, hy])]])
            have hy2 : (y == 0) = true := by simpa using hy
            clear hla HF hy
            have C := fun w' hD => rset8_any (w := w') (M := M) (vs := .slice A1 L.length c1) (vt := .slice A2 tr.length c2) (f := markN M f S (true && decide (y = 0)) k) (tr := tr) (L := L) hD hM (by omega) (markN_words HWd.out k) s 96 hsw.out w64_96
            rw [HQ.out] at C
            go_wp2
            refine wp_region_still_tail 8 (by kernel_rfl) (by kernel_rfl) ?_
            simp only [List.take_succ_cons, List.take_zero, List.drop_succ_cons, List.drop_zero]
            repeat still_step
            refine wpStill_nil ?_
            change wpList _ _ _ _ _ wr.drew
            have HK2 := Lib.hid (HK.out.quiet (Kept.drew0 wr))
            clear HK p0 p1 p2 p3 p4 p5 p6 m0 m1 m2 d1' HQ
            generalize wr.drew = w2 at *
            go_wp2_with (first | (go_at_call 80; refine (C w2 HK2.out.doc).mono ?_; rintro e w3 ⟨vs', L', rfl, hD3, hL3, hB3⟩; have HK3 := Lib.hid (HK2.out.set hB3 hD3); have H3 := Lib.hid (HK2.out.quiet hB3); obtain ⟨A3, c3, _, _, rfl, _⟩ := hD3.form; clear hB3 hD3; obtain ⟨m0, m1, m2⟩ := H3.out.mbox.three; have z0 := H3.out.mbox.fz 0; have z1 := H3.out.mbox.fz 1; have z2 := H3.out.mbox.fz 2))
            go_roundw
            case rel => exact ⟨k + 1, _, L', by omega, by go_num, by omega, HK3⟩
            case measure => simp [intOf]; omega
          · have hy2 : (y == 0) = false := by simpa using hy
            have HQ : Hid (orS M (markN M f S (true && decide (y = 0)) k) s 32 = markN M f S (true && decide (y = 0)) (k + 1)) := Lib.hid (by rw [HF.out, show flagN N (true && decide (y = 0)) k = 32 from by unfold flagN; rw [if_neg (by simp [hy])]])
            clear hla HF hy
            have C := fun w' hD => rset8_any (w := w') (M := M) (vs := .slice A1 L.length c1) (vt := .slice A2 tr.length c2) (f := markN M f S (true && decide (y = 0)) k) (tr := tr) (L := L) hD hM (by omega) (markN_words HWd.out k) s 32 hsw.out w64_32
            rw [HQ.out] at C
            go_wp2
            refine wp_region_still_tail 8 (by kernel_rfl) (by kernel_rfl) ?_
            simp only [List.take_succ_cons, List.take_zero, List.drop_succ_cons, List.drop_zero]
            repeat still_step
            refine wpStill_nil ?_
            change wpList _ _ _ _ _ wr.drew
            have HK2 := Lib.hid (HK.out.quiet (Kept.drew0 wr))
            clear HK p0 p1 p2 p3 p4 p5 p6 m0 m1 m2 d1' HQ
            generalize wr.drew = w2 at *
            go_wp2_with (first | (go_at_call 80; refine (C w2 HK2.out.doc).mono ?_; rintro e w3 ⟨vs', L', rfl, hD3, hL3, hB3⟩; have HK3 := Lib.hid (HK2.out.set hB3 hD3); have H3 := Lib.hid (HK2.out.quiet hB3); obtain ⟨A3, c3, _, _, rfl, _⟩ := hD3.form; clear hB3 hD3; obtain ⟨m0, m1, m2⟩ := H3.out.mbox.three; have z0 := H3.out.mbox.fz 0; have z1 := H3.out.mbox.fz 1; have z2 := H3.out.mbox.fz 2))
            go_roundw
            case rel => exact ⟨k + 1, _, L', by omega, by go_num, by omega, HK3⟩
            case measure => simp [intOf]; omega
      · have hl2 : ((k : Int) == (N : Int) - 1) = false := by simp; omega
        have HQ : Hid (orS M (markN M f S (dirty && decide (y = 0)) k) s 32 = markN M f S (dirty && decide (y = 0)) (k + 1)) := Lib.hid (by rw [HF.out, show flagN N (dirty && decide (y = 0)) k = 32 from by unfold flagN; rw [if_neg (by simp [hla])]])
        clear hla HF
        have C := fun w' hD => rset8_any (w := w') (M := M) (vs := .slice A1 L.length c1) (vt := .slice A2 tr.length c2) (f := markN M f S (dirty && decide (y = 0)) k) (tr := tr) (L := L) hD hM (by omega) (markN_words HWd.out k) s 32 hsw.out w64_32
        rw [HQ.out] at C
        go_wp2
        refine wp_region_still_tail 8 (by kernel_rfl) (by kernel_rfl) ?_
        simp only [List.take_succ_cons, List.take_zero, List.drop_succ_cons, List.drop_zero]
        repeat still_step
        refine wpStill_nil ?_
        change wpList _ _ _ _ _ wr.drew
        have HK2 := Lib.hid (HK.out.quiet (Kept.drew0 wr))
        clear HK p0 p1 p2 p3 p4 p5 p6 m0 m1 m2 d1' HQ
        generalize wr.drew = w2 at *
        go_wp2_with (first | (go_at_call 80; refine (C w2 HK2.out.doc).mono ?_; rintro e w3 ⟨vs', L', rfl, hD3, hL3, hB3⟩; have HK3 := Lib.hid (HK2.out.set hB3 hD3); have H3 := Lib.hid (HK2.out.quiet hB3); obtain ⟨A3, c3, _, _, rfl, _⟩ := hD3.form; clear hB3 hD3; obtain ⟨m0, m1, m2⟩ := H3.out.mbox.three; have z0 := H3.out.mbox.fz 0; have z1 := H3.out.mbox.fz 1; have z2 := H3.out.mbox.fz 2))
        go_roundw
        case rel => exact ⟨k + 1, _, L', by omega, by go_num, by omega, HK3⟩
        case measure => simp [intOf]; omega
    · have hle : N ≤ k := by omega
      obtain rfl : k = N := by omega
      obtain ⟨q0, q1, q2⟩ := HK.out.res.three
      have r0 := HK.out.res.fz 0; have r1 := HK.out.res.fz 1; have r2 := HK.out.res.fz 2
      clear hk hlt HS
      go_wp2
      exact bodyPost_ret (results_cell_row rfl _ _ (w.heap.size + 2) _ _ _ _ rfl (HK.out.res.set3 _ _ _) Tryz.underlying45 rfl rfl) rfl ⟨_, rfl, L, HK.out.doc.box HK.out.res (by decide) (by decide) (turn3 _ _ _ _ _), hL, turn_below HK.out.below (turn3 _ _ _ _ _) (by omega) HK.out.below.size⟩
end Go.Proofs.YtopmmlcjlopmaaaGreatDoor
/- The document's From: its walk. (Laid by tools/gen_ie.py.) -/
namespace Go.Proofs.YtopmmlcjlopmaaaGreatDoor
set_option linter.unusedVariables false
set_option linter.unusedSimpArgs false
open Go.ChangeShapes Go.WideShapes Go.ChangeAt Go.RowKit Go.Joins

set_option maxRecDepth 100000 in
set_option maxHeartbeats 8000000 in
theorem rfrom_any {w : World} {M : Int} {vs vt0 : Value} {f : Int → Int} {tr : List Int} {L : List (Int × Int)} (h : Doc w M vs vt0 f tr L) (hM : 14 ≤ M ∧ M ≤ 22) (hl : L.length < 90000) (htr : tr.length < 1000) (hwd : ∀ j, W64 (f j)) (lev t a : Int) (W U X nxe : Bool) (ht : W64 t) (ha : W64 a) :
    Calls Tryz.prog 32 #[.agg (docCells M vs vt0), placeV lev t W U X, .int .u64 a, .bool nxe] w (RAns w vt0 M vs f tr L (walkZ M f a nxe lev t W U X)) := by
  obtain ⟨A0, c0, A1, c1, rfl, rfl⟩ := h.form
  obtain ⟨i0, hi, hz0, hz1, hz2⟩ := info_parts infoRStep
  have HP := Lib.hid (rfm_start h lev t W U X)
  have HWD := Lib.hid hwd
  clear h hwd
  go_enter Tryz.func32, Tryz.ntmps32
  go_wp2
  go_loopg [10, 12, 13] 5 (fun k s10 s12 s13 wr => ∃ (lev' t' : Int) (W' U' X' : Bool) (S : List (Int × Int × Int)) (vt : Value) (T : List Int), Hid (T = tr ++ slotsP S) ∧ (lev' ≤ 4 → lev' ≤ k) ∧ k ≤ 5 ∧ S.length + k ≤ 5 ∧ W64 t' ∧ s12 = .int .u64 t' ∧ s13 = .int .i64 lev' ∧ walkZ M f a nxe lev t W U X = preP S (walkZ M f a nxe lev' t' W' U' X') ∧ RFm w wr (.slice A1 tr.length c1) M (.slice A0 L.length c0) vt f T L W' U' X' S s10)
  case atStart => exact ⟨lev, t, W, U, X, [], _, tr, Lib.hid (by rw [show slotsP [] = [] from rfl, List.append_nil]), by omega, by omega, by simp, ht, rfl, rfl, (preP_nil _).symm, HP.out⟩
  case round =>
    obtain ⟨lev', t', W', U', X', S, vt, T, HTr, hk, hk5, hSl, ht', rfl, rfl, hE, hF⟩ := hrel
    obtain ⟨As, cs, rfl⟩ := hF.own.form
    obtain ⟨_, _, A2, c2, _, rfl⟩ := hF.doc.form
    have HE := Lib.hid hE
    have HF := Lib.hid hF
    clear hE HP hF
    by_cases hl' : 1 ≤ lev' ∧ lev' ≤ 4
    · obtain ⟨h1, h4⟩ := hl'
      have hk' := hk h4
      have CS := rslot_any t' a lev' wr ht' ha
      have HSL := Lib.hid (slot_le t' a lev')
      obtain ⟨s, hs⟩ : ∃ s, slotF t' a lev' = s := ⟨_, rfl⟩
      rw [hs] at CS HSL
      have hlT : T.length < 1000000 := by rw [HTr.out]; simp [slotsP]; omega
      have CL := rLoad_any M _ _ L T f s wr hM HF.out.doc.slots (by omega) HF.out.doc.words hlT HF.out.doc.agree HSL.out
      clear hlT
      by_cases he : errS M s = 0
      · obtain ⟨x, hx⟩ : ∃ x, f (s / 8) = x := ⟨_, rfl⟩
        have HX := Lib.hid (show W64 x from hx ▸ HWD.out _)
        have HA := Lib.hid (walk_at (M := M) (f := f) (a := a) (nxe := nxe) (W := W') (U := U') (X := X') h1 h4 hs he hx)
        rw [show peekV M f s = x by unfold peekV; rw [if_pos he, hx], he] at CL
        obtain ⟨T', hT'⟩ : ∃ T', loadT M T s = T' := ⟨_, rfl⟩
        have HTn : Hid (T' = tr ++ slotsP (S ++ [(lev', s, x)])) := Lib.hid (by rw [← hT', HTr.out]; unfold loadT; rw [if_pos he]; exact slotsP_more _ _ _ _ _)
        rw [hT'] at CL
        clear hT'
        have HSO := Lib.hid hSl
        clear hs hx he hk HWD
        obtain ⟨m0, m1, m2⟩ := HF.out.mbox.three
        go_upto_region 9 with (first | (go_at_call 69; ((with_reducible refine CS.mono ?_)); rintro e w' ⟨rfl, rfl⟩) | (go_at_call 70; ((with_reducible refine CL.mono ?_)); rintro e w3 ⟨vt', rfl, hW3, hN3, hB3⟩; have HN3 := Lib.hid hN3; have HW3 := Lib.hid hW3; have HK3 := Lib.hid hB3; obtain ⟨A3, c3, rfl⟩ := own_len hW3; clear hW3 hB3 hN3 CL CS m0 m1 m2))
        generalize hw4 : w3.alloc _ = w4
        have HK4 : Hid (Below w3.heap.size w3 w4) := Lib.hid (by rw [← hw4]; exact below_alloc1 _ _)
        have HN4 : Hid (Blk w4 w3.heap.size (docCells M (.slice A0 L.length c0) (.slice A3 T'.length c3)) 45) := Lib.hid (by rw [← hw4]; exact Blk.new _ _ _)
        have HK := Lib.hid (HK3.out.trans (HK4.out.mono HK3.out.size))
        have HF5 := Lib.hid (HF.out.load HK.out (own_below HW3.out HK4.out) HN3.out)
        have HF4 := Lib.hid (HF.out.quiet HK.out)
        clear hw4 HK4 HK3 HW3 HF HK
        obtain ⟨q0, q1, q2⟩ := HN4.out.three
        obtain ⟨m0, m1, m2⟩ := HF4.out.mbox.three
        have z0 := HF4.out.mbox.fz 0; have z1 := HF4.out.mbox.fz 1; have z2 := HF4.out.mbox.fz 2
        go_upto_region 12 with fail
        clear q0 q1 q2 m0 m1 m2 z0 z1 z2 HN4 HF4
        generalize ((w4.setCell _ _).setCell _ _).setCell _ _ = w5 at *
        go_upto_region 13 with (first | (at_builtin; refine wpList_append_own_at _ rfl _ _ 48 rfl (w.heap.size + 5) 97 i0 _ 3 24 Tryz.underlying48 hi hz0 hz1 hz2 rfl (by decide) (.slice As S.length cs) S.length (stepCells S) rfl (World.ownsRow.alloc HF5.out.own _) ⟨w5.heap.size, 0, none⟩ 1 1 [.int .i64 lev', .int .u64 s, .int .u64 x] rfl rfl (three_cells _ _ _ _ _) (three_one _ _ _) (by have := HSO.out; unfold maxLen; omega) (by have := HSO.out; omega) (by have := HF5.out.rgt.lt; simp; omega) ?_; intro v' w6 hown' hgrow hnil hloc; have HF6 := Lib.hid (HF5.out.more hown' hgrow); obtain ⟨g6, cap6, rfl⟩ := ownsRow_form hown' (by omega); clear hgrow hown' hnil hloc HF5))
        have CB := fun w' => rbit_any x 0 w' HX.out
        have CR := fun w' => rres_any x lev' M nxe w' HX.out
        have CF := fun w' => rleaf_any x lev' w' HX.out
        have CA := fun w' => rand_any W' U' X' x w' HX.out
        have CT := fun w' => rtable_any x w' HX.out
        have CFr := fun w' => rframe_any x lev' w' HX.out
        obtain ⟨r0, r1, r2, r3, r4, r5, r6⟩ := HF6.out.rp.seven; have s0 := HF6.out.rp.fz 0; have s1 := HF6.out.rp.fz 1; have s2 := HF6.out.rp.fz 2; have s3 := HF6.out.rp.fz 3; have s4 := HF6.out.rp.fz 4; have s5 := HF6.out.rp.fz 5; have s6 := HF6.out.rp.fz 6; obtain ⟨u0, u1, u2⟩ := HF6.out.rm.three; have v0 := HF6.out.rm.fz 0; have v1 := HF6.out.rm.fz 1; have v2 := HF6.out.rm.fz 2; obtain ⟨m0, m1, m2⟩ := HF6.out.mbox.three
        cases hP : bitF x 0
        · simp only [hP] at CB
          have HO := Lib.hid (on_abs (M := M) (nxe := nxe) (lev := lev') (W := W') (U := U') (X := X') (k := walkZ M f a nxe (lev' - 1)) hP)
          clear hP CR CF CA CT CFr
          go_wp2_with (first | (go_at_call 71; refine (CB _).mono ?_; rintro e w' ⟨rfl, rfl⟩))
          (try rw [Exit.noGoto_ret])
          refine bodyPost_ret (results_two rfl _ _ (w.heap.size + 2) (w.heap.size + 3) _ _ _ _ _ _ _ _ rfl rfl (HF6.out.rmS _ _ _ _ _ _ _ _ _ _) (HF6.out.rpS _ _ _ _ _ _ _ _ _ _) Tryz.underlying45 rfl rfl Tryz.underlying51 rfl rfl) rfl ?_
          rw [HE.out, HA.out, HO.out, preP_preP]
          exact RFm.done (p := offP 1) HF6.out rfl HTn.out _ _ _ _ _ _ _ _ _ _
        · simp only [hP] at CB
          have HO1 := Lib.hid (on_res (M := M) (nxe := nxe) (lev := lev') (W := W') (U := U') (X := X') (k := walkZ M f a nxe (lev' - 1)) hP)
          have HO2 := Lib.hid (on_leaf (M := M) (nxe := nxe) (lev := lev') (W := W') (U := U') (X := X') (k := walkZ M f a nxe (lev' - 1)) hP)
          have HO3 := Lib.hid (on_on (M := M) (nxe := nxe) (lev := lev') (W := W') (U := U') (X := X') (k := walkZ M f a nxe (lev' - 1)) hP)
          clear hP
          cases hR : resF x lev' M nxe
          · simp only [hR] at CR
            obtain ⟨y0, y1, y2⟩ := HF6.out.rgt.three
            clear r0 r1 r2 r3 r4 r5 r6 s0 s1 s2 s3 s4 s5 s6 u0 u1 u2 v0 v1 v2 m0 m1 m2
            obtain ⟨m0, m1, m2⟩ := HF6.out.mbox.three
            go_upto_region 18 with (first | (go_at_call 71; refine (CB _).mono ?_; rintro e w' ⟨rfl, rfl⟩) | (go_at_call 72; refine (CR _).mono ?_; rintro e w' ⟨rfl, rfl⟩) | (go_at_call 73; refine (CA _).mono ?_; rintro e w7 ⟨rfl, hb7⟩; have HF7 := Lib.hid (HF6.out.quiet hb7); clear hb7 HF6 y0 y1 y2 m0 m1 m2; obtain ⟨y0, y1, y2⟩ := HF7.out.rgt.three; have z0 := HF7.out.rgt.fz 0; have z1 := HF7.out.rgt.fz 1; have z2 := HF7.out.rgt.fz 2))
            have HF8 := Lib.hid (HF7.out.right (W' && bitF x 1) (U' && bitF x 2) (X' && !bitF x 63))
            clear HF7 y0 y1 y2 z0 z1 z2
            generalize ((w7.setCell _ _).setCell _ _).setCell _ _ = w8 at *
            cases hL : leafF x lev'
            · simp only [hL] at CF
              have HO := Lib.hid (HO3.out hR hL)
              clear HO1 HO2 HO3 hR hL CFr CA CB CR
              have ew : IntKind.i64.wrap (lev' - 1) = lev' - 1 := i64_wrap (by omega) (by omega)
              go_wp2_with (first | (go_at_call 74; refine (CF _).mono ?_; rintro e w' ⟨rfl, rfl⟩) | (go_at_call 76; refine (CT _).mono ?_; rintro e w' ⟨rfl, rfl⟩))
              go_roundg (gk - 1)
              case measure => omega
              case rel =>
                refine ⟨lev' - 1, tableF x, W' && bitF x 1, U' && bitF x 2, X' && !bitF x 63, S ++ [(lev', s, x)], _, T', HTn, by omega, by omega, by have := HSO.out; simp; omega, w64_table x, rfl, by first | rfl | go_num, ?_, HF8.out⟩
                rw [HE.out, HA.out, HO.out, preP_preP]
            · simp only [hL] at CF
              have HO := Lib.hid (HO2.out hR hL)
              clear HO1 HO2 HO3 hR hL CT CA CB CR
              obtain ⟨y0, y1, y2⟩ := HF8.out.rgt.three
              obtain ⟨m0, m1, m2⟩ := HF8.out.mbox.three
              go_upto_region 19 with (first | (go_at_call 74; refine (CF _).mono ?_; rintro e w' ⟨rfl, rfl⟩))
              have HF9 := Lib.hid (HF8.out.quiet (Kept.drew0 w8))
              have H0 : RegR w M (.slice A0 L.length c0) (.slice A3 T'.length c3) (W' && bitF x 1) (U' && bitF x 2) (X' && !bitF x 63) w8.drew := ⟨HF9.out.mbox, HF9.out.rgt⟩
              refine wp_region_held_drew (S := RegR w M (.slice A0 L.length c0) (.slice A3 T'.length c3) (W' && bitF x 1) (U' && bitF x 2) (X' && !bitF x 63)) (by kernel_rfl) H0 (fun hHeld => ?_)
              clear H0 HF8 y0 y1 y2 m0 m1 m2
              generalize w8.drew = w9 at *
              obtain ⟨r0, r1, r2, r3, r4, r5, r6⟩ := HF9.out.rp.seven; have s0 := HF9.out.rp.fz 0; have s1 := HF9.out.rp.fz 1; have s2 := HF9.out.rp.fz 2; have s3 := HF9.out.rp.fz 3; have s4 := HF9.out.rp.fz 4; have s5 := HF9.out.rp.fz 5; have s6 := HF9.out.rp.fz 6; obtain ⟨u0, u1, u2⟩ := HF9.out.rm.three; have v0 := HF9.out.rm.fz 0; have v1 := HF9.out.rm.fz 1; have v2 := HF9.out.rm.fz 2; obtain ⟨m0, m1, m2⟩ := HF9.out.mbox.three
              clear m0 m1 m2
              refine anyH_take (i := 0) (v := ?_) rfl (by kernel_rfl) (by kernel_rfl) (by kernel_rfl) (fun _ _ _ h => h) (by rfl) (by assumption) ?_ ?_
              rotate_left
              · intro w hSw
                obtain ⟨hA, hB⟩ := hSw
                obtain ⟨m0, m1, m2⟩ := hA.three
                obtain ⟨y0, y1, y2⟩ := hB.three
                go_simp
                (try with_reducible rfl)
              (try simp only [Act.put, List.setIfInBounds_toArray, List.set_cons_zero, List.set_cons_succ])
              refine anyH_take (i := 1) (v := ?_) rfl (by kernel_rfl) (by kernel_rfl) (by kernel_rfl) (fun _ _ _ h => h) (by rfl) (by assumption) ?_ ?_
              rotate_left
              · intro w hSw
                go_simp
                (try with_reducible rfl)
              (try simp only [Act.put, List.setIfInBounds_toArray, List.set_cons_zero, List.set_cons_succ])
              refine anyH_take (i := 2) (v := ?_) rfl (by kernel_rfl) (by kernel_rfl) (by kernel_rfl) (fun _ _ _ h => h) (by rfl) (by assumption) ?_ ?_
              rotate_left
              · intro w hSw
                obtain ⟨hA, hB⟩ := hSw
                obtain ⟨m0, m1, m2⟩ := hA.three
                obtain ⟨y0, y1, y2⟩ := hB.three
                go_simp
                (try with_reducible rfl)
              (try simp only [Act.put, List.setIfInBounds_toArray, List.set_cons_zero, List.set_cons_succ])
              refine anyH_take (i := 3) (v := ?_) rfl (by kernel_rfl) (by kernel_rfl) (by kernel_rfl) (fun _ _ _ h => h) (by rfl) (by assumption) ?_ ?_
              rotate_left
              · intro w hSw
                go_simp
                (try with_reducible rfl)
              (try simp only [Act.put, List.setIfInBounds_toArray, List.set_cons_zero, List.set_cons_succ])
              refine anyH_take (i := 4) (v := ?_) rfl (by kernel_rfl) (by kernel_rfl) (by kernel_rfl) (fun _ _ _ h => h) (by rfl) (by assumption) ?_ ?_
              rotate_left
              · intro w hSw
                go_simp
                (try with_reducible rfl)
              (try simp only [Act.put, List.setIfInBounds_toArray, List.set_cons_zero, List.set_cons_succ])
              refine anyH_take (i := 5) (v := ?_) rfl (by kernel_rfl) (by kernel_rfl) (by kernel_rfl) (fun _ _ _ h => h) (by rfl) (by assumption) ?_ ?_
              rotate_left
              · intro w hSw
                go_simp
                (try with_reducible rfl)
              (try simp only [Act.put, List.setIfInBounds_toArray, List.set_cons_zero, List.set_cons_succ])
              refine wpAnyH_ready (rs := [6]) (by kernel_rfl) (by simp) ?_
              refine anyH_one rfl (fun K hK => ?_) ?_
              · go_simp
                refine (CFr _).mono ?_
                rintro e w' ⟨rfl, rfl⟩
                refine hK.out _ _ (hHeld) (fun hHeld => ?_)
                clear hK K
                (try simp only [Act.put, List.setIfInBounds_toArray, List.set_cons_zero, List.set_cons_succ])
                refine anyH_take (i := 7) (v := ?_) rfl (by kernel_rfl) (by kernel_rfl) (by kernel_rfl) (fun _ _ _ h => h) (by rfl) (by assumption) ?_ ?_
                rotate_left
                · intro w hSw
                  go_simp
                  (try with_reducible rfl)
                (try simp only [Act.put, List.setIfInBounds_toArray, List.set_cons_zero, List.set_cons_succ])
                refine wpAnyH_ready (rs := [8]) (by kernel_rfl) (by simp) ?_
                refine anyH_one rfl (fun K hK => ?_) ?_
                · go_simp
                  refine hK.out _ _ (regr_turn hHeld (turn3 _ _ _ _ _) (Or.inl rfl)) (fun hHeld => ?_)
                  clear hK K
                  (try simp only [Act.put, List.setIfInBounds_toArray, List.set_cons_zero, List.set_cons_succ])
                  refine wpAnyH_ready (rs := [9]) (by kernel_rfl) (by simp) ?_
                  refine anyH_one rfl (fun K hK => ?_) ?_
                  · go_simp
                    refine hK.out _ _ (regr_turn hHeld (turn7 _ _ _ _ _ _ _ _ _) (Or.inr rfl)) (fun hHeld => ?_)
                    clear hK K
                    (try simp only [Act.put, List.setIfInBounds_toArray, List.set_cons_zero, List.set_cons_succ])
                    refine wpAnyH_done (by kernel_rfl) ?_ _
                    clear hHeld
                    go_wp2
                    (try rw [Exit.noGoto_ret])
                    refine bodyPost_ret (results_two rfl _ _ (w.heap.size + 2) (w.heap.size + 3) _ _ _ _ _ _ _ _ rfl rfl (HF9.out.rmS _ _ _ _ _ _ _ _ _ _) (HF9.out.rpS _ _ _ _ _ _ _ _ _ _) Tryz.underlying45 rfl rfl Tryz.underlying51 rfl rfl) rfl ?_
                    rw [HE.out, HA.out, HO.out, preP_preP]
                    exact RFm.done (p := ⟨[], 0, W' && bitF x 1, U' && bitF x 2, X' && !bitF x 63, lev', frameF x lev'⟩) HF9.out rfl HTn.out _ _ _ _ _ _ _ _ _ _
                  exact AllReadyH.nil
                exact AllReadyH.nil
              exact AllReadyH.nil
          · simp only [hR] at CR
            have HO := Lib.hid (HO1.out hR)
            clear HO1 HO2 HO3 hR CF CA CT CFr
            go_wp2_with (first | (go_at_call 71; refine (CB _).mono ?_; rintro e w' ⟨rfl, rfl⟩) | (go_at_call 72; refine (CR _).mono ?_; rintro e w' ⟨rfl, rfl⟩))
            (try rw [Exit.noGoto_ret])
            refine bodyPost_ret (results_two rfl _ _ (w.heap.size + 2) (w.heap.size + 3) _ _ _ _ _ _ _ _ rfl rfl (HF6.out.rmS _ _ _ _ _ _ _ _ _ _) (HF6.out.rpS _ _ _ _ _ _ _ _ _ _) Tryz.underlying45 rfl rfl Tryz.underlying51 rfl rfl) rfl ?_
            rw [HE.out, HA.out, HO.out, preP_preP]
            exact RFm.done (p := offP 2) HF6.out rfl HTn.out _ _ _ _ _ _ _ _ _ _
      · have HA := Lib.hid (walk_err (f := f) (nxe := nxe) (W := W') (U := U') (X := X') h1 h4 (by rw [hs]; exact he))
        have hb2 : (errS M s != 0) = true := by simpa using he
        rw [show loadT M T s = T from if_neg he] at CL
        clear hs he hk HWD
        obtain ⟨m0, m1, m2⟩ := HF.out.mbox.three
        go_upto_region 9 with (first | (go_at_call 69; ((with_reducible refine CS.mono ?_)); rintro e w' ⟨rfl, rfl⟩) | (go_at_call 70; ((with_reducible refine CL.mono ?_)); rintro e w3 ⟨vt', rfl, hW3, hN3, hB3⟩; have HN3 := Lib.hid hN3; have HW3 := Lib.hid hW3; have HK3 := Lib.hid hB3; obtain ⟨A3, c3, rfl⟩ := own_len hW3; clear hW3 hB3 hN3 CL CS m0 m1 m2))
        generalize hw4 : w3.alloc _ = w4
        have HK4 : Hid (Below w3.heap.size w3 w4) := Lib.hid (by rw [← hw4]; exact below_alloc1 _ _)
        have HN4 : Hid (Blk w4 w3.heap.size (docCells M (.slice A0 L.length c0) (.slice A3 T.length c3)) 45) := Lib.hid (by rw [← hw4]; exact Blk.new _ _ _)
        have HK := Lib.hid (HK3.out.trans (HK4.out.mono HK3.out.size))
        have HF5 := Lib.hid (HF.out.load HK.out (own_below HW3.out HK4.out) HN3.out)
        have HF4 := Lib.hid (HF.out.quiet HK.out)
        clear hw4 HK4 HK3 HW3 HF HK
        obtain ⟨q0, q1, q2⟩ := HN4.out.three
        obtain ⟨m0, m1, m2⟩ := HF4.out.mbox.three
        have z0 := HF4.out.mbox.fz 0; have z1 := HF4.out.mbox.fz 1; have z2 := HF4.out.mbox.fz 2
        go_upto_region 10 with fail
        clear q0 q1 q2 m0 m1 m2 z0 z1 z2 HN4 HF4
        generalize ((w4.setCell _ _).setCell _ _).setCell _ _ = w5 at *
        obtain ⟨r0, r1, r2, r3, r4, r5, r6⟩ := HF5.out.rp.seven; have s0 := HF5.out.rp.fz 0; have s1 := HF5.out.rp.fz 1; have s2 := HF5.out.rp.fz 2; have s3 := HF5.out.rp.fz 3; have s4 := HF5.out.rp.fz 4; have s5 := HF5.out.rp.fz 5; have s6 := HF5.out.rp.fz 6; obtain ⟨u0, u1, u2⟩ := HF5.out.rm.three; have v0 := HF5.out.rm.fz 0; have v1 := HF5.out.rm.fz 1; have v2 := HF5.out.rm.fz 2; obtain ⟨m0, m1, m2⟩ := HF5.out.mbox.three
        go_wp2
        (try rw [Exit.noGoto_ret])
        refine bodyPost_ret (results_two rfl _ _ (w.heap.size + 2) (w.heap.size + 3) _ _ _ _ _ _ _ _ rfl rfl (HF5.out.rmS _ _ _ _ _ _ _ _ _ _) (HF5.out.rpS _ _ _ _ _ _ _ _ _ _) Tryz.underlying45 rfl rfl Tryz.underlying51 rfl rfl) rfl ?_
        rw [HE.out, HA.out]
        exact RFm.done (p := offP 2) HF5.out rfl HTr.out _ _ _ _ _ _ _ _ _ _
    · have HA := Lib.hid (walk_off (M := M) (f := f) (a := a) (nxe := nxe) (t := t') (W := W') (U := U') (X := X') hl')
      have hg : decide (1 ≤ lev') = false ∨ (1 ≤ lev' ∧ 4 < lev') := by
        by_cases c : 1 ≤ lev'
        · exact Or.inr ⟨c, by omega⟩
        · exact Or.inl (by simpa using c)
      obtain ⟨r0, r1, r2, r3, r4, r5, r6⟩ := HF.out.rp.seven; have s0 := HF.out.rp.fz 0; have s1 := HF.out.rp.fz 1; have s2 := HF.out.rp.fz 2; have s3 := HF.out.rp.fz 3; have s4 := HF.out.rp.fz 4; have s5 := HF.out.rp.fz 5; have s6 := HF.out.rp.fz 6; obtain ⟨u0, u1, u2⟩ := HF.out.rm.three; have v0 := HF.out.rm.fz 0; have v1 := HF.out.rm.fz 1; have v2 := HF.out.rm.fz 2; obtain ⟨m0, m1, m2⟩ := HF.out.mbox.three
      clear HWD hk hl'
      rcases hg with hg | ⟨hg, hg2⟩
      · have hg3 : lev' < 1 := by simpa using hg
        clear hg
        go_wp2
        (try rw [Exit.noGoto_ret])
        refine bodyPost_ret (results_two rfl _ _ (w.heap.size + 2) (w.heap.size + 3) _ _ _ _ _ _ _ _ rfl rfl (HF.out.rmS _ _ _ _ _ _ _ _ _ _) (HF.out.rpS _ _ _ _ _ _ _ _ _ _) Tryz.underlying45 rfl rfl Tryz.underlying51 rfl rfl) rfl ?_
        rw [HE.out, HA.out]
        exact RFm.done (p := offP 2) HF.out rfl HTr.out _ _ _ _ _ _ _ _ _ _
      · go_wp2
        (try rw [Exit.noGoto_ret])
        refine bodyPost_ret (results_two rfl _ _ (w.heap.size + 2) (w.heap.size + 3) _ _ _ _ _ _ _ _ rfl rfl (HF.out.rmS _ _ _ _ _ _ _ _ _ _) (HF.out.rpS _ _ _ _ _ _ _ _ _ _) Tryz.underlying45 rfl rfl Tryz.underlying51 rfl rfl) rfl ?_
        rw [HE.out, HA.out]
        exact RFm.done (p := offP 2) HF.out rfl HTr.out _ _ _ _ _ _ _ _ _ _
end Go.Proofs.YtopmmlcjlopmaaaGreatDoor
/- Same of package walk and of the document where two paths' heads differ; the document's Bare. (Laid by tools/gen_hw.py.) -/
namespace Go.Proofs.YtopmmlcjlopmaaaGreatDoor
set_option linter.unusedVariables false
set_option linter.unusedSimpArgs false
open Go.ChangeShapes Go.WideShapes Go.ChangeAt Go.RowKit Go.Joins

theorem bare_with {x : Int} (hx : W64 x) : withF (withF x 5 false) 6 false = bareF x := by
  unfold bareF
  have h1 : W64 (withF x 5 false) := by unfold withF; rw [if_neg (by decide)]; exact w64_bits _ _ _
  apply tb_ext (by show W64 (withF (withF x 5 false) 6 false); generalize withF x 5 false = z; unfold withF; rw [if_neg (by decide)]; exact w64_bits _ _ _) (w64_bits _ _ _)
  intro i hi
  rw [tb_with h1, tb_with hx, tb_andNot hx.1 (by decide), tb_96]
  by_cases e5 : i = 5
  · subst e5; simp
  · by_cases e6 : i = 6
    · subst e6; simp
    · rw [if_neg (by omega), if_neg (by omega), decide_eq_false (show ¬ 5 = i from fun e => e5 e.symm), decide_eq_false (show ¬ 6 = i from fun e => e6 e.symm)]; simp [hi]

theorem bare_any (x : Int) (w : World) (hx : W64 x) :
    Calls Tryz.prog 37 #[.int .u64 x] w fun e w' => e = .returned (.int .u64 (bareF x)) ∧ w = w' := by
  have HW : Hid (W64 (withF x 5 false)) := Lib.hid (by unfold withF; rw [if_neg (by decide)]; exact w64_bits _ _ _)
  rw [← bare_with hx]
  go_enter Tryz.func37, Tryz.ntmps37
  go_wp2_with (go_at_call 83; (first | refine (rwith_any _ _ _ _ (by assumption)).mono ?_ | refine (rwith_any _ _ _ _ HW.out).mono ?_); rintro e w' ⟨rfl, rfl⟩)
  go_ret
  exact ⟨rfl, rfl⟩

set_option maxRecDepth 100000 in
set_option maxHeartbeats 6400000 in
theorem rsame_no (w : World) (A A' : Option Addr) (L L' c c' : Nat) (y y' : Int) (W W' U U' X X' : Bool) (lv lv' fr fr' : Int) (h : ¬ (y = y' ∧ W = W' ∧ U = U' ∧ X = X' ∧ lv = lv' ∧ fr = fr' ∧ L = L')) :
    Calls Tryz.prog 13 #[pathV (.slice A L c) y W U X lv fr, pathV (.slice A' L' c') y' W' U' X' lv' fr'] w fun e w' => e = .returned (.bool false) ∧ Below w.heap.size w w' := by
  by_cases h0 : y = y'
  rotate_left
  · have hb : (y != y') = true := by simpa using h0
    clear h h0
    go_enter Tryz.func13, Tryz.ntmps13
    go_wp2
    go_ret
    exact ⟨rfl, below2 w _ _⟩
  subst h0
  by_cases h1 : W = W'
  rotate_left
  · clear h
    cases W <;> cases W' <;> first | exact absurd rfl h1 | skip
    all_goals
      clear h1
      go_enter Tryz.func13, Tryz.ntmps13
      go_wp2
      go_ret
      exact ⟨rfl, below2 w _ _⟩
  subst h1
  by_cases h2 : U = U'
  rotate_left
  · clear h
    cases U <;> cases U' <;> first | exact absurd rfl h2 | skip
    all_goals
      clear h2
      go_enter Tryz.func13, Tryz.ntmps13
      go_wp2
      go_ret
      exact ⟨rfl, below2 w _ _⟩
  subst h2
  by_cases h3 : X = X'
  rotate_left
  · clear h
    cases X <;> cases X' <;> first | exact absurd rfl h3 | skip
    all_goals
      clear h3
      go_enter Tryz.func13, Tryz.ntmps13
      go_wp2
      go_ret
      exact ⟨rfl, below2 w _ _⟩
  subst h3
  by_cases h4 : lv = lv'
  rotate_left
  · have hb : (lv != lv') = true := by simpa using h4
    clear h h4
    go_enter Tryz.func13, Tryz.ntmps13
    go_wp2
    go_ret
    exact ⟨rfl, below2 w _ _⟩
  subst h4
  by_cases h5 : fr = fr'
  rotate_left
  · have hb : (fr != fr') = true := by simpa using h5
    clear h h5
    go_enter Tryz.func13, Tryz.ntmps13
    go_wp2
    go_ret
    exact ⟨rfl, below2 w _ _⟩
  subst h5
  have hb : ((L : Int) != (L' : Int)) = true := by simp; intro e; exact h ⟨rfl, rfl, rfl, rfl, rfl, rfl, by omega⟩
  clear h
  go_enter Tryz.func13, Tryz.ntmps13
  go_wp2
  go_ret
  exact ⟨rfl, below2 w _ _⟩

end Go.Proofs.YtopmmlcjlopmaaaGreatDoor
