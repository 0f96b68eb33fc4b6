/- Several texts of ours in one: If, Ht, Hw. -/
import Derived.Test.YtopmmlcjlopmaaaGreatDoorGEsGsIe
import Derived.Test.YtopmmlcjlopmaaaGreatDoorGHpHqHu
import Derived.Test.YtopmmlcjlopmaaaGreatDoorGHsIbIc
import Derived.Test.YtopmmlcjlopmaaaGreatDoorGVmRN
/- The document's From: its walk. (Laid by tools/gen_ie.py.) -/
namespace Go.Proofs.YtopmmlcjlopmaaaGreatDoor
set_option linter.unusedVariables false
set_option linter.unusedSimpArgs false
open Go.ChangeShapes Go.WideShapes Go.ChangeAt Go.RowKit Go.Joins

set_option maxRecDepth 100000 in
set_option maxHeartbeats 8000000 in
theorem rfrom_any {w : World} {M : Int} {vs vt0 : Value} {f : Int → Int} {tr : List Int} {L : List (Int × Int)} (h : Doc w M vs vt0 f tr L) (hM : 14 ≤ M ∧ M ≤ 22) (hl : L.length < 90000) (htr : tr.length < 1000) (hwd : ∀ j, W64 (f j)) (lev t a : Int) (W U X nxe : Bool) (ht : W64 t) (ha : W64 a) :
    Calls Tryz.prog 32 #[.agg (docCells M vs vt0), placeV lev t W U X, .int .u64 a, .bool nxe] w (RAns w vt0 M vs f tr L (walkZ M f a nxe lev t W U X)) := by
  obtain ⟨A0, c0, A1, c1, rfl, rfl⟩ := h.form
  obtain ⟨i0, hi, hz0, hz1, hz2⟩ := info_parts infoRStep
  have HP := Lib.hid (rfm_start h lev t W U X)
  have HWD := Lib.hid hwd
  clear h hwd
  go_enter Tryz.func32, Tryz.ntmps32
  go_wp2
  go_loopg [10, 12, 13] 5 (fun k s10 s12 s13 wr => ∃ (lev' t' : Int) (W' U' X' : Bool) (S : List (Int × Int × Int)) (vt : Value) (T : List Int), Hid (T = tr ++ slotsP S) ∧ (lev' ≤ 4 → lev' ≤ k) ∧ k ≤ 5 ∧ S.length + k ≤ 5 ∧ W64 t' ∧ s12 = .int .u64 t' ∧ s13 = .int .i64 lev' ∧ walkZ M f a nxe lev t W U X = preP S (walkZ M f a nxe lev' t' W' U' X') ∧ RFm w wr (.slice A1 tr.length c1) M (.slice A0 L.length c0) vt f T L W' U' X' S s10)
  case atStart => exact ⟨lev, t, W, U, X, [], _, tr, Lib.hid (by rw [show slotsP [] = [] from rfl, List.append_nil]), by omega, by omega, by simp, ht, rfl, rfl, (preP_nil _).symm, HP.out⟩
  case round =>
    obtain ⟨lev', t', W', U', X', S, vt, T, HTr, hk, hk5, hSl, ht', rfl, rfl, hE, hF⟩ := hrel
    obtain ⟨As, cs, rfl⟩ := hF.own.form
    obtain ⟨_, _, A2, c2, _, rfl⟩ := hF.doc.form
    have HE := Lib.hid hE
    have HF := Lib.hid hF
    clear hE HP hF
    by_cases hl' : 1 ≤ lev' ∧ lev' ≤ 4
    · obtain ⟨h1, h4⟩ := hl'
      have hk' := hk h4
      have CS := rslot_any t' a lev' wr ht' ha
      have HSL := Lib.hid (slot_le t' a lev')
      obtain ⟨s, hs⟩ : ∃ s, slotF t' a lev' = s := ⟨_, rfl⟩
      rw [hs] at CS HSL
      have hlT : T.length < 1000000 := by rw [HTr.out]; simp [slotsP]; omega
      have CL := rLoad_any M _ _ L T f s wr hM HF.out.doc.slots (by omega) HF.out.doc.words hlT HF.out.doc.agree HSL.out
      clear hlT
      by_cases he : errS M s = 0
      · obtain ⟨x, hx⟩ : ∃ x, f (s / 8) = x := ⟨_, rfl⟩
        have HX := Lib.hid (show W64 x from hx ▸ HWD.out _)
        have HA := Lib.hid (walk_at (M := M) (f := f) (a := a) (nxe := nxe) (W := W') (U := U') (X := X') h1 h4 hs he hx)
        rw [show peekV M f s = x by unfold peekV; rw [if_pos he, hx], he] at CL
        obtain ⟨T', hT'⟩ : ∃ T', loadT M T s = T' := ⟨_, rfl⟩
        have HTn : Hid (T' = tr ++ slotsP (S ++ [(lev', s, x)])) := Lib.hid (by rw [← hT', HTr.out]; unfold loadT; rw [if_pos he]; exact slotsP_more _ _ _ _ _)
        rw [hT'] at CL
        clear hT'
        have HSO := Lib.hid hSl
        clear hs hx he hk HWD
        obtain ⟨m0, m1, m2⟩ := HF.out.mbox.three
        go_upto_region 9 with (first | (go_at_call 69; ((with_reducible refine CS.mono ?_)); rintro e w' ⟨rfl, rfl⟩) | (go_at_call 70; ((with_reducible refine CL.mono ?_)); rintro e w3 ⟨vt', rfl, hW3, hN3, hB3⟩; have HN3 := Lib.hid hN3; have HW3 := Lib.hid hW3; have HK3 := Lib.hid hB3; obtain ⟨A3, c3, rfl⟩ := own_len hW3; clear hW3 hB3 hN3 CL CS m0 m1 m2))
        generalize hw4 : w3.alloc _ = w4
        have HK4 : Hid (Below w3.heap.size w3 w4) := Lib.hid (by rw [← hw4]; exact below_alloc1 _ _)
        have HN4 : Hid (Blk w4 w3.heap.size (docCells M (.slice A0 L.length c0) (.slice A3 T'.length c3)) 45) := Lib.hid (by rw [← hw4]; exact Blk.new _ _ _)
        have HK := Lib.hid (HK3.out.trans (HK4.out.mono HK3.out.size))
        have HF5 := Lib.hid (HF.out.load HK.out (own_below HW3.out HK4.out) HN3.out)
        have HF4 := Lib.hid (HF.out.quiet HK.out)
        clear hw4 HK4 HK3 HW3 HF HK
        obtain ⟨q0, q1, q2⟩ := HN4.out.three
        obtain ⟨m0, m1, m2⟩ := HF4.out.mbox.three
        have z0 := HF4.out.mbox.fz 0; have z1 := HF4.out.mbox.fz 1; have z2 := HF4.out.mbox.fz 2
        go_upto_region 12 with fail
        clear q0 q1 q2 m0 m1 m2 z0 z1 z2 HN4 HF4
        generalize ((w4.setCell _ _).setCell _ _).setCell _ _ = w5 at *
        go_upto_region 13 with (first | (at_builtin; refine wpList_append_own_at _ rfl _ _ 48 rfl (w.heap.size + 5) 97 i0 _ 3 24 Tryz.underlying48 hi hz0 hz1 hz2 rfl (by decide) (.slice As S.length cs) S.length (stepCells S) rfl (World.ownsRow.alloc HF5.out.own _) ⟨w5.heap.size, 0, none⟩ 1 1 [.int .i64 lev', .int .u64 s, .int .u64 x] rfl rfl (three_cells _ _ _ _ _) (three_one _ _ _) (by have := HSO.out; unfold maxLen; omega) (by have := HSO.out; omega) (by have := HF5.out.rgt.lt; simp; omega) ?_; intro v' w6 hown' hgrow hnil hloc; have HF6 := Lib.hid (HF5.out.more hown' hgrow); obtain ⟨g6, cap6, rfl⟩ := ownsRow_form hown' (by omega); clear hgrow hown' hnil hloc HF5))
        have CB := fun w' => rbit_any x 0 w' HX.out
        have CR := fun w' => rres_any x lev' M nxe w' HX.out
        have CF := fun w' => rleaf_any x lev' w' HX.out
        have CA := fun w' => rand_any W' U' X' x w' HX.out
        have CT := fun w' => rtable_any x w' HX.out
        have CFr := fun w' => rframe_any x lev' w' HX.out
        obtain ⟨r0, r1, r2, r3, r4, r5, r6⟩ := HF6.out.rp.seven; have s0 := HF6.out.rp.fz 0; have s1 := HF6.out.rp.fz 1; have s2 := HF6.out.rp.fz 2; have s3 := HF6.out.rp.fz 3; have s4 := HF6.out.rp.fz 4; have s5 := HF6.out.rp.fz 5; have s6 := HF6.out.rp.fz 6; obtain ⟨u0, u1, u2⟩ := HF6.out.rm.three; have v0 := HF6.out.rm.fz 0; have v1 := HF6.out.rm.fz 1; have v2 := HF6.out.rm.fz 2; obtain ⟨m0, m1, m2⟩ := HF6.out.mbox.three
        cases hP : bitF x 0
        · simp only [hP] at CB
          have HO := Lib.hid (on_abs (M := M) (nxe := nxe) (lev := lev') (W := W') (U := U') (X := X') (k := walkZ M f a nxe (lev' - 1)) hP)
          clear hP CR CF CA CT CFr
          go_wp2_with (first | (go_at_call 71; refine (CB _).mono ?_; rintro e w' ⟨rfl, rfl⟩))
          (try rw [Exit.noGoto_ret])
          refine bodyPost_ret (results_two rfl _ _ (w.heap.size + 2) (w.heap.size + 3) _ _ _ _ _ _ _ _ rfl rfl (HF6.out.rmS _ _ _ _ _ _ _ _ _ _) (HF6.out.rpS _ _ _ _ _ _ _ _ _ _) Tryz.underlying45 rfl rfl Tryz.underlying51 rfl rfl) rfl ?_
          rw [HE.out, HA.out, HO.out, preP_preP]
          exact RFm.done (p := offP 1) HF6.out rfl HTn.out _ _ _ _ _ _ _ _ _ _
        · simp only [hP] at CB
          have HO1 := Lib.hid (on_res (M := M) (nxe := nxe) (lev := lev') (W := W') (U := U') (X := X') (k := walkZ M f a nxe (lev' - 1)) hP)
          have HO2 := Lib.hid (on_leaf (M := M) (nxe := nxe) (lev := lev') (W := W') (U := U') (X := X') (k := walkZ M f a nxe (lev' - 1)) hP)
          have HO3 := Lib.hid (on_on (M := M) (nxe := nxe) (lev := lev') (W := W') (U := U') (X := X') (k := walkZ M f a nxe (lev' - 1)) hP)
          clear hP
          cases hR : resF x lev' M nxe
          · simp only [hR] at CR
            obtain ⟨y0, y1, y2⟩ := HF6.out.rgt.three
            clear r0 r1 r2 r3 r4 r5 r6 s0 s1 s2 s3 s4 s5 s6 u0 u1 u2 v0 v1 v2 m0 m1 m2
            obtain ⟨m0, m1, m2⟩ := HF6.out.mbox.three
            go_upto_region 18 with (first | (go_at_call 71; refine (CB _).mono ?_; rintro e w' ⟨rfl, rfl⟩) | (go_at_call 72; refine (CR _).mono ?_; rintro e w' ⟨rfl, rfl⟩) | (go_at_call 73; refine (CA _).mono ?_; rintro e w7 ⟨rfl, hb7⟩; have HF7 := Lib.hid (HF6.out.quiet hb7); clear hb7 HF6 y0 y1 y2 m0 m1 m2; obtain ⟨y0, y1, y2⟩ := HF7.out.rgt.three; have z0 := HF7.out.rgt.fz 0; have z1 := HF7.out.rgt.fz 1; have z2 := HF7.out.rgt.fz 2))
            have HF8 := Lib.hid (HF7.out.right (W' && bitF x 1) (U' && bitF x 2) (X' && !bitF x 63))
            clear HF7 y0 y1 y2 z0 z1 z2
            generalize ((w7.setCell _ _).setCell _ _).setCell _ _ = w8 at *
            cases hL : leafF x lev'
            · simp only [hL] at CF
              have HO := Lib.hid (HO3.out hR hL)
              clear HO1 HO2 HO3 hR hL CFr CA CB CR
              have ew : IntKind.i64.wrap (lev' - 1) = lev' - 1 := i64_wrap (by omega) (by omega)
              go_wp2_with (first | (go_at_call 74; refine (CF _).mono ?_; rintro e w' ⟨rfl, rfl⟩) | (go_at_call 76; refine (CT _).mono ?_; rintro e w' ⟨rfl, rfl⟩))
              go_roundg (gk - 1)
              case measure => omega
              case rel =>
                refine ⟨lev' - 1, tableF x, W' && bitF x 1, U' && bitF x 2, X' && !bitF x 63, S ++ [(lev', s, x)], _, T', HTn, by omega, by omega, by have := HSO.out; simp; omega, w64_table x, rfl, by first | rfl | go_num, ?_, HF8.out⟩
                rw [HE.out, HA.out, HO.out, preP_preP]
            · simp only [hL] at CF
              have HO := Lib.hid (HO2.out hR hL)
              clear HO1 HO2 HO3 hR hL CT CA CB CR
              obtain ⟨y0, y1, y2⟩ := HF8.out.rgt.three
              obtain ⟨m0, m1, m2⟩ := HF8.out.mbox.three
              go_upto_region 19 with (first | (go_at_call 74; refine (CF _).mono ?_; rintro e w' ⟨rfl, rfl⟩))
              have HF9 := Lib.hid (HF8.out.quiet (Kept.drew0 w8))
              have H0 : RegR w M (.slice A0 L.length c0) (.slice A3 T'.length c3) (W' && bitF x 1) (U' && bitF x 2) (X' && !bitF x 63) w8.drew := ⟨HF9.out.mbox, HF9.out.rgt⟩
              refine wp_region_held_drew (S := RegR w M (.slice A0 L.length c0) (.slice A3 T'.length c3) (W' && bitF x 1) (U' && bitF x 2) (X' && !bitF x 63)) (by kernel_rfl) H0 (fun hHeld => ?_)
              clear H0 HF8 y0 y1 y2 m0 m1 m2
              generalize w8.drew = w9 at *
              obtain ⟨r0, r1, r2, r3, r4, r5, r6⟩ := HF9.out.rp.seven; have s0 := HF9.out.rp.fz 0; have s1 := HF9.out.rp.fz 1; have s2 := HF9.out.rp.fz 2; have s3 := HF9.out.rp.fz 3; have s4 := HF9.out.rp.fz 4; have s5 := HF9.out.rp.fz 5; have s6 := HF9.out.rp.fz 6; obtain ⟨u0, u1, u2⟩ := HF9.out.rm.three; have v0 := HF9.out.rm.fz 0; have v1 := HF9.out.rm.fz 1; have v2 := HF9.out.rm.fz 2; obtain ⟨m0, m1, m2⟩ := HF9.out.mbox.three
              clear m0 m1 m2
              refine anyH_take (i := 0) (v := ?_) rfl (by kernel_rfl) (by kernel_rfl) (by kernel_rfl) (fun _ _ _ h => h) (by rfl) (by assumption) ?_ ?_
              rotate_left
              · intro w hSw
                obtain ⟨hA, hB⟩ := hSw
                obtain ⟨m0, m1, m2⟩ := hA.three
                obtain ⟨y0, y1, y2⟩ := hB.three
                go_simp
                (try with_reducible rfl)
              (try simp only [Act.put, List.setIfInBounds_toArray, List.set_cons_zero, List.set_cons_succ])
              refine anyH_take (i := 1) (v := ?_) rfl (by kernel_rfl) (by kernel_rfl) (by kernel_rfl) (fun _ _ _ h => h) (by rfl) (by assumption) ?_ ?_
              rotate_left
              · intro w hSw
                go_simp
                (try with_reducible rfl)
              (try simp only [Act.put, List.setIfInBounds_toArray, List.set_cons_zero, List.set_cons_succ])
              refine anyH_take (i := 2) (v := ?_) rfl (by kernel_rfl) (by kernel_rfl) (by kernel_rfl) (fun _ _ _ h => h) (by rfl) (by assumption) ?_ ?_
              rotate_left
              · intro w hSw
                obtain ⟨hA, hB⟩ := hSw
                obtain ⟨m0, m1, m2⟩ := hA.three
                obtain ⟨y0, y1, y2⟩ := hB.three
                go_simp
                (try with_reducible rfl)
              (try simp only [Act.put, List.setIfInBounds_toArray, List.set_cons_zero, List.set_cons_succ])
              refine anyH_take (i := 3) (v := ?_) rfl (by kernel_rfl) (by kernel_rfl) (by kernel_rfl) (fun _ _ _ h => h) (by rfl) (by assumption) ?_ ?_
              rotate_left
              · intro w hSw
                go_simp
                (try with_reducible rfl)
              (try simp only [Act.put, List.setIfInBounds_toArray, List.set_cons_zero, List.set_cons_succ])
              refine anyH_take (i := 4) (v := ?_) rfl (by kernel_rfl) (by kernel_rfl) (by kernel_rfl) (fun _ _ _ h => h) (by rfl) (by assumption) ?_ ?_
              rotate_left
              · intro w hSw
                go_simp
                (try with_reducible rfl)
              (try simp only [Act.put, List.setIfInBounds_toArray, List.set_cons_zero, List.set_cons_succ])
              refine anyH_take (i := 5) (v := ?_) rfl (by kernel_rfl) (by kernel_rfl) (by kernel_rfl) (fun _ _ _ h => h) (by rfl) (by assumption) ?_ ?_
              rotate_left
              · intro w hSw
                go_simp
                (try with_reducible rfl)
              (try simp only [Act.put, List.setIfInBounds_toArray, List.set_cons_zero, List.set_cons_succ])
              refine wpAnyH_ready (rs := [6]) (by kernel_rfl) (by simp) ?_
              refine anyH_one rfl (fun K hK => ?_) ?_
              · go_simp
                refine (CFr _).mono ?_
                rintro e w' ⟨rfl, rfl⟩
                refine hK.out _ _ (hHeld) (fun hHeld => ?_)
                clear hK K
                (try simp only [Act.put, List.setIfInBounds_toArray, List.set_cons_zero, List.set_cons_succ])
                refine anyH_take (i := 7) (v := ?_) rfl (by kernel_rfl) (by kernel_rfl) (by kernel_rfl) (fun _ _ _ h => h) (by rfl) (by assumption) ?_ ?_
                rotate_left
                · intro w hSw
                  go_simp
                  (try with_reducible rfl)
                (try simp only [Act.put, List.setIfInBounds_toArray, List.set_cons_zero, List.set_cons_succ])
                refine wpAnyH_ready (rs := [8]) (by kernel_rfl) (by simp) ?_
                refine anyH_one rfl (fun K hK => ?_) ?_
                · go_simp
                  refine hK.out _ _ (regr_turn hHeld (turn3 _ _ _ _ _) (Or.inl rfl)) (fun hHeld => ?_)
                  clear hK K
                  (try simp only [Act.put, List.setIfInBounds_toArray, List.set_cons_zero, List.set_cons_succ])
                  refine wpAnyH_ready (rs := [9]) (by kernel_rfl) (by simp) ?_
                  refine anyH_one rfl (fun K hK => ?_) ?_
                  · go_simp
                    refine hK.out _ _ (regr_turn hHeld (turn7 _ _ _ _ _ _ _ _ _) (Or.inr rfl)) (fun hHeld => ?_)
                    clear hK K
                    (try simp only [Act.put, List.setIfInBounds_toArray, List.set_cons_zero, List.set_cons_succ])
                    refine wpAnyH_done (by kernel_rfl) ?_ _
                    clear hHeld
                    go_wp2
                    (try rw [Exit.noGoto_ret])
                    refine bodyPost_ret (results_two rfl _ _ (w.heap.size + 2) (w.heap.size + 3) _ _ _ _ _ _ _ _ rfl rfl (HF9.out.rmS _ _ _ _ _ _ _ _ _ _) (HF9.out.rpS _ _ _ _ _ _ _ _ _ _) Tryz.underlying45 rfl rfl Tryz.underlying51 rfl rfl) rfl ?_
                    rw [HE.out, HA.out, HO.out, preP_preP]
                    exact RFm.done (p := ⟨[], 0, W' && bitF x 1, U' && bitF x 2, X' && !bitF x 63, lev', frameF x lev'⟩) HF9.out rfl HTn.out _ _ _ _ _ _ _ _ _ _
                  exact AllReadyH.nil
                exact AllReadyH.nil
              exact AllReadyH.nil
          · simp only [hR] at CR
            have HO := Lib.hid (HO1.out hR)
            clear HO1 HO2 HO3 hR CF CA CT CFr
            go_wp2_with (first | (go_at_call 71; refine (CB _).mono ?_; rintro e w' ⟨rfl, rfl⟩) | (go_at_call 72; refine (CR _).mono ?_; rintro e w' ⟨rfl, rfl⟩))
            (try rw [Exit.noGoto_ret])
            refine bodyPost_ret (results_two rfl _ _ (w.heap.size + 2) (w.heap.size + 3) _ _ _ _ _ _ _ _ rfl rfl (HF6.out.rmS _ _ _ _ _ _ _ _ _ _) (HF6.out.rpS _ _ _ _ _ _ _ _ _ _) Tryz.underlying45 rfl rfl Tryz.underlying51 rfl rfl) rfl ?_
            rw [HE.out, HA.out, HO.out, preP_preP]
            exact RFm.done (p := offP 2) HF6.out rfl HTn.out _ _ _ _ _ _ _ _ _ _
      · have HA := Lib.hid (walk_err (f := f) (nxe := nxe) (W := W') (U := U') (X := X') h1 h4 (by rw [hs]; exact he))
        have hb2 : (errS M s != 0) = true := by simpa using he
        rw [show loadT M T s = T from if_neg he] at CL
        clear hs he hk HWD
        obtain ⟨m0, m1, m2⟩ := HF.out.mbox.three
        go_upto_region 9 with (first | (go_at_call 69; ((with_reducible refine CS.mono ?_)); rintro e w' ⟨rfl, rfl⟩) | (go_at_call 70; ((with_reducible refine CL.mono ?_)); rintro e w3 ⟨vt', rfl, hW3, hN3, hB3⟩; have HN3 := Lib.hid hN3; have HW3 := Lib.hid hW3; have HK3 := Lib.hid hB3; obtain ⟨A3, c3, rfl⟩ := own_len hW3; clear hW3 hB3 hN3 CL CS m0 m1 m2))
        generalize hw4 : w3.alloc _ = w4
        have HK4 : Hid (Below w3.heap.size w3 w4) := Lib.hid (by rw [← hw4]; exact below_alloc1 _ _)
        have HN4 : Hid (Blk w4 w3.heap.size (docCells M (.slice A0 L.length c0) (.slice A3 T.length c3)) 45) := Lib.hid (by rw [← hw4]; exact Blk.new _ _ _)
        have HK := Lib.hid (HK3.out.trans (HK4.out.mono HK3.out.size))
        have HF5 := Lib.hid (HF.out.load HK.out (own_below HW3.out HK4.out) HN3.out)
        have HF4 := Lib.hid (HF.out.quiet HK.out)
        clear hw4 HK4 HK3 HW3 HF HK
        obtain ⟨q0, q1, q2⟩ := HN4.out.three
        obtain ⟨m0, m1, m2⟩ := HF4.out.mbox.three
        have z0 := HF4.out.mbox.fz 0; have z1 := HF4.out.mbox.fz 1; have z2 := HF4.out.mbox.fz 2
        go_upto_region 10 with fail
        clear q0 q1 q2 m0 m1 m2 z0 z1 z2 HN4 HF4
        generalize ((w4.setCell _ _).setCell _ _).setCell _ _ = w5 at *
        obtain ⟨r0, r1, r2, r3, r4, r5, r6⟩ := HF5.out.rp.seven; have s0 := HF5.out.rp.fz 0; have s1 := HF5.out.rp.fz 1; have s2 := HF5.out.rp.fz 2; have s3 := HF5.out.rp.fz 3; have s4 := HF5.out.rp.fz 4; have s5 := HF5.out.rp.fz 5; have s6 := HF5.out.rp.fz 6; obtain ⟨u0, u1, u2⟩ := HF5.out.rm.three; have v0 := HF5.out.rm.fz 0; have v1 := HF5.out.rm.fz 1; have v2 := HF5.out.rm.fz 2; obtain ⟨m0, m1, m2⟩ := HF5.out.mbox.three
        go_wp2
        (try rw [Exit.noGoto_ret])
        refine bodyPost_ret (results_two rfl _ _ (w.heap.size + 2) (w.heap.size + 3) _ _ _ _ _ _ _ _ rfl rfl (HF5.out.rmS _ _ _ _ _ _ _ _ _ _) (HF5.out.rpS _ _ _ _ _ _ _ _ _ _) Tryz.underlying45 rfl rfl Tryz.underlying51 rfl rfl) rfl ?_
        rw [HE.out, HA.out]
        exact RFm.done (p := offP 2) HF5.out rfl HTr.out _ _ _ _ _ _ _ _ _ _
    · have HA := Lib.hid (walk_off (M := M) (f := f) (a := a) (nxe := nxe) (t := t') (W := W') (U := U') (X := X') hl')
      have hg : decide (1 ≤ lev') = false ∨ (1 ≤ lev' ∧ 4 < lev') := by
        by_cases c : 1 ≤ lev'
        · exact Or.inr ⟨c, by omega⟩
        · exact Or.inl (by simpa using c)
      obtain ⟨r0, r1, r2, r3, r4, r5, r6⟩ := HF.out.rp.seven; have s0 := HF.out.rp.fz 0; have s1 := HF.out.rp.fz 1; have s2 := HF.out.rp.fz 2; have s3 := HF.out.rp.fz 3; have s4 := HF.out.rp.fz 4; have s5 := HF.out.rp.fz 5; have s6 := HF.out.rp.fz 6; obtain ⟨u0, u1, u2⟩ := HF.out.rm.three; have v0 := HF.out.rm.fz 0; have v1 := HF.out.rm.fz 1; have v2 := HF.out.rm.fz 2; obtain ⟨m0, m1, m2⟩ := HF.out.mbox.three
      clear HWD hk hl'
      rcases hg with hg | ⟨hg, hg2⟩
      · have hg3 : lev' < 1 := by simpa using hg
        clear hg
        go_wp2
        (try rw [Exit.noGoto_ret])
        refine bodyPost_ret (results_two rfl _ _ (w.heap.size + 2) (w.heap.size + 3) _ _ _ _ _ _ _ _ rfl rfl (HF.out.rmS _ _ _ _ _ _ _ _ _ _) (HF.out.rpS _ _ _ _ _ _ _ _ _ _) Tryz.underlying45 rfl rfl Tryz.underlying51 rfl rfl) rfl ?_
        rw [HE.out, HA.out]
        exact RFm.done (p := offP 2) HF.out rfl HTr.out _ _ _ _ _ _ _ _ _ _
      · go_wp2
        (try rw [Exit.noGoto_ret])
        refine bodyPost_ret (results_two rfl _ _ (w.heap.size + 2) (w.heap.size + 3) _ _ _ _ _ _ _ _ rfl rfl (HF.out.rmS _ _ _ _ _ _ _ _ _ _) (HF.out.rpS _ _ _ _ _ _ _ _ _ _) Tryz.underlying45 rfl rfl Tryz.underlying51 rfl rfl) rfl ?_
        rw [HE.out, HA.out]
        exact RFm.done (p := offP 2) HF.out rfl HTr.out _ _ _ _ _ _ _ _ _ _
end Go.Proofs.YtopmmlcjlopmaaaGreatDoor
/- Walks through words that are alike but for A and D. Two memories that turn by turns; a path beside both. -/
namespace Go.Proofs.YtopmmlcjlopmaaaGreatDoor
set_option linter.unusedVariables false
set_option linter.unusedSimpArgs false
open Go.ChangeShapes Go.WideShapes Go.ChangeAt Go.RowKit Go.Joins

/-- two words alike but for the bits 5 and 6 -/
structure Al (x y : Int) : Prop where
  wx : W64 x
  wy : W64 y
  rest : ∀ i, i ≠ 5 → i ≠ 6 → tb x i = tb y i

theorem Al.refl {x : Int} (h : W64 x) : Al x x := ⟨h, h, fun _ _ _ => rfl⟩
theorem Al.trans {x y z : Int} (a : Al x y) (b : Al y z) : Al x z := ⟨a.wx, b.wy, fun i h5 h6 => (a.rest i h5 h6).trans (b.rest i h5 h6)⟩
theorem Up.al {f g : Int → Int} (h : Up f g) (hf : ∀ j, W64 (f j)) (j : Int) : Al (f j) (g j) := ⟨hf j, h.w j, fun i h5 h6 => (h.rest j i h5 h6).symm⟩
/-- two walks alike but for A and D -/
structure AlP (P Q : Pth) : Prop where
  why : P.why = Q.why
  W : P.W = Q.W
  U : P.U = Q.U
  X : P.X = Q.X
  lev : P.lev = Q.lev
  fr : P.fr = Q.fr
  len : P.steps.length = Q.steps.length
  at_ : ∀ i, i < P.steps.length → (stepAt P.steps i).1 = (stepAt Q.steps i).1 ∧ (stepAt P.steps i).2.1 = (stepAt Q.steps i).2.1 ∧ bareF (stepAt P.steps i).2.2 = bareF (stepAt Q.steps i).2.2

theorem AlP.refl (P : Pth) : AlP P P := ⟨rfl, rfl, rfl, rfl, rfl, rfl, rfl, fun _ _ => ⟨rfl, rfl, rfl⟩⟩
theorem same_of {S T : List (Int × Int × Int)} : ∀ k, (∀ i, i < k → (stepAt S i).1 = (stepAt T i).1 ∧ (stepAt S i).2.1 = (stepAt T i).2.1 ∧ bareF (stepAt S i).2.2 = bareF (stepAt T i).2.2) → sameN S T k = true
  | 0, _ => rfl
  | k + 1, h => by
    obtain ⟨a, b, c⟩ := h k (by omega)
    unfold sameN
    rw [same_of k (fun i hi => h i (by omega)), a, b, c]; simp

/-- two memories that turn by turns -/
structure Par (w wr : World) (mk : Nat) (h : Int → Int) (tk : List Int) (nk : Nat) (G : Nat → Prop) (m : Nat) (f : Int → Int) (tm : List Int) (nm : Nat) (H : Nat → Prop) : Prop where
  k : Wk w wr (From w.heap.size) mk 16 h tk nk G
  m : Wk w wr (From w.heap.size) m 16 f tm nm H
  free : ∀ i, G i → ¬ H i
  sh : Shifts wr

section
variable {w wr w3 w4 : World} {mk m nk nm nk' : Nat} {h h' f : Int → Int} {tk tk' tm : List Int} {G G' H : Nat → Prop}
theorem Par.quiet (p : Par w wr mk h tk nk G m f tm nm H) (hb : Below wr.heap.size wr w3) : Par w w3 mk h tk nk G m f tm nm H := ⟨p.k.quiet hb, p.m.quiet hb, p.free, shifts_under p.sh hb (size_shifts p.sh)⟩
theorem Par.step (p : Par w wr mk h tk nk G m f tm nm H) (hz : 1 < w.heap.size) (s : Wk wr w4 G mk 16 h' tk' nk' G') : Par w w4 mk h' tk' nk' G' m f tm nm H :=
  ⟨p.k.join s, p.m.other s.turn (fun i _ hg hh => p.free i hg hh) (fun i hi => (p.k.foot i hi).2), fun i hg hh => by
    rcases (s.foot i hg).2 with h1 | h1
    · exact p.free i h1 hh
    · have := (p.m.foot i hh).1; omega, shifts_turn p.sh s.turn (p.k.no0 hz)⟩
end

/-- a path in a variable, beside blocks that turn -/
structure Pat (wr : World) (b : Nat) (v : Value) (P : Pth) (G H : Nat → Prop) : Prop where
  box : Blk wr b (pathCells v P) 37
  nb : ¬ G b ∧ ¬ H b
  own : StepsOwn 99 wr 0 v P.steps
  nv : ∀ i, v.ownBlock = some i → ¬ G i ∧ ¬ H i

section
variable {w wr w3 w4 : World} {B b mk m nk nm nk' : Nat} {v : Value} {P : Pth} {h h' f : Int → Int} {tk tk' tm : List Int} {G G' H : Nat → Prop}
theorem Pat.quiet (p : Pat wr b v P G H) (hb : Below wr.heap.size wr w3) : Pat w3 b v P G H := ⟨p.box.below hb, p.nb, p.own.below hb, p.nv⟩
theorem Pat.step (p : Pat wr b v P G H) (s : Wk wr w4 G mk 16 h' tk' nk' G') : Pat w4 b v P G' H :=
  ⟨p.box.turn s.turn p.nb.1, ⟨s.free p.nb.1 p.box.lt, p.nb.2⟩, p.own.turn s.turn (fun i hi => (p.nv i hi).1), fun i hi => ⟨s.free (p.nv i hi).1 (p.own.lt hi).2, (p.nv i hi).2⟩⟩
/-- a path that a walk through the memory mk answered is laid in a new variable -/
theorem Pat.new (q : Par w wr mk h tk nk G m f tm nm H) (hs : StepsOwn 99 wr B v P.steps) (hv : ∀ i, v.ownBlock = some i → ¬ G i) (hH : ∀ i, v.ownBlock = some i → ¬ H i) :
    Pat (wr.alloc (.cells (pathCells v P) 37)) wr.heap.size v P G H :=
  ⟨Blk.new _ _ _, ⟨fun hg => by have := (q.k.foot _ hg).1; omega, fun hg => by have := (q.m.foot _ hg).1; omega⟩, (hs.down (Nat.zero_le _)).below (below_alloc1 _ _), fun i hi => ⟨hv i hi, hH i hi⟩⟩
end

end Go.Proofs.YtopmmlcjlopmaaaGreatDoor
/- Same of package walk and of the document where two paths' heads differ; the document's Bare. (Laid by tools/gen_hw.py.) -/
namespace Go.Proofs.YtopmmlcjlopmaaaGreatDoor
set_option linter.unusedVariables false
set_option linter.unusedSimpArgs false
open Go.ChangeShapes Go.WideShapes Go.ChangeAt Go.RowKit Go.Joins

theorem bare_with {x : Int} (hx : W64 x) : withF (withF x 5 false) 6 false = bareF x := by
  unfold bareF
  have h1 : W64 (withF x 5 false) := by unfold withF; rw [if_neg (by decide)]; exact w64_bits _ _ _
  apply tb_ext (by show W64 (withF (withF x 5 false) 6 false); generalize withF x 5 false = z; unfold withF; rw [if_neg (by decide)]; exact w64_bits _ _ _) (w64_bits _ _ _)
  intro i hi
  rw [tb_with h1, tb_with hx, tb_andNot hx.1 (by decide), tb_96]
  by_cases e5 : i = 5
  · subst e5; simp
  · by_cases e6 : i = 6
    · subst e6; simp
    · rw [if_neg (by omega), if_neg (by omega), decide_eq_false (show ¬ 5 = i from fun e => e5 e.symm), decide_eq_false (show ¬ 6 = i from fun e => e6 e.symm)]; simp [hi]

theorem bare_any (x : Int) (w : World) (hx : W64 x) :
    Calls Tryz.prog 37 #[.int .u64 x] w fun e w' => e = .returned (.int .u64 (bareF x)) ∧ w = w' := by
  have HW : Hid (W64 (withF x 5 false)) := Lib.hid (by unfold withF; rw [if_neg (by decide)]; exact w64_bits _ _ _)
  rw [← bare_with hx]
  go_enter Tryz.func37, Tryz.ntmps37
  go_wp2_with (go_at_call 83; (first | refine (rwith_any _ _ _ _ (by assumption)).mono ?_ | refine (rwith_any _ _ _ _ HW.out).mono ?_); rintro e w' ⟨rfl, rfl⟩)
  go_ret
  exact ⟨rfl, rfl⟩

set_option maxRecDepth 100000 in
set_option maxHeartbeats 6400000 in
theorem rsame_no (w : World) (A A' : Option Addr) (L L' c c' : Nat) (y y' : Int) (W W' U U' X X' : Bool) (lv lv' fr fr' : Int) (h : ¬ (y = y' ∧ W = W' ∧ U = U' ∧ X = X' ∧ lv = lv' ∧ fr = fr' ∧ L = L')) :
    Calls Tryz.prog 13 #[pathV (.slice A L c) y W U X lv fr, pathV (.slice A' L' c') y' W' U' X' lv' fr'] w fun e w' => e = .returned (.bool false) ∧ Below w.heap.size w w' := by
  by_cases h0 : y = y'
  rotate_left
  · have hb : (y != y') = true := by simpa using h0
    clear h h0
    go_enter Tryz.func13, Tryz.ntmps13
    go_wp2
    go_ret
    exact ⟨rfl, below2 w _ _⟩
  subst h0
  by_cases h1 : W = W'
  rotate_left
  · clear h
    cases W <;> cases W' <;> first | exact absurd rfl h1 | skip
    all_goals
      clear h1
      go_enter Tryz.func13, Tryz.ntmps13
      go_wp2
      go_ret
      exact ⟨rfl, below2 w _ _⟩
  subst h1
  by_cases h2 : U = U'
  rotate_left
  · clear h
    cases U <;> cases U' <;> first | exact absurd rfl h2 | skip
    all_goals
      clear h2
      go_enter Tryz.func13, Tryz.ntmps13
      go_wp2
      go_ret
      exact ⟨rfl, below2 w _ _⟩
  subst h2
  by_cases h3 : X = X'
  rotate_left
  · clear h
    cases X <;> cases X' <;> first | exact absurd rfl h3 | skip
    all_goals
      clear h3
      go_enter Tryz.func13, Tryz.ntmps13
      go_wp2
      go_ret
      exact ⟨rfl, below2 w _ _⟩
  subst h3
  by_cases h4 : lv = lv'
  rotate_left
  · have hb : (lv != lv') = true := by simpa using h4
    clear h h4
    go_enter Tryz.func13, Tryz.ntmps13
    go_wp2
    go_ret
    exact ⟨rfl, below2 w _ _⟩
  subst h4
  by_cases h5 : fr = fr'
  rotate_left
  · have hb : (fr != fr') = true := by simpa using h5
    clear h h5
    go_enter Tryz.func13, Tryz.ntmps13
    go_wp2
    go_ret
    exact ⟨rfl, below2 w _ _⟩
  subst h5
  have hb : ((L : Int) != (L' : Int)) = true := by simp; intro e; exact h ⟨rfl, rfl, rfl, rfl, rfl, rfl, by omega⟩
  clear h
  go_enter Tryz.func13, Tryz.ntmps13
  go_wp2
  go_ret
  exact ⟨rfl, below2 w _ _⟩

end Go.Proofs.YtopmmlcjlopmaaaGreatDoor
