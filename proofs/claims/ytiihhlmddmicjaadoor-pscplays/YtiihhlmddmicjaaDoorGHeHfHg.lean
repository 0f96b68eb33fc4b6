/- Several texts of ours in one: He, Hf, Hg. -/
import Derived.Test.YtiihhlmddmicjaaDoorGEbHdSm
import Derived.BigQuiet
import Derived.Deep.Cut
import Derived.Test.YtiihhlmddmicjaaDoorGRgHbHc
import Derived.Test.YtiihhlmddmicjaaDoorGMdMeEm
/- Contracts of package walk: From. (Laid by tools/gen_he.py.) -/
namespace Go.Proofs.YtiihhlmddmicjaaDoor
set_option linter.unusedVariables false
set_option linter.unusedSimpArgs false
open Go.ChangeShapes Go.WideShapes Go.ChangeAt Go.RowKit Go.Joins

theorem slot_le (t a l : Int) : W64 (slotF t a l) := by
  have h1 := table_bd t
  have h2 := index_bd a l
  unfold slotF W64
  omega
theorem i64_of_bits {M : Int} (h : 14 ≤ M ∧ M ≤ 22) : I64 M := by unfold I64; omega
theorem i64_wrap {z : Int} (h0 : -9223372036854775808 ≤ z) (h1 : z < 9223372036854775808) : IntKind.i64.wrap z = z := by
  rw [IntKind.wrap_i64]; omega
theorem slotsP_more (tr : List Int) (S : List (Int × Int × Int)) (l s x : Int) : tr ++ slotsP S ++ [s] = tr ++ slotsP (S ++ [(l, s, x)]) := by
  unfold slotsP; simp
theorem and_one (x : Int) : (bits .and .u64 x 1 == 0) = !bitF x 0 := by
  rw [← has_b0]; unfold hasF bne; simp

/-- what the region of From's leaf keeps -/
def RegL (w : World) (lev t : Int) (W U X : Bool) (w' : World) : Prop := Blk w' w.heap.size #[.int .i64 lev, .int .u64 t, .bool W, .bool U, .bool X] 41 ∧ Shifts w'
theorem regl_set {w w' : World} {lev t : Int} {W U X : Bool} (h : RegL w lev t W U X w') {b : Nat} (hb : b = w.heap.size + 2) (i : Nat) (y : Value) : RegL w lev t W U X (w'.setCell ⟨b, i, none⟩ y) :=
  ⟨h.1.turn (turn1 _ b i y) (by omega), shifts_turn h.2 (turn1 _ b i y) (by omega)⟩

set_option maxRecDepth 100000 in
set_option maxHeartbeats 8000000 in
theorem from_any {w : World} {F : Nat → Prop} {m : Nat} {M : Int} {f : Int → Int} {tr : List Int} {n : Nat} (h : Mem w F m M f tr n) (hn : n < 900000) (h0 : ¬ F 0) (hs : Shifts w) (lev t a : Int) (W U X nxe : Bool) (ht : W64 t) (ha : W64 a) :
    Calls Tryd.prog 20 #[.pointer (some ⟨m, 0, none⟩), placeV lev t W U X, .int .u64 a, .bool nxe] w (FromAns w F m M f tr (n + 5) (walkZ M f a nxe lev t W U X)) := by
  obtain ⟨i0, hi, hz0, hz1, hz2⟩ := info_parts infoStep
  have HP := Lib.hid (fm_start (lev := lev) (t := t) (W := W) (U := U) (X := X) h h0 hs)
  have HB := Lib.hid h.bits
  have HWD := Lib.hid h.words
  clear h hs
  go_enter Tryd.func20, Tryd.ntmps20
  go_wp2
  go_step3
  go_wp2
  go_step3
  go_wp2
  go_loopg [] 5 (fun k wr => ∃ (lev' t' : Int) (W' U' X' : Bool) (S : List (Int × Int × Int)) (v : Value) (G : Nat → Prop), (lev' ≤ 4 → lev' ≤ k) ∧ k ≤ 5 ∧ S.length + k ≤ 5 ∧ W64 t' ∧ walkZ M f a nxe lev t W U X = preP S (walkZ M f a nxe lev' t' W' U' X') ∧ Fm w wr F m M f (tr ++ slotsP S) (n + 5 - k) lev' t' W' U' X' S v (offP 2) G)
  case atStart => exact ⟨lev, t, W, U, X, [], .slice none 0 0, _, by omega, by omega, by simp, ht, (preP_nil _).symm, by rw [show slotsP [] = [] from rfl, List.append_nil]; exact HP.out⟩
  case round =>
    obtain ⟨lev', t', W', U', X', S, v, G, hk, hk5, hSl, ht', hE, hF⟩ := hrel
    obtain ⟨A, c, rfl⟩ := hF.own.form
    have HE := Lib.hid hE
    have HF := Lib.hid hF
    clear hE HP
    obtain ⟨b0, b1, b2, b3, b4⟩ := hF.box.five; obtain ⟨p0, p1, p2, p3, p4, p5, p6⟩ := hF.pth.seven; have q0 := hF.pth.fz 0; have q1 := hF.pth.fz 1; have q2 := hF.pth.fz 2; have q3 := hF.pth.fz 3; have q4 := hF.pth.fz 4; have q5 := hF.pth.fz 5; have q6 := hF.pth.fz 6; obtain ⟨r0, r1, r2, r3, r4, r5, r6⟩ := hF.res.seven; have s0 := hF.res.fz 0; have s1 := hF.res.fz 1; have s2 := hF.res.fz 2; have s3 := hF.res.fz 3; have s4 := hF.res.fz 4; have s5 := hF.res.fz 5; have s6 := hF.res.fz 6
    clear hF
    by_cases hl : 1 ≤ lev' ∧ lev' ≤ 4
    · obtain ⟨h1, h4⟩ := hl
      have hk' := hk h4
      have CI := fun w' => isLevel_yes lev' w' h1 h4
      have CS := slot_any t' a lev' wr HF.out.sh ht' ha
      have HSL := Lib.hid (slot_le t' a lev')
      obtain ⟨s, hs⟩ : ∃ s, slotF t' a lev' = s := ⟨_, rfl⟩
      rw [hs] at CS HSL
      have CL := mload_any HF.out.wk.mem (by omega) s HSL.out
      by_cases he : errS M s = 0
      · obtain ⟨x, hx⟩ : ∃ x, f (s / 8) = x := ⟨_, rfl⟩
        have HX := Lib.hid (show W64 x from hx ▸ HWD.out _)
        have HA := Lib.hid (walk_at (M := M) (f := f) (a := a) (nxe := nxe) (W := W') (U := U') (X := X') h1 h4 hs he hx)
        rw [show peekV M f s = x by unfold peekV; rw [if_pos he, hx], he, show loadT M (tr ++ slotsP S) s = tr ++ slotsP (S ++ [(lev', s, x)]) by unfold loadT; rw [if_pos he]; exact slotsP_more _ _ _ _ _] at CL
        have HSO := Lib.hid hSl
        clear hs hx he hk HWD
        have hbit := and_one x
        go_upto_region 7 with (first | (go_at_call 47; refine (CI _).mono ?_; rintro e w' ⟨rfl, rfl⟩) | (go_at_call 48; refine CS.mono ?_; rintro e w' ⟨rfl, rfl⟩) | (go_at_call 49; refine CL.mono ?_; rintro e w3 ⟨rfl, hM3, hT3⟩; obtain ⟨G3, hF3⟩ := HF.out.load hM3 hT3; have HF3 := Lib.hid hF3; clear hM3 hT3 CL CS b0 b1 b2 b3 b4 p0 p1 p2 p3 p4 p5 p6 q0 q1 q2 q3 q4 q5 q6 r0 r1 r2 r3 r4 r5 r6 s0 s1 s2 s3 s4 s5 s6; obtain ⟨b0, b1, b2, b3, b4⟩ := hF3.box.five; obtain ⟨p0, p1, p2, p3, p4, p5, p6⟩ := hF3.pth.seven; have q0 := hF3.pth.fz 0; have q1 := hF3.pth.fz 1; have q2 := hF3.pth.fz 2; have q3 := hF3.pth.fz 3; have q4 := hF3.pth.fz 4; have q5 := hF3.pth.fz 5; have q6 := hF3.pth.fz 6; obtain ⟨r0, r1, r2, r3, r4, r5, r6⟩ := hF3.res.seven; have s0 := hF3.res.fz 0; have s1 := hF3.res.fz 1; have s2 := hF3.res.fz 2; have s3 := hF3.res.fz 3; have s4 := hF3.res.fz 4; have s5 := hF3.res.fz 5; have s6 := hF3.res.fz 6; have al0 : ∀ o, (w3.alloc o).cell? ⟨w.heap.size + 2, 0, none⟩ = some (.slice A S.length c) := fun o => (World.cell?_of_block (a := ⟨w.heap.size + 2, 0, none⟩) (Deep.blk_alloc_lt _ _ _ hF3.pth.lt)).trans p0; clear hF3) | (at_builtin; refine wpList_append_own_at _ rfl _ _ 35 rfl (w.heap.size + 3) 65 i0 _ 3 24 Tryd.underlying35 hi hz0 hz1 hz2 rfl (by decide) (.slice A S.length c) S.length (stepCells S) rfl (World.ownsRow.alloc HF3.out.own _) ⟨w3.heap.size, 0, none⟩ 1 1 [.int .i64 lev', .int .u64 s, .int .u64 x] rfl rfl (three_cells _ _ _ _ _) (three_one _ _ _) (by have := HSO.out; unfold maxLen; omega) (by have := HSO.out; omega) (by have := HF3.out.pth.lt; simp; omega) ?_; intro v' w5 hown' hgrow hnil hloc; have HN := Lib.hid (HF3.out.more hown' hgrow (by simpa using hloc)); obtain ⟨g5, cap5, rfl⟩ := ownsRow_form hown' (by omega); clear hgrow hown' hnil hloc; clear b0 b1 b2 b3 b4 p0 p1 p2 p3 p4 p5 p6 q0 q1 q2 q3 q4 q5 q6 r0 r1 r2 r3 r4 r5 r6 s0 s1 s2 s3 s4 s5 s6; obtain ⟨p0, p1, p2, p3, p4, p5, p6⟩ := HN.out.2.1.seven; have q0 := HN.out.2.1.fz 0))
        obtain ⟨w6, hw6⟩ : ∃ w6, w5.setCell ⟨w.heap.size + 1 + 1, 0, none⟩ (.slice (some ⟨g5, 0, none⟩) (S.length + 1) cap5) = w6 := ⟨_, rfl⟩
        have HF6 : Hid (Fm w w6 F m M f (tr ++ slotsP (S ++ [(lev', s, x)])) (n + 5 - gk + 1) lev' t' W' U' X' (S ++ [(lev', s, x)]) (.slice (some ⟨g5, 0, none⟩) (S.length + 1) cap5) (offP 2) G3) := Lib.hid (hw6 ▸ HN.out.1)
        rw [hw6]
        clear hw6 HN p0 p1 p2 p3 p4 p5 p6 q0 al0 HF3 HF
        have hF6 := HF6.out
        obtain ⟨b0, b1, b2, b3, b4⟩ := hF6.box.five; obtain ⟨p0, p1, p2, p3, p4, p5, p6⟩ := hF6.pth.seven; have q0 := hF6.pth.fz 0; have q1 := hF6.pth.fz 1; have q2 := hF6.pth.fz 2; have q3 := hF6.pth.fz 3; have q4 := hF6.pth.fz 4; have q5 := hF6.pth.fz 5; have q6 := hF6.pth.fz 6; obtain ⟨r0, r1, r2, r3, r4, r5, r6⟩ := hF6.res.seven; have s0 := hF6.res.fz 0; have s1 := hF6.res.fz 1; have s2 := hF6.res.fz 2; have s3 := hF6.res.fz 3; have s4 := hF6.res.fz 4; have s5 := hF6.res.fz 5; have s6 := hF6.res.fz 6
        clear hF6
        cases hP : bitF x 0
        · have hB2 : (bits .and .u64 x 1 == 0) = true := by rw [hbit, hP]; rfl
          have HD := Lib.hid (HF6.out.path (p' := offP 1) (turn1 w6 (w.heap.size + 2) 1 (.int .i64 1)) (HF6.out.pth.set1 1 (.int .i64 1)))
          have HO := Lib.hid (on_abs (M := M) (nxe := nxe) (lev := lev') (W := W') (U := U') (X := X') (k := walkZ M f a nxe (lev' - 1)) hP)
          clear hbit hP
          go_wp2
          (try rw [Exit.noGoto_ret])
          refine bodyPost_ret (results_cell_row rfl _ _ (w.heap.size + 1) _ _ _ _ rfl (HD.out.res.set7 _ _ _ _ _ _ _) Tryd.underlying39 rfl rfl) rfl ?_
          rw [HE.out, HA.out, HO.out, preP_preP]
          exact (Fm.done HD.out rfl rfl).more (by omega)

        · have hB2 : (bits .and .u64 x 1 == 0) = false := by rw [hbit, hP]; rfl
          have CB := fun k => mbits_any (HF6.out.wk.mem.kept (drewN_below w6 k))
          have CR := fun k => res_any x lev' M nxe (w6.drewN k) (i64_of_bits HB.out)
          have HO1 := Lib.hid (on_res (M := M) (nxe := nxe) (lev := lev') (W := W') (U := U') (X := X') (k := walkZ M f a nxe (lev' - 1)) hP)
          have HO2 := Lib.hid (on_leaf (M := M) (nxe := nxe) (lev := lev') (W := W') (U := U') (X := X') (k := walkZ M f a nxe (lev' - 1)) hP)
          have HO3 := Lib.hid (on_on (M := M) (nxe := nxe) (lev := lev') (W := W') (U := U') (X := X') (k := walkZ M f a nxe (lev' - 1)) hP)
          clear hbit hP
          have CF := fun w' => leaf_any x lev' w'
          have CA := and_any W' U' X' x
          have CBel := below_any lev' t' x W' U' X'
          cases hR : resF x lev' M nxe
          · simp only [hR] at CR
            cases hL : leafF x lev'
            · simp only [hL] at CF
              have HO := Lib.hid (HO3.out hR hL)
              clear HO1 HO2 HO3 hR hL
              go_wp2
              go_quiet (first | (go_at_call 51; exact quietOf (CB _)) | (go_at_call 50; exact quietOf (CR _)))
              have HF7 := Lib.hid (HF6.out.quiet (drewN_below w6 nq))
              clear b0 b1 b2 b3 b4 p0 p1 p2 p3 p4 p5 p6 q0 q1 q2 q3 q4 q5 q6 r0 r1 r2 r3 r4 r5 r6 s0 s1 s2 s3 s4 s5 s6 CB CR HF6 CA
              generalize w6.drewN nq = w7 at *
              have hF7 := HF7.out
              obtain ⟨b0, b1, b2, b3, b4⟩ := hF7.box.five
              clear hF7
              go_wp2_with (first | (go_at_call 52; refine (CF _).mono ?_; rintro e w' ⟨rfl, rfl⟩) | (go_at_call 55; refine (CBel _ HX.out).mono ?_; rintro e w8 ⟨rfl, hb8⟩; have HF8 := Lib.hid (HF7.out.quiet hb8); clear hb8 b0 b1 b2 b3 b4; have hF8 := HF8.out; obtain ⟨b0, b1, b2, b3, b4⟩ := hF8.box.five; have c0 := hF8.box.fz 0; have c1 := hF8.box.fz 1; have c2 := hF8.box.fz 2; have c3 := hF8.box.fz 3; have c4 := hF8.box.fz 4; clear hF8))
              have HF9 := Lib.hid (HF8.out.place (turn5 w8 w.heap.size (.int .i64 (IntKind.i64.wrap (lev' - 1))) (.int .u64 (tableF x)) (.bool (W' && bitF x 1)) (.bool (U' && bitF x 2)) (.bool (X' && !bitF x 63))) (HF8.out.box.set5 _ _ _ _ _))
              have ew : IntKind.i64.wrap (lev' - 1) = lev' - 1 := i64_wrap (by omega) (by omega)
              go_roundg (gk - 1)
              case measure => omega
              case rel =>
                refine ⟨lev' - 1, tableF x, W' && bitF x 1, U' && bitF x 2, X' && !bitF x 63, S ++ [(lev', s, x)], .slice (some ⟨g5, 0, none⟩) (S.length + 1) cap5, G3, by omega, by omega, by have := HSO.out; simp; omega, w64_table x, ?_, ?_⟩
                · rw [HE.out, HA.out, HO.out, preP_preP]
                · have h9 := HF9.out
                  rw [ew] at h9
                  rw [show n + 5 - (gk - 1) = n + 5 - gk + 1 by omega]
                  exact h9
            · simp only [hL] at CF
              have HO := Lib.hid (HO2.out hR hL)
              clear HO1 HO2 HO3 hR hL CBel
              go_wp2
              go_quiet (first | (go_at_call 51; exact quietOf (CB _)) | (go_at_call 50; exact quietOf (CR _)))
              have HF7 := Lib.hid (HF6.out.quiet (drewN_below w6 nq))
              clear b0 b1 b2 b3 b4 p0 p1 p2 p3 p4 p5 p6 q0 q1 q2 q3 q4 q5 q6 r0 r1 r2 r3 r4 r5 r6 s0 s1 s2 s3 s4 s5 s6 CB CR HF6
              generalize w6.drewN nq = w7 at *
              have hF7 := HF7.out
              obtain ⟨b0, b1, b2, b3, b4⟩ := hF7.box.five
              clear hF7
              go_upto_region 12 with (first | (go_at_call 52; refine (CF _).mono ?_; rintro e w' ⟨rfl, rfl⟩) | (go_at_call 53; refine (CA _).mono ?_; rintro e w8 ⟨rfl, hb8⟩; have HF8 := Lib.hid (HF7.out.quiet hb8); clear hb8 b0 b1 b2 b3 b4; have hF8 := HF8.out; obtain ⟨p0, p1, p2, p3, p4, p5, p6⟩ := hF8.pth.seven; have q1 := hF8.pth.fz 1; have q2 := hF8.pth.fz 2; have q3 := hF8.pth.fz 3; have q4 := hF8.pth.fz 4; clear hF8))
              obtain ⟨w9, hw9⟩ : ∃ w9, (((w8.setCell ⟨w.heap.size + 1 + 1, 1, none⟩ (.int .i64 0)).setCell ⟨w.heap.size + 1 + 1, 2, none⟩ (.bool (W' && bitF x 1))).setCell ⟨w.heap.size + 1 + 1, 3, none⟩ (.bool (U' && bitF x 2))).setCell ⟨w.heap.size + 1 + 1, 4, none⟩ (.bool (X' && !bitF x 63)) = w9 := ⟨_, rfl⟩
              have HF9 : Hid (Fm w w9 F m M f (tr ++ slotsP (S ++ [(lev', s, x)])) (n + 5 - gk + 1) lev' t' W' U' X' (S ++ [(lev', s, x)]) (.slice (some ⟨g5, 0, none⟩) (S.length + 1) cap5) ⟨[], 0, W' && bitF x 1, U' && bitF x 2, X' && !bitF x 63, 0, 0⟩ G3) :=
                Lib.hid (hw9 ▸ HF8.out.path ((((turn1 _ _ _ _).and (turn1 _ _ _ _)).and (turn1 _ _ _ _)).and (turn1 _ _ _ _)) ((((HF8.out.pth.set1 1 _).set1 2 _).set1 3 _).set1 4 _))
              (try rw [hw9])
              clear hw9 p0 p1 p2 p3 p4 p5 p6 q1 q2 q3 q4 HF8 HF7
              have HFA := Lib.hid HF9.out.drew
              have H0 : RegL w lev' t' W' U' X' w9.drew := ⟨HFA.out.box, HFA.out.sh⟩
              refine wp_region_held_drew (S := RegL w lev' t' W' U' X') (by kernel_rfl) H0 (fun hHeld => ?_)
              clear H0 HF9
              have h2 := HFA.out.z.2
              generalize w9.drew = wa at *
              have hFA := HFA.out
              obtain ⟨b0, b1, b2, b3, b4⟩ := hFA.box.five; obtain ⟨p0, p1, p2, p3, p4, p5, p6⟩ := hFA.pth.seven; have q0 := hFA.pth.fz 0; have q1 := hFA.pth.fz 1; have q2 := hFA.pth.fz 2; have q3 := hFA.pth.fz 3; have q4 := hFA.pth.fz 4; have q5 := hFA.pth.fz 5; have q6 := hFA.pth.fz 6; obtain ⟨r0, r1, r2, r3, r4, r5, r6⟩ := hFA.res.seven; have s0 := hFA.res.fz 0; have s1 := hFA.res.fz 1; have s2 := hFA.res.fz 2; have s3 := hFA.res.fz 3; have s4 := hFA.res.fz 4; have s5 := hFA.res.fz 5; have s6 := hFA.res.fz 6
              clear hFA
              refine anyH_take (i := 0) (v := ?_) rfl (by kernel_rfl) (by kernel_rfl) (by kernel_rfl) (fun _ _ _ h => h) (by rfl) (by assumption) ?_ ?_
              rotate_left
              · intro w hSw
                go_simp
                (try with_reducible rfl)
              (try simp only [Act.put, List.setIfInBounds_toArray, List.set_cons_zero, List.set_cons_succ])
              refine anyH_take (i := 1) (v := ?_) rfl (by kernel_rfl) (by kernel_rfl) (by kernel_rfl) (fun _ _ _ h => h) (by rfl) (by assumption) ?_ ?_
              rotate_left
              · intro w hSw
                obtain ⟨hA, hS⟩ := hSw
                obtain ⟨c0, c1, c2, c3, c4⟩ := hA.five
                go_simp
                (try with_reducible rfl)
              (try simp only [Act.put, List.setIfInBounds_toArray, List.set_cons_zero, List.set_cons_succ])
              refine anyH_take (i := 2) (v := ?_) rfl (by kernel_rfl) (by kernel_rfl) (by kernel_rfl) (fun _ _ _ h => h) (by rfl) (by assumption) ?_ ?_
              rotate_left
              · intro w hSw
                go_simp
                (try with_reducible rfl)
              (try simp only [Act.put, List.setIfInBounds_toArray, List.set_cons_zero, List.set_cons_succ])
              refine anyH_take (i := 3) (v := ?_) rfl (by kernel_rfl) (by kernel_rfl) (by kernel_rfl) (fun _ _ _ h => h) (by rfl) (by assumption) ?_ ?_
              rotate_left
              · intro w hSw
                go_simp
                (try with_reducible rfl)
              (try simp only [Act.put, List.setIfInBounds_toArray, List.set_cons_zero, List.set_cons_succ])
              refine anyH_take (i := 4) (v := ?_) rfl (by kernel_rfl) (by kernel_rfl) (by kernel_rfl) (fun _ _ _ h => h) (by rfl) (by assumption) ?_ ?_
              rotate_left
              · intro w hSw
                obtain ⟨hA, hS⟩ := hSw
                obtain ⟨c0, c1, c2, c3, c4⟩ := hA.five
                go_simp
                (try with_reducible rfl)
              (try simp only [Act.put, List.setIfInBounds_toArray, List.set_cons_zero, List.set_cons_succ])
              refine anyH_take (i := 6) (v := ?_) rfl (by kernel_rfl) (by kernel_rfl) (by kernel_rfl) (fun _ _ _ h => h) (by rfl) (by assumption) ?_ ?_
              rotate_left
              · intro w hSw
                go_simp
                (try with_reducible rfl)
              (try simp only [Act.put, List.setIfInBounds_toArray, List.set_cons_zero, List.set_cons_succ])
              refine wpAnyH_ready (rs := [5]) (by kernel_rfl) (by simp) ?_
              refine anyH_one rfl (fun K hK => ?_) ?_
              · go_simp
                refine (frame_any _ _ _ hHeld.2 HX.out).mono ?_
                rintro e w' ⟨rfl, rfl⟩
                refine hK.out _ _ (hHeld) (fun hHeld => ?_)
                clear hK K
                (try simp only [Act.put, List.setIfInBounds_toArray, List.set_cons_zero, List.set_cons_succ])
                refine wpAnyH_ready (rs := [7]) (by kernel_rfl) (by simp) ?_
                refine anyH_one rfl (fun K hK => ?_) ?_
                · go_simp
                  refine hK.out _ _ (regl_set hHeld rfl _ _) (fun hHeld => ?_)
                  clear hK K
                  (try simp only [Act.put, List.setIfInBounds_toArray, List.set_cons_zero, List.set_cons_succ])
                  refine anyH_take (i := 8) (v := ?_) rfl (by kernel_rfl) (by kernel_rfl) (by kernel_rfl) (fun _ _ _ h => h) (by rfl) (by assumption) ?_ ?_
                  rotate_left
                  · intro w hSw
                    go_simp
                    (try with_reducible rfl)
                  (try simp only [Act.put, List.setIfInBounds_toArray, List.set_cons_zero, List.set_cons_succ])
                  refine wpAnyH_ready (rs := [9]) (by kernel_rfl) (by simp) ?_
                  refine anyH_one rfl (fun K hK => ?_) ?_
                  · go_simp
                    refine hK.out _ _ (regl_set hHeld rfl _ _) (fun hHeld => ?_)
                    clear hK K
                    (try simp only [Act.put, List.setIfInBounds_toArray, List.set_cons_zero, List.set_cons_succ])
                    refine wpAnyH_done (by kernel_rfl) ?_ _
                    have HFL := Lib.hid (HFA.out.path (p' := ⟨[], 0, W' && bitF x 1, U' && bitF x 2, X' && !bitF x 63, lev', frameF x lev'⟩) ((turn1 wa (w.heap.size + 2) 5 (.int .i64 lev')).and (turn1 _ (w.heap.size + 2) 6 (.int .u64 (frameF x lev')))) ((HFA.out.pth.set1 5 _).set1 6 _))
                    go_wp2
                    (try rw [Exit.noGoto_ret])
                    refine bodyPost_ret (results_cell_row rfl _ _ (w.heap.size + 1) _ _ _ _ rfl (HFL.out.res.set7 _ _ _ _ _ _ _) Tryd.underlying39 rfl rfl) rfl ?_
                    rw [HE.out, HA.out, HO.out, preP_preP]
                    exact (Fm.done HFL.out rfl rfl).more (by omega)
                  exact AllReadyH.nil
                exact AllReadyH.nil
              exact AllReadyH.nil

          · simp only [hR] at CR
            have HO := Lib.hid (HO1.out hR)
            clear HO1 HO2 HO3 hR CF CA CBel
            go_wp2
            go_quiet (first | (go_at_call 51; exact quietOf (CB _)) | (go_at_call 50; exact quietOf (CR _)))
            have HF7 := Lib.hid (HF6.out.quiet (drewN_below w6 nq))
            clear b0 b1 b2 b3 b4 p0 p1 p2 p3 p4 p5 p6 q0 q1 q2 q3 q4 q5 q6 r0 r1 r2 r3 r4 r5 r6 s0 s1 s2 s3 s4 s5 s6 CB CR HF6
            generalize w6.drewN nq = w7 at *
            have hF7 := HF7.out
            obtain ⟨b0, b1, b2, b3, b4⟩ := hF7.box.five; obtain ⟨p0, p1, p2, p3, p4, p5, p6⟩ := hF7.pth.seven; have q0 := hF7.pth.fz 0; have q1 := hF7.pth.fz 1; have q2 := hF7.pth.fz 2; have q3 := hF7.pth.fz 3; have q4 := hF7.pth.fz 4; have q5 := hF7.pth.fz 5; have q6 := hF7.pth.fz 6; obtain ⟨r0, r1, r2, r3, r4, r5, r6⟩ := hF7.res.seven; have s0 := hF7.res.fz 0; have s1 := hF7.res.fz 1; have s2 := hF7.res.fz 2; have s3 := hF7.res.fz 3; have s4 := hF7.res.fz 4; have s5 := hF7.res.fz 5; have s6 := hF7.res.fz 6
            clear hF7
            go_wp2
            (try rw [Exit.noGoto_ret])
            refine bodyPost_ret (results_cell_row rfl _ _ (w.heap.size + 1) _ _ _ _ rfl (HF7.out.res.set7 _ _ _ _ _ _ _) Tryd.underlying39 rfl rfl) rfl ?_
            rw [HE.out, HA.out, HO.out, preP_preP]
            exact (Fm.done HF7.out rfl rfl).more (by omega)

      · have HA := Lib.hid (walk_err (M := M) (f := f) (a := a) (nxe := nxe) (t := t') (W := W') (U := U') (X := X') h1 h4 (hs ▸ he))
        rw [show loadT M (tr ++ slotsP S) s = tr ++ slotsP S from if_neg he] at CL
        have hne : (errS M s != 0) = true := by simpa using he
        clear hs he hk HWD
        go_wp2_with (first | (go_at_call 47; refine (CI _).mono ?_; rintro e w' ⟨rfl, rfl⟩) | (go_at_call 48; refine CS.mono ?_; rintro e w' ⟨rfl, rfl⟩) | (go_at_call 49; refine CL.mono ?_; rintro e w3 ⟨rfl, hM3, hT3⟩; obtain ⟨G3, hF3⟩ := HF.out.load hM3 hT3; have HF3 := Lib.hid hF3; clear hM3 hT3 CL CS b0 b1 b2 b3 b4 p0 p1 p2 p3 p4 p5 p6 q0 q1 q2 q3 q4 q5 q6 r0 r1 r2 r3 r4 r5 r6 s0 s1 s2 s3 s4 s5 s6; obtain ⟨b0, b1, b2, b3, b4⟩ := hF3.box.five; obtain ⟨p0, p1, p2, p3, p4, p5, p6⟩ := hF3.pth.seven; have q0 := hF3.pth.fz 0; have q1 := hF3.pth.fz 1; have q2 := hF3.pth.fz 2; have q3 := hF3.pth.fz 3; have q4 := hF3.pth.fz 4; have q5 := hF3.pth.fz 5; have q6 := hF3.pth.fz 6; obtain ⟨r0, r1, r2, r3, r4, r5, r6⟩ := hF3.res.seven; have s0 := hF3.res.fz 0; have s1 := hF3.res.fz 1; have s2 := hF3.res.fz 2; have s3 := hF3.res.fz 3; have s4 := hF3.res.fz 4; have s5 := hF3.res.fz 5; have s6 := hF3.res.fz 6; clear hF3))
        (try rw [Exit.noGoto_ret])
        refine bodyPost_ret (results_cell_row rfl _ _ (w.heap.size + 1) _ _ _ _ rfl (HF3.out.res.set7 _ _ _ _ _ _ _) Tryd.underlying39 rfl rfl) rfl ?_
        rw [HE.out, HA.out]
        exact (Fm.done HF3.out rfl rfl).more (by omega)

    · have CI := fun w' => isLevel_no lev' w' hl
      have HA := Lib.hid (walk_off (M := M) (f := f) (a := a) (nxe := nxe) (t := t') (W := W') (U := U') (X := X') hl)
      clear hl hk HWD
      go_wp2_with (go_at_call 47; refine (CI _).mono ?_; rintro e w' ⟨rfl, rfl⟩)
      (try rw [Exit.noGoto_ret])
      refine bodyPost_ret (results_cell_row rfl _ _ (w.heap.size + 1) _ _ _ _ rfl (HF.out.res.set7 _ _ _ _ _ _ _) Tryd.underlying39 rfl rfl) rfl ?_
      rw [HE.out, HA.out]
      exact (Fm.done HF.out rfl rfl).more (by omega)

end Go.Proofs.YtiihhlmddmicjaaDoor
/- Words that are written: At, Near, built of the law's own; tiny. -/
namespace Go.Proofs.YtiihhlmddmicjaaDoor
set_option linter.unusedVariables false
set_option linter.unusedSimpArgs false
open Go.ChangeShapes Go.WideShapes Go.ChangeAt Go.RowKit Go.Joins

/-- a written word's slot, and the word -/
def atS (sl : Int) : Int := sl / 8 % 16 * 4096 + 8 * (sl % 8)
def atX (fr fl mo : Int) : Int := bits .xor .u64 (fr % 16 * 4096 + fl % 8 + (if 24 ≤ fl % 32 then 128 else 0)) mo
def nearF (n : Int) : Int := n % 8 * 549755813888 + n / 8 % 8 * 1073741824 + n / 64 % 8 * 2097152 + n / 512 % 8 * 4096 + n / 4096 % 4096

theorem atS_bd (sl : Int) : 0 ≤ atS sl ∧ atS sl < 65536 ∧ atS sl % 8 = 0 := by unfold atS; omega
theorem atS_w (sl : Int) : W64 (atS sl) := by have := atS_bd sl; unfold W64; omega
theorem atX_w (fr fl mo : Int) : W64 (atX fr fl mo) := w64_bits _ _ _
abbrev putV (sl fr fl mo : Int) : Value := .agg #[.int .u16 sl, .int .u16 fr, .int .u8 fl, .int .u64 mo]

theorem wrap16 {a : Int} (h0 : 0 ≤ a) (h1 : a < 65536) : IntKind.u16.wrap a = a := by
  show a % 65536 = a
  omega
theorem wrap8 {a : Int} (h0 : 0 ≤ a) (h1 : a < 256) : IntKind.u8.wrap a = a := by
  show a % 256 = a
  omega

set_option maxRecDepth 100000 in
set_option maxHeartbeats 1600000 in
theorem at_any (sl fr fl mo : Int) (w : World) (s0 : 0 ≤ sl) (s1 : sl < 65536) (f0 : 0 ≤ fr) (f1 : fr < 65536) (l0 : 0 ≤ fl) (l1 : fl < 256) :
    Calls Tryd.prog 45 #[putV sl fr fl mo] w fun e w' => e = .returned (.tuple #[.int .u64 (atS sl), .int .u64 (atX fr fl mo)]) ∧ Below w.heap.size w w' := by
  obtain ⟨q, hq⟩ : ∃ q, sl / 8 = q := ⟨_, rfl⟩
  obtain ⟨r, hr⟩ : ∃ r, q % 16 = r := ⟨_, rfl⟩
  obtain ⟨t, ht⟩ : ∃ t, r * 4096 = t := ⟨_, rfl⟩
  obtain ⟨p, hp⟩ : ∃ p, sl % 8 = p := ⟨_, rfl⟩
  obtain ⟨k, hk⟩ : ∃ k, 8 * p = k := ⟨_, rfl⟩
  obtain ⟨a, ha⟩ : ∃ a, t + k = a := ⟨_, rfl⟩
  obtain ⟨b, hb⟩ : ∃ b, fr % 16 = b := ⟨_, rfl⟩
  obtain ⟨c, hc⟩ : ∃ c, b * 4096 = c := ⟨_, rfl⟩
  obtain ⟨d, hd⟩ : ∃ d, fl % 8 = d := ⟨_, rfl⟩
  obtain ⟨g, hg⟩ : ∃ g, c + d = g := ⟨_, rfl⟩
  obtain ⟨o, ho⟩ : ∃ o, fl % 32 = o := ⟨_, rfl⟩
  have e1 : sl.tdiv 8 = q := by rw [Int.tdiv_eq_ediv_of_nonneg s0, hq]
  have e2 : IntKind.u16.wrap q = q := wrap16 (by omega) (by omega)
  have e3 : IntKind.u64.wrap q = q := wrap_in (by omega) (by omega)
  have e4 : q.tmod 16 = r := by rw [Int.tmod_eq_emod_of_nonneg (by omega), hr]
  have e5 : IntKind.u64.wrap r = r := wrap_in (by omega) (by omega)
  have e6 : IntKind.u64.wrap t = t := wrap_in (by omega) (by omega)
  have e7 : IntKind.u64.wrap sl = sl := wrap_in (by omega) (by omega)
  have e8 : sl.tmod 8 = p := by rw [Int.tmod_eq_emod_of_nonneg s0, hp]
  have e9 : IntKind.u64.wrap p = p := wrap_in (by omega) (by omega)
  have e10 : IntKind.u64.wrap k = k := wrap_in (by omega) (by omega)
  have e11 : IntKind.u64.wrap a = a := wrap_in (by omega) (by omega)
  have e12 : IntKind.u64.wrap fr = fr := wrap_in (by omega) (by omega)
  have e13 : fr.tmod 16 = b := by rw [Int.tmod_eq_emod_of_nonneg f0, hb]
  have e14 : IntKind.u64.wrap b = b := wrap_in (by omega) (by omega)
  have e15 : IntKind.u64.wrap c = c := wrap_in (by omega) (by omega)
  have e16 : IntKind.u64.wrap fl = fl := wrap_in (by omega) (by omega)
  have e17 : fl.tmod 8 = d := by rw [Int.tmod_eq_emod_of_nonneg l0, hd]
  have e18 : IntKind.u64.wrap d = d := wrap_in (by omega) (by omega)
  have e19 : IntKind.u64.wrap g = g := wrap_in (by omega) (by omega)
  have e20 : fl.tmod 32 = o := by rw [Int.tmod_eq_emod_of_nonneg l0, ho]
  have e21 : IntKind.u8.wrap o = o := wrap8 (by omega) (by omega)
  have e22 : IntKind.u64.wrap (g + 128) = g + 128 := wrap_in (by omega) (by omega)
  have ES := Lib.hid (show atS sl = a by unfold atS; rw [hq, hr, ht, hp, hk, ha])
  by_cases h : 24 ≤ o
  · have EX := Lib.hid (show atX fr fl mo = bits .xor .u64 (g + 128) mo by unfold atX; rw [hb, hc, hd, hg, ho, if_pos h])
    clear hq hr hp hb hd ho
    rw [ES.out, EX.out]
    go_enter Tryd.func45, Tryd.ntmps45
    go_wp2
    go_quiet (fail)
    go_wp2
    go_ret2
    exact ⟨rfl, below_drewN (below_alloc1 _ _) _⟩
  · have EX := Lib.hid (show atX fr fl mo = bits .xor .u64 g mo by unfold atX; rw [hb, hc, hd, hg, ho, if_neg h]; simp)
    have h' : o < 24 := by omega
    clear hq hr hp hb hd ho h
    rw [ES.out, EX.out]
    go_enter Tryd.func45, Tryd.ntmps45
    go_wp2
    go_quiet (fail)
    go_wp2
    go_ret2
    exact ⟨rfl, below_drewN (below_alloc1 _ _) _⟩

/-- the slice's puts -/
def PutsIn (w : World) (A : Option Addr) (ds : List (Int × Int × Int × Int)) : Prop := ∀ k, k < ds.length → ∃ ad, A = some ad ∧ w.cell? (ad.add (k * 4)) = some (.int .u16 (ds.getD k (0, 0, 0, 0)).1) ∧ w.cell? ((ad.add (k * 4)).add 1) = some (.int .u16 (ds.getD k (0, 0, 0, 0)).2.1) ∧ w.cell? ((ad.add (k * 4)).add 2) = some (.int .u8 (ds.getD k (0, 0, 0, 0)).2.2.1) ∧ w.cell? ((ad.add (k * 4)).add 3) = some (.int .u64 (ds.getD k (0, 0, 0, 0)).2.2.2)
def PutsOk (ds : List (Int × Int × Int × Int)) : Prop := ∀ k, k < ds.length → (0 ≤ (ds.getD k (0, 0, 0, 0)).1 ∧ (ds.getD k (0, 0, 0, 0)).1 < 65536) ∧ (0 ≤ (ds.getD k (0, 0, 0, 0)).2.1 ∧ (ds.getD k (0, 0, 0, 0)).2.1 < 65536) ∧ (0 ≤ (ds.getD k (0, 0, 0, 0)).2.2.1 ∧ (ds.getD k (0, 0, 0, 0)).2.2.1 < 256)

def putSt (ds : List (Int × Int × Int × Int)) : Nat → (Int → Int)
  | 0 => fun _ => 0
  | k + 1 => storeS 16 (putSt ds k) (atS (ds.getD k (0, 0, 0, 0)).1) (atX (ds.getD k (0, 0, 0, 0)).2.1 (ds.getD k (0, 0, 0, 0)).2.2.1 (ds.getD k (0, 0, 0, 0)).2.2.2)
/-- how many are written -/
def mostP (ds : List (Int × Int × Int × Int)) : Nat := min ds.length 100

theorem puts_below {w w' : World} {A : Option Addr} {ds : List (Int × Int × Int × Int)} (h : PutsIn w A ds) (hb : Below w.heap.size w w') : PutsIn w' A ds := by
  intro k hk
  obtain ⟨ad, e, c0, c1, c2, c3⟩ := h k hk
  exact ⟨ad, e, (hb.cell (World.block_lt_of_cell? _ _ c0)).trans c0, (hb.cell (World.block_lt_of_cell? _ _ c1)).trans c1, (hb.cell (World.block_lt_of_cell? _ _ c2)).trans c2, (hb.cell (World.block_lt_of_cell? _ _ c3)).trans c3⟩

def tinyP : List (Int × Int × Int × Int) := [(0, 1, 7, 0), (8, 2, 7, 0), (16, 3, 7, 0), (24, 4, 7, 0)]

theorem tiny_ok : PutsOk tinyP := by
  intro k hk
  have hk4 : k < 4 := hk
  have : k = 0 ∨ k = 1 ∨ k = 2 ∨ k = 3 := by omega
  rcases this with rfl | rfl | rfl | rfl <;> decide
end Go.Proofs.YtiihhlmddmicjaaDoor
/- awake of layer 8. -/
namespace Go.Proofs.YtiihhlmddmicjaaDoor
set_option linter.unusedVariables false
set_option linter.unusedSimpArgs false
open Go.ChangeShapes Go.WideShapes Go.ChangeAt Go.RowKit Go.Joins

theorem aw8b : walkZ 16 (putSt tinyP 4) 0 true 4 (tableF 0) true true true = ⟨[(4, 0, 4103), (3, 4096, 8199), (2, 8192, 12295), (1, 12288, 16391)], 0, true, true, true, 1, 16384⟩ := by kernel_rfl

theorem w0 : W64 0 := ⟨by decide, by decide⟩

theorem shifts_under {w w' : World} {B : Nat} (hs : Shifts w) (hb : Below B w w') (hB : 0 < B) : Shifts w' :=
  shifts_turn hs (Turn.of_below hb) (by omega)
theorem size_shifts {w : World} (hs : Shifts w) : 0 < w.heap.size := World.block_lt_of_cell? _ _ hs.1

theorem Wk.below {w wr w3 : World} {F G : Nat → Prop} {m : Nat} {M : Int} {f : Int → Int} {tr : List Int} {n B : Nat} (h : Wk w wr F m M f tr n G) (hb : Below B wr w3) (hB : wr.heap.size ≤ B) : Wk w w3 F m M f tr n G :=
  h.quiet (hb.mono hB)

end Go.Proofs.YtiihhlmddmicjaaDoor
