/- Several texts of ours in one: L13g, L13d, L13e. -/
import Derived.Test.YtddbjbdhbeijjaaDoorGQmQnL13p
import Derived.Deep.RegionHeld3
/- The walk of TlbGreat. (Laid by tools/gen_l13.py.) -/
namespace Go.Proofs.YtddbjbdhbeijjaaDoor
set_option linter.unusedVariables false
set_option linter.unusedSimpArgs false
open Go.ChangeShapes Go.WideShapes Go.ChangeAt Go.RowKit Go.Joins

set_option maxRecDepth 100000 in
set_option maxHeartbeats 6400000 in
theorem tlbGreat_2 (A : Option Addr) (c : Nat) (ds : List Dt) (w : World) (ht : Tabs w) (hl : ds.length ≤ maxLen) (hd : DtsIn w A ds) (hok : DtsOk ds) (kd p pk a l0 l5 h0 h1 : Int) (l1 l2 l3 l4 h2 h3 h4 h5 : Bool) (b : Int) (hp : I64 p) (hk : I64 pk) (ha : W64 a) (hol : OkL (l0, l1, l2, l3, l4, l5)) (hb : W64 b) (hz : bits .and .i64 h1 1 = 0) :
    Calls Tryd.prog 5 #[.slice A ds.length c, .agg #[.int .i64 kd, .int .i64 p, .int .i64 pk, .int .u64 a, .int .u64 l0, .bool l1, .bool l2, .bool l3, .bool l4, .int .u8 l5, .int .u64 h0, .int .i64 h1, .bool h2, .bool h3, .bool h4, .bool h5], .int .u64 b] w fun e w' => e = .returned (.bool true) ∧ Below w.heap.size w w' := by
  have HT := Lib.hid ht
  have HL1 := Lib.hid hl
  have HD := Lib.hid hd
  have HOK := Lib.hid hok
  have HP := Lib.hid hp
  have HPK := Lib.hid hk
  have HA := Lib.hid ha
  have HOL := Lib.hid hol
  obtain ⟨L, hL⟩ : ∃ L, playD 5 ds (mostT ds) = L := ⟨_, rfl⟩
  have HLL := Lib.hid hL
  clear hL
  have HS : Hid (sizeF 2 = 2097152) := Lib.hid rfl
  have ha2 := ha
  obtain ⟨a0, a1⟩ := ha2
  have hb2 := hb
  obtain ⟨b0, b1⟩ := hb2
  obtain ⟨q9, hq9⟩ : ∃ x, a / 2097152 = x := ⟨_, rfl⟩
  obtain ⟨r9, hr9⟩ : ∃ x, b % 2097152 = x := ⟨_, rfl⟩
  have e1 : IntKind.u64.wrap (a.tdiv 2097152) = q9 := (quo_pos HA.out (by decide)).trans hq9
  have e2 : IntKind.u64.wrap (q9 * 2097152) = q9 * 2097152 := by rw [IntKind.wrap_u64]; omega
  have e3 : b.tmod 2097152 = r9 := (Int.tmod_eq_emod_of_nonneg b0).trans hr9
  have e4 : IntKind.u64.wrap r9 = r9 := by rw [IntKind.wrap_u64]; omega
  have e5 : IntKind.u64.wrap (q9 * 2097152 + r9) = agT a b 2097152 := by unfold agT; rw [hq9, hr9, IntKind.wrap_u64]; omega
  have HW9 : Hid (W64 (agT a b 2097152)) := Lib.hid (ag_bd HA.out (by decide))
  have HTG : Hid (tagT (agT a b 2097152) 2 = tagT a 2) := Lib.hid (ag_tag2 a b)
  have H0 := Lib.hid ((Has.start0 w (fun _ => False)).new (b := w.heap.size) rfl #[.int .i64 kd, .int .i64 p, .int .i64 pk, .int .u64 a, .int .u64 l0, .bool l1, .bool l2, .bool l3, .bool l4, .int .u8 l5, .int .u64 h0, .int .i64 h1, .bool h2, .bool h3, .bool h4, .bool h5] 39)
  clear ht hl hd hok hp hk ha hol hb hq9 hr9 a0 a1 b0 b1
  generalize agT a b 2097152 = ad at *
  go_enter Tryd.func5, Tryd.ntmps5
  go_upto_region 1 with fail
  generalize hw0 : w.alloc _ = v0
  have H1 := Lib.hid (H0.out.world hw0)
  clear hw0 H0
  generalize w.heap.size = bd at H1 ⊢
  go_upto_region 5 with (first | (go_at_call 9; refine (awake13_any _ (H1.out.tabs HT.out off_no)).mono ?_; rintro e w1 ⟨rfl, hb1⟩; have H2 := Lib.hid (H1.out.quiet hb1); clear hb1 H1) | (go_at_call 17; refine (run13_any A c ds _ (H2.out.tabs HT.out off_no) HL1.out (dts_below HD.out H2.out.below0) HOK.out).mono ?_; rw [HLL.out]; rintro e w3 ⟨q, rfl, G, hH⟩; have H3 : Hid (Has w w3 (fun _ => False) [⟨tlbT q 5 L, G⟩] [⟨bd, #[.int .i64 kd, .int .i64 p, .int .i64 pk, .int .u64 a, .int .u64 l0, .bool l1, .bool l2, .bool l3, .bool l4, .int .u8 l5, .int .u64 h0, .int .i64 h1, .bool h2, .bool h3, .bool h4, .bool h5], 39⟩] []) := Lib.hid (H2.out.join hH); clear hH H2))
  have HND := Lib.hid (H3.out.the 0 rfl).nodup
  obtain ⟨M, hM⟩ : ∃ M, bigT 5 L p a (h0, 2, h2, h3, h4, h5) pk = M := ⟨_, rfl⟩
  have HLS := Lib.hid hM
  obtain ⟨⟨x0, x1, x2, x3, x4, x5⟩, hx, hxe⟩ := big_found HND.out (R := 5) (by decide) p a pk (g := (h0, 2, h2, h3, h4, h5)) (by first | exact Or.inl rfl | exact Or.inr rfl) (b := ad) HTG.out
  rw [hM] at hx
  clear hM
  have HX : Hid (ansT (lookT M p ad) = .tuple #[.agg #[.int .u64 x0, .int .i64 x1, .bool x2, .bool x3, .bool x4, .bool x5], .bool true]) := Lib.hid (by rw [hx]; rfl)
  clear hx
  have f11 := (H3.out.at_ 0 rfl).fz 11
  obtain ⟨e0, e1, e2, e3, e4, e5, e6, e7, e8, e9, e10, e11, e12, e13, e14, e15⟩ := (H3.out.at_ 0 rfl).c16
  go_upto_region 6 with fail
  generalize hq9 : w3.setCell _ _ = w4
  have H4 : Hid (Has w w4 (fun _ => False) [⟨tlbT q 5 L, G⟩] [⟨bd, #[.int .i64 kd, .int .i64 p, .int .i64 pk, .int .u64 a, .int .u64 l0, .bool l1, .bool l2, .bool l3, .bool l4, .int .u8 l5, .int .u64 h0, .int .i64 2, .bool h2, .bool h3, .bool h4, .bool h5], 39⟩] []) := Lib.hid ((H3.out.put 0 rfl (turn1 _ _ 11 (.int .i64 2)) (Blk.set1 (H3.out.at_ 0 rfl) 11 (.int .i64 2))).world hq9)
  clear hq9 H3 f11
  clear e0 e1 e2 e3 e4 e5 e6 e7 e8 e9 e10 e11 e12 e13 e14 e15
  obtain ⟨e0, e1, e2, e3, e4, e5, e6, e7, e8, e9, e10, e11, e12, e13, e14, e15⟩ := (H4.out.at_ 0 rfl).c16
  go_upto_region 7 with (go_at_call 20; refine (H4.out.tGreat HT.out off_no p a HP.out HA.out (h0, 2, h2, h3, h4, h5) pk HPK.out).mono ?_; rw [HLS.out]; rintro e w5 ⟨rfl, hE⟩; obtain ⟨G5, hE2⟩ := hE.out; have H5 := Lib.hid hE2; clear hE hE2 H4)
  clear e0 e1 e2 e3 e4 e5 e6 e7 e8 e9 e10 e11 e12 e13 e14 e15
  obtain ⟨e0, e1, e2, e3, e4, e5, e6, e7, e8, e9, e10, e11, e12, e13, e14, e15⟩ := (H5.out.at_ 0 rfl).c16
  go_upto_region 8 with (go_at_call 21; refine (rsize_any _ _).mono ?_; rw [HS.out]; rintro e _ ⟨rfl, rfl⟩)
  clear e0 e1 e2 e3 e4 e5 e6 e7 e8 e9 e10 e11 e12 e13 e14 e15
  have H6 := Lib.hid (H5.out.quiet (Kept.drew0 w5))
  clear H5
  refine wp_region_held_drew (S := fun w' => Blk w' bd #[.int .i64 kd, .int .i64 p, .int .i64 pk, .int .u64 a, .int .u64 l0, .bool l1, .bool l2, .bool l3, .bool l4, .int .u8 l5, .int .u64 h0, .int .i64 2, .bool h2, .bool h3, .bool h4, .bool h5] 39) (by kernel_rfl) (H6.out.at_ 0 rfl) (fun hHeld => ?_)
  generalize w5.drew = w6 at *
  refine tk (v := ?_) 0 ?_ ?_
  rotate_left
  · intro w hSw
    go_simp
    (try with_reducible rfl)
  (try simp only [Act.put, List.setIfInBounds_toArray, List.set_cons_zero, List.set_cons_succ])
  refine tk (v := ?_) 1 ?_ ?_
  rotate_left
  · intro w hSw
    go_simp
    (try with_reducible rfl)
  (try simp only [Act.put, List.setIfInBounds_toArray, List.set_cons_zero, List.set_cons_succ])
  refine tk (v := ?_) 2 ?_ ?_
  rotate_left
  · intro w hSw
    obtain ⟨e0, e1, e2, e3, e4, e5, e6, e7, e8, e9, e10, e11, e12, e13, e14, e15⟩ := hSw.c16
    go_simp
    (try with_reducible rfl)
  (try simp only [Act.put, List.setIfInBounds_toArray, List.set_cons_zero, List.set_cons_succ])
  refine tk (v := ?_) 3 ?_ ?_
  rotate_left
  · intro w hSw
    go_simp
    (try with_reducible rfl)
  (try simp only [Act.put, List.setIfInBounds_toArray, List.set_cons_zero, List.set_cons_succ])
  refine tk (v := ?_) 4 ?_ ?_
  rotate_left
  · intro w hSw
    obtain ⟨e0, e1, e2, e3, e4, e5, e6, e7, e8, e9, e10, e11, e12, e13, e14, e15⟩ := hSw.c16
    go_simp
    (try with_reducible rfl)
  (try simp only [Act.put, List.setIfInBounds_toArray, List.set_cons_zero, List.set_cons_succ])
  refine tk (v := ?_) 5 ?_ ?_
  rotate_left
  · intro w hSw
    go_simp
    (try with_reducible rfl)
  (try simp only [Act.put, List.setIfInBounds_toArray, List.set_cons_zero, List.set_cons_succ])
  refine tk (v := ?_) 6 ?_ ?_
  rotate_left
  · intro w hSw
    go_simp
    (try with_reducible rfl)
  (try simp only [Act.put, List.setIfInBounds_toArray, List.set_cons_zero, List.set_cons_succ])
  refine tk (v := ?_) 7 ?_ ?_
  rotate_left
  · intro w hSw
    go_simp
    (try with_reducible rfl)
  (try simp only [Act.put, List.setIfInBounds_toArray, List.set_cons_zero, List.set_cons_succ])
  refine tk (v := ?_) 8 ?_ ?_
  rotate_left
  · intro w hSw
    go_simp
    (try with_reducible rfl)
  (try simp only [Act.put, List.setIfInBounds_toArray, List.set_cons_zero, List.set_cons_succ])
  refine tk (v := ?_) 9 ?_ ?_
  rotate_left
  · intro w hSw
    go_simp
    (try with_reducible rfl)
  (try simp only [Act.put, List.setIfInBounds_toArray, List.set_cons_zero, List.set_cons_succ])
  refine tk (v := ?_) 10 ?_ ?_
  rotate_left
  · intro w hSw
    go_simp
    (try with_reducible rfl)
  (try simp only [Act.put, List.setIfInBounds_toArray, List.set_cons_zero, List.set_cons_succ])
  refine tk (v := ?_) 11 ?_ ?_
  rotate_left
  · intro w hSw
    go_simp
    (try with_reducible rfl)
  (try simp only [Act.put, List.setIfInBounds_toArray, List.set_cons_zero, List.set_cons_succ])
  refine tk (v := ?_) 12 ?_ ?_
  rotate_left
  · intro w hSw
    go_simp
    (try with_reducible rfl)
  (try simp only [Act.put, List.setIfInBounds_toArray, List.set_cons_zero, List.set_cons_succ])
  refine wpAnyH_ready (rs := [13, 17]) (by kernel_rfl) (by simp) ?_
  refine anyH_one rfl (fun K hK => ?_) ?_
  · go_simp
    refine (H6.out.tLook HT.out off_no p ad HP.out HW9.out).mono ?_
    rw [HX.out]
    rintro e w7 ⟨rfl, hb⟩
    have H7 := Lib.hid (H6.out.quiet hb)
    clear hb H6
    refine hK.out _ _ ((H7.out.at_ 0 rfl)) (fun hHeld => ?_)
    clear hK K
    (try simp only [Act.put, List.setIfInBounds_toArray, List.set_cons_zero, List.set_cons_succ])
    refine tk (v := ?_) 14 ?_ ?_
    rotate_left
    · intro w hSw
      go_simp
      (try with_reducible rfl)
    (try simp only [Act.put, List.setIfInBounds_toArray, List.set_cons_zero, List.set_cons_succ])
    refine tk (v := ?_) 15 ?_ ?_
    rotate_left
    · intro w hSw
      go_simp
      (try with_reducible rfl)
    (try simp only [Act.put, List.setIfInBounds_toArray, List.set_cons_zero, List.set_cons_succ])
    refine tk (v := ?_) 16 ?_ ?_
    rotate_left
    · intro w hSw
      go_simp
      (try with_reducible rfl)
    (try simp only [Act.put, List.setIfInBounds_toArray, List.set_cons_zero, List.set_cons_succ])
    refine wpAnyH_ready (rs := [17]) (by kernel_rfl) (by simp) ?_
    refine anyH_one rfl (fun K hK => ?_) ?_
    · go_simp
      generalize hq9 : w7.alloc _ = w8
      have H8 := Lib.hid ((H7.out.new (b := w7.heap.size) rfl #[.int .u64 0, .int .i64 0, .bool false, .bool false, .bool false, .bool false] 37).world hq9)
      clear hq9 H7
      generalize w7.heap.size = b9 at H8 ⊢
      refine hK.out _ _ ((H8.out.at_ 1 rfl)) (fun hHeld => ?_)
      clear hK K
      (try simp only [Act.put, List.setIfInBounds_toArray, List.set_cons_zero, List.set_cons_succ])
      refine wpAnyH_ready (rs := [18]) (by kernel_rfl) (by simp) ?_
      refine anyH_one rfl (fun K hK => ?_) ?_
      · obtain ⟨r0, r1, r2, r3, r4, r5⟩ := (H8.out.at_ 0 rfl).c6
        have g0 := (H8.out.at_ 0 rfl).fz 0; have g1 := (H8.out.at_ 0 rfl).fz 1; have g2 := (H8.out.at_ 0 rfl).fz 2; have g3 := (H8.out.at_ 0 rfl).fz 3; have g4 := (H8.out.at_ 0 rfl).fz 4; have g5 := (H8.out.at_ 0 rfl).fz 5
        go_simp
        generalize hq9 : (((((w8.setCell _ _).setCell _ _).setCell _ _).setCell _ _).setCell _ _).setCell _ _ = w9
        have H9 := Lib.hid ((H8.out.put 0 rfl (turnB6 _ _ _ _ _ _ _ _) (setB6 (H8.out.at_ 0 rfl) _ _ _ _ _ _)).world hq9)
        clear hq9 H8 r0 r1 r2 r3 r4 r5 g0 g1 g2 g3 g4 g5
        refine hK.out _ _ ((H9.out.at_ 1 rfl)) (fun hHeld => ?_)
        clear hK K
        (try simp only [Act.put, List.setIfInBounds_toArray, List.set_cons_zero, List.set_cons_succ])
        refine tk (v := ?_) 19 ?_ ?_
        rotate_left
        · intro w hSw
          go_simp
          (try with_reducible rfl)
        (try simp only [Act.put, List.setIfInBounds_toArray, List.set_cons_zero, List.set_cons_succ])
        refine wpAnyH_done (by kernel_rfl) ?_ _
        clear hHeld
        obtain ⟨r0, r1, r2, r3, r4, r5⟩ := (H9.out.at_ 0 rfl).c6
        obtain ⟨e0, e1, e2, e3, e4, e5, e6, e7, e8, e9, e10, e11, e12, e13, e14, e15⟩ := (H9.out.at_ 1 rfl).c16
        by_cases he : (x0, x1, x2, x3, x4, x5) = (h0, 2, h2, h3, h4, h5)
        · have hq := fun w => (eqlH (x0, x1, x2, x3, x4, x5) (h0, 2, h2, h3, h4, h5) w).trans (by rw [decide_eq_true he])
          clear he hxe
          go_wp2
          go_ret
          exact ⟨rfl, H9.out.below0⟩
        · have hq := fun w => (eqlH (x0, x1, x2, x3, x4, x5) (h0, 2, h2, h3, h4, h5) w).trans (by rw [decide_eq_false he])
          have hlt : decide (x1 < 2) = true := decide_eq_true (hxe.resolve_left he)
          clear he hxe
          go_wp2
          go_ret
          exact ⟨rfl, H9.out.below0⟩
      exact AllReadyH.nil
    exact AllReadyH.nil
  refine anyH_one rfl (fun K hK => ?_) ?_
  · go_simp
    generalize hq9 : w6.alloc _ = w7
    have H7 := Lib.hid ((H6.out.new (b := w6.heap.size) rfl #[.int .u64 0, .int .i64 0, .bool false, .bool false, .bool false, .bool false] 37).world hq9)
    clear hq9 H6
    generalize w6.heap.size = b9 at H7 ⊢
    refine hK.out _ _ ((H7.out.at_ 1 rfl)) (fun hHeld => ?_)
    clear hK K
    (try simp only [Act.put, List.setIfInBounds_toArray, List.set_cons_zero, List.set_cons_succ])
    refine wpAnyH_ready (rs := [13]) (by kernel_rfl) (by simp) ?_
    refine anyH_one rfl (fun K hK => ?_) ?_
    · go_simp
      refine (H7.out.tLook HT.out off_no p ad HP.out HW9.out).mono ?_
      rw [HX.out]
      rintro e w8 ⟨rfl, hb⟩
      have H8 := Lib.hid (H7.out.quiet hb)
      clear hb H7
      refine hK.out _ _ ((H8.out.at_ 1 rfl)) (fun hHeld => ?_)
      clear hK K
      (try simp only [Act.put, List.setIfInBounds_toArray, List.set_cons_zero, List.set_cons_succ])
      refine tk (v := ?_) 14 ?_ ?_
      rotate_left
      · intro w hSw
        go_simp
        (try with_reducible rfl)
      (try simp only [Act.put, List.setIfInBounds_toArray, List.set_cons_zero, List.set_cons_succ])
      refine tk (v := ?_) 15 ?_ ?_
      rotate_left
      · intro w hSw
        go_simp
        (try with_reducible rfl)
      (try simp only [Act.put, List.setIfInBounds_toArray, List.set_cons_zero, List.set_cons_succ])
      refine tk (v := ?_) 16 ?_ ?_
      rotate_left
      · intro w hSw
        go_simp
        (try with_reducible rfl)
      (try simp only [Act.put, List.setIfInBounds_toArray, List.set_cons_zero, List.set_cons_succ])
      refine wpAnyH_ready (rs := [18]) (by kernel_rfl) (by simp) ?_
      refine anyH_one rfl (fun K hK => ?_) ?_
      · obtain ⟨r0, r1, r2, r3, r4, r5⟩ := (H8.out.at_ 0 rfl).c6
        have g0 := (H8.out.at_ 0 rfl).fz 0; have g1 := (H8.out.at_ 0 rfl).fz 1; have g2 := (H8.out.at_ 0 rfl).fz 2; have g3 := (H8.out.at_ 0 rfl).fz 3; have g4 := (H8.out.at_ 0 rfl).fz 4; have g5 := (H8.out.at_ 0 rfl).fz 5
        go_simp
        generalize hq9 : (((((w8.setCell _ _).setCell _ _).setCell _ _).setCell _ _).setCell _ _).setCell _ _ = w9
        have H9 := Lib.hid ((H8.out.put 0 rfl (turnB6 _ _ _ _ _ _ _ _) (setB6 (H8.out.at_ 0 rfl) _ _ _ _ _ _)).world hq9)
        clear hq9 H8 r0 r1 r2 r3 r4 r5 g0 g1 g2 g3 g4 g5
        refine hK.out _ _ ((H9.out.at_ 1 rfl)) (fun hHeld => ?_)
        clear hK K
        (try simp only [Act.put, List.setIfInBounds_toArray, List.set_cons_zero, List.set_cons_succ])
        refine tk (v := ?_) 19 ?_ ?_
        rotate_left
        · intro w hSw
          go_simp
          (try with_reducible rfl)
        (try simp only [Act.put, List.setIfInBounds_toArray, List.set_cons_zero, List.set_cons_succ])
        refine wpAnyH_done (by kernel_rfl) ?_ _
        clear hHeld
        obtain ⟨r0, r1, r2, r3, r4, r5⟩ := (H9.out.at_ 0 rfl).c6
        obtain ⟨e0, e1, e2, e3, e4, e5, e6, e7, e8, e9, e10, e11, e12, e13, e14, e15⟩ := (H9.out.at_ 1 rfl).c16
        by_cases he : (x0, x1, x2, x3, x4, x5) = (h0, 2, h2, h3, h4, h5)
        · have hq := fun w => (eqlH (x0, x1, x2, x3, x4, x5) (h0, 2, h2, h3, h4, h5) w).trans (by rw [decide_eq_true he])
          clear he hxe
          go_wp2
          go_ret
          exact ⟨rfl, H9.out.below0⟩
        · have hq := fun w => (eqlH (x0, x1, x2, x3, x4, x5) (h0, 2, h2, h3, h4, h5) w).trans (by rw [decide_eq_false he])
          have hlt : decide (x1 < 2) = true := decide_eq_true (hxe.resolve_left he)
          clear he hxe
          go_wp2
          go_ret
          exact ⟨rfl, H9.out.below0⟩
      exact AllReadyH.nil
    exact AllReadyH.nil
  exact AllReadyH.nil
set_option maxRecDepth 100000 in
set_option maxHeartbeats 6400000 in
theorem tlbGreat_3 (A : Option Addr) (c : Nat) (ds : List Dt) (w : World) (ht : Tabs w) (hl : ds.length ≤ maxLen) (hd : DtsIn w A ds) (hok : DtsOk ds) (kd p pk a l0 l5 h0 h1 : Int) (l1 l2 l3 l4 h2 h3 h4 h5 : Bool) (b : Int) (hp : I64 p) (hk : I64 pk) (ha : W64 a) (hol : OkL (l0, l1, l2, l3, l4, l5)) (hb : W64 b) (hz : bits .and .i64 h1 1 = 1) :
    Calls Tryd.prog 5 #[.slice A ds.length c, .agg #[.int .i64 kd, .int .i64 p, .int .i64 pk, .int .u64 a, .int .u64 l0, .bool l1, .bool l2, .bool l3, .bool l4, .int .u8 l5, .int .u64 h0, .int .i64 h1, .bool h2, .bool h3, .bool h4, .bool h5], .int .u64 b] w fun e w' => e = .returned (.bool true) ∧ Below w.heap.size w w' := by
  have HT := Lib.hid ht
  have HL1 := Lib.hid hl
  have HD := Lib.hid hd
  have HOK := Lib.hid hok
  have HP := Lib.hid hp
  have HPK := Lib.hid hk
  have HA := Lib.hid ha
  have HOL := Lib.hid hol
  obtain ⟨L, hL⟩ : ∃ L, playD 5 ds (mostT ds) = L := ⟨_, rfl⟩
  have HLL := Lib.hid hL
  clear hL
  have HS : Hid (sizeF 3 = 1073741824) := Lib.hid rfl
  have ha2 := ha
  obtain ⟨a0, a1⟩ := ha2
  have hb2 := hb
  obtain ⟨b0, b1⟩ := hb2
  obtain ⟨q9, hq9⟩ : ∃ x, a / 1073741824 = x := ⟨_, rfl⟩
  obtain ⟨r9, hr9⟩ : ∃ x, b % 1073741824 = x := ⟨_, rfl⟩
  have e1 : IntKind.u64.wrap (a.tdiv 1073741824) = q9 := (quo_pos HA.out (by decide)).trans hq9
  have e2 : IntKind.u64.wrap (q9 * 1073741824) = q9 * 1073741824 := by rw [IntKind.wrap_u64]; omega
  have e3 : b.tmod 1073741824 = r9 := (Int.tmod_eq_emod_of_nonneg b0).trans hr9
  have e4 : IntKind.u64.wrap r9 = r9 := by rw [IntKind.wrap_u64]; omega
  have e5 : IntKind.u64.wrap (q9 * 1073741824 + r9) = agT a b 1073741824 := by unfold agT; rw [hq9, hr9, IntKind.wrap_u64]; omega
  have HW9 : Hid (W64 (agT a b 1073741824)) := Lib.hid (ag_bd HA.out (by decide))
  have HTG : Hid (tagT (agT a b 1073741824) 3 = tagT a 3) := Lib.hid (ag_tag3 a b)
  have H0 := Lib.hid ((Has.start0 w (fun _ => False)).new (b := w.heap.size) rfl #[.int .i64 kd, .int .i64 p, .int .i64 pk, .int .u64 a, .int .u64 l0, .bool l1, .bool l2, .bool l3, .bool l4, .int .u8 l5, .int .u64 h0, .int .i64 h1, .bool h2, .bool h3, .bool h4, .bool h5] 39)
  clear ht hl hd hok hp hk ha hol hb hq9 hr9 a0 a1 b0 b1
  generalize agT a b 1073741824 = ad at *
  go_enter Tryd.func5, Tryd.ntmps5
  go_upto_region 1 with fail
  generalize hw0 : w.alloc _ = v0
  have H1 := Lib.hid (H0.out.world hw0)
  clear hw0 H0
  generalize w.heap.size = bd at H1 ⊢
  go_upto_region 5 with (first | (go_at_call 9; refine (awake13_any _ (H1.out.tabs HT.out off_no)).mono ?_; rintro e w1 ⟨rfl, hb1⟩; have H2 := Lib.hid (H1.out.quiet hb1); clear hb1 H1) | (go_at_call 17; refine (run13_any A c ds _ (H2.out.tabs HT.out off_no) HL1.out (dts_below HD.out H2.out.below0) HOK.out).mono ?_; rw [HLL.out]; rintro e w3 ⟨q, rfl, G, hH⟩; have H3 : Hid (Has w w3 (fun _ => False) [⟨tlbT q 5 L, G⟩] [⟨bd, #[.int .i64 kd, .int .i64 p, .int .i64 pk, .int .u64 a, .int .u64 l0, .bool l1, .bool l2, .bool l3, .bool l4, .int .u8 l5, .int .u64 h0, .int .i64 h1, .bool h2, .bool h3, .bool h4, .bool h5], 39⟩] []) := Lib.hid (H2.out.join hH); clear hH H2))
  have HND := Lib.hid (H3.out.the 0 rfl).nodup
  obtain ⟨M, hM⟩ : ∃ M, bigT 5 L p a (h0, 3, h2, h3, h4, h5) pk = M := ⟨_, rfl⟩
  have HLS := Lib.hid hM
  obtain ⟨⟨x0, x1, x2, x3, x4, x5⟩, hx, hxe⟩ := big_found HND.out (R := 5) (by decide) p a pk (g := (h0, 3, h2, h3, h4, h5)) (by first | exact Or.inl rfl | exact Or.inr rfl) (b := ad) HTG.out
  rw [hM] at hx
  clear hM
  have HX : Hid (ansT (lookT M p ad) = .tuple #[.agg #[.int .u64 x0, .int .i64 x1, .bool x2, .bool x3, .bool x4, .bool x5], .bool true]) := Lib.hid (by rw [hx]; rfl)
  clear hx
  have f11 := (H3.out.at_ 0 rfl).fz 11
  obtain ⟨e0, e1, e2, e3, e4, e5, e6, e7, e8, e9, e10, e11, e12, e13, e14, e15⟩ := (H3.out.at_ 0 rfl).c16
  go_upto_region 6 with fail
  generalize hq9 : w3.setCell _ _ = w4
  have H4 : Hid (Has w w4 (fun _ => False) [⟨tlbT q 5 L, G⟩] [⟨bd, #[.int .i64 kd, .int .i64 p, .int .i64 pk, .int .u64 a, .int .u64 l0, .bool l1, .bool l2, .bool l3, .bool l4, .int .u8 l5, .int .u64 h0, .int .i64 3, .bool h2, .bool h3, .bool h4, .bool h5], 39⟩] []) := Lib.hid ((H3.out.put 0 rfl (turn1 _ _ 11 (.int .i64 3)) (Blk.set1 (H3.out.at_ 0 rfl) 11 (.int .i64 3))).world hq9)
  clear hq9 H3 f11
  clear e0 e1 e2 e3 e4 e5 e6 e7 e8 e9 e10 e11 e12 e13 e14 e15
  obtain ⟨e0, e1, e2, e3, e4, e5, e6, e7, e8, e9, e10, e11, e12, e13, e14, e15⟩ := (H4.out.at_ 0 rfl).c16
  go_upto_region 7 with (go_at_call 20; refine (H4.out.tGreat HT.out off_no p a HP.out HA.out (h0, 3, h2, h3, h4, h5) pk HPK.out).mono ?_; rw [HLS.out]; rintro e w5 ⟨rfl, hE⟩; obtain ⟨G5, hE2⟩ := hE.out; have H5 := Lib.hid hE2; clear hE hE2 H4)
  clear e0 e1 e2 e3 e4 e5 e6 e7 e8 e9 e10 e11 e12 e13 e14 e15
  obtain ⟨e0, e1, e2, e3, e4, e5, e6, e7, e8, e9, e10, e11, e12, e13, e14, e15⟩ := (H5.out.at_ 0 rfl).c16
  go_upto_region 8 with (go_at_call 21; refine (rsize_any _ _).mono ?_; rw [HS.out]; rintro e _ ⟨rfl, rfl⟩)
  clear e0 e1 e2 e3 e4 e5 e6 e7 e8 e9 e10 e11 e12 e13 e14 e15
  have H6 := Lib.hid (H5.out.quiet (Kept.drew0 w5))
  clear H5
  refine wp_region_held_drew (S := fun w' => Blk w' bd #[.int .i64 kd, .int .i64 p, .int .i64 pk, .int .u64 a, .int .u64 l0, .bool l1, .bool l2, .bool l3, .bool l4, .int .u8 l5, .int .u64 h0, .int .i64 3, .bool h2, .bool h3, .bool h4, .bool h5] 39) (by kernel_rfl) (H6.out.at_ 0 rfl) (fun hHeld => ?_)
  generalize w5.drew = w6 at *
  refine tk (v := ?_) 0 ?_ ?_
  rotate_left
  · intro w hSw
    go_simp
    (try with_reducible rfl)
  (try simp only [Act.put, List.setIfInBounds_toArray, List.set_cons_zero, List.set_cons_succ])
  refine tk (v := ?_) 1 ?_ ?_
  rotate_left
  · intro w hSw
    go_simp
    (try with_reducible rfl)
  (try simp only [Act.put, List.setIfInBounds_toArray, List.set_cons_zero, List.set_cons_succ])
  refine tk (v := ?_) 2 ?_ ?_
  rotate_left
  · intro w hSw
    obtain ⟨e0, e1, e2, e3, e4, e5, e6, e7, e8, e9, e10, e11, e12, e13, e14, e15⟩ := hSw.c16
    go_simp
    (try with_reducible rfl)
  (try simp only [Act.put, List.setIfInBounds_toArray, List.set_cons_zero, List.set_cons_succ])
  refine tk (v := ?_) 3 ?_ ?_
  rotate_left
  · intro w hSw
    go_simp
    (try with_reducible rfl)
  (try simp only [Act.put, List.setIfInBounds_toArray, List.set_cons_zero, List.set_cons_succ])
  refine tk (v := ?_) 4 ?_ ?_
  rotate_left
  · intro w hSw
    obtain ⟨e0, e1, e2, e3, e4, e5, e6, e7, e8, e9, e10, e11, e12, e13, e14, e15⟩ := hSw.c16
    go_simp
    (try with_reducible rfl)
  (try simp only [Act.put, List.setIfInBounds_toArray, List.set_cons_zero, List.set_cons_succ])
  refine tk (v := ?_) 5 ?_ ?_
  rotate_left
  · intro w hSw
    go_simp
    (try with_reducible rfl)
  (try simp only [Act.put, List.setIfInBounds_toArray, List.set_cons_zero, List.set_cons_succ])
  refine tk (v := ?_) 6 ?_ ?_
  rotate_left
  · intro w hSw
    go_simp
    (try with_reducible rfl)
  (try simp only [Act.put, List.setIfInBounds_toArray, List.set_cons_zero, List.set_cons_succ])
  refine tk (v := ?_) 7 ?_ ?_
  rotate_left
  · intro w hSw
    go_simp
    (try with_reducible rfl)
  (try simp only [Act.put, List.setIfInBounds_toArray, List.set_cons_zero, List.set_cons_succ])
  refine tk (v := ?_) 8 ?_ ?_
  rotate_left
  · intro w hSw
    go_simp
    (try with_reducible rfl)
  (try simp only [Act.put, List.setIfInBounds_toArray, List.set_cons_zero, List.set_cons_succ])
  refine tk (v := ?_) 9 ?_ ?_
  rotate_left
  · intro w hSw
    go_simp
    (try with_reducible rfl)
  (try simp only [Act.put, List.setIfInBounds_toArray, List.set_cons_zero, List.set_cons_succ])
  refine tk (v := ?_) 10 ?_ ?_
  rotate_left
  · intro w hSw
    go_simp
    (try with_reducible rfl)
  (try simp only [Act.put, List.setIfInBounds_toArray, List.set_cons_zero, List.set_cons_succ])
  refine tk (v := ?_) 11 ?_ ?_
  rotate_left
  · intro w hSw
    go_simp
    (try with_reducible rfl)
  (try simp only [Act.put, List.setIfInBounds_toArray, List.set_cons_zero, List.set_cons_succ])
  refine tk (v := ?_) 12 ?_ ?_
  rotate_left
  · intro w hSw
    go_simp
    (try with_reducible rfl)
  (try simp only [Act.put, List.setIfInBounds_toArray, List.set_cons_zero, List.set_cons_succ])
  refine wpAnyH_ready (rs := [13, 17]) (by kernel_rfl) (by simp) ?_
  refine anyH_one rfl (fun K hK => ?_) ?_
  · go_simp
    refine (H6.out.tLook HT.out off_no p ad HP.out HW9.out).mono ?_
    rw [HX.out]
    rintro e w7 ⟨rfl, hb⟩
    have H7 := Lib.hid (H6.out.quiet hb)
    clear hb H6
    refine hK.out _ _ ((H7.out.at_ 0 rfl)) (fun hHeld => ?_)
    clear hK K
    (try simp only [Act.put, List.setIfInBounds_toArray, List.set_cons_zero, List.set_cons_succ])
    refine tk (v := ?_) 14 ?_ ?_
    rotate_left
    · intro w hSw
      go_simp
      (try with_reducible rfl)
    (try simp only [Act.put, List.setIfInBounds_toArray, List.set_cons_zero, List.set_cons_succ])
    refine tk (v := ?_) 15 ?_ ?_
    rotate_left
    · intro w hSw
      go_simp
      (try with_reducible rfl)
    (try simp only [Act.put, List.setIfInBounds_toArray, List.set_cons_zero, List.set_cons_succ])
    refine tk (v := ?_) 16 ?_ ?_
    rotate_left
    · intro w hSw
      go_simp
      (try with_reducible rfl)
    (try simp only [Act.put, List.setIfInBounds_toArray, List.set_cons_zero, List.set_cons_succ])
    refine wpAnyH_ready (rs := [17]) (by kernel_rfl) (by simp) ?_
    refine anyH_one rfl (fun K hK => ?_) ?_
    · go_simp
      generalize hq9 : w7.alloc _ = w8
      have H8 := Lib.hid ((H7.out.new (b := w7.heap.size) rfl #[.int .u64 0, .int .i64 0, .bool false, .bool false, .bool false, .bool false] 37).world hq9)
      clear hq9 H7
      generalize w7.heap.size = b9 at H8 ⊢
      refine hK.out _ _ ((H8.out.at_ 1 rfl)) (fun hHeld => ?_)
      clear hK K
      (try simp only [Act.put, List.setIfInBounds_toArray, List.set_cons_zero, List.set_cons_succ])
      refine wpAnyH_ready (rs := [18]) (by kernel_rfl) (by simp) ?_
      refine anyH_one rfl (fun K hK => ?_) ?_
      · obtain ⟨r0, r1, r2, r3, r4, r5⟩ := (H8.out.at_ 0 rfl).c6
        have g0 := (H8.out.at_ 0 rfl).fz 0; have g1 := (H8.out.at_ 0 rfl).fz 1; have g2 := (H8.out.at_ 0 rfl).fz 2; have g3 := (H8.out.at_ 0 rfl).fz 3; have g4 := (H8.out.at_ 0 rfl).fz 4; have g5 := (H8.out.at_ 0 rfl).fz 5
        go_simp
        generalize hq9 : (((((w8.setCell _ _).setCell _ _).setCell _ _).setCell _ _).setCell _ _).setCell _ _ = w9
        have H9 := Lib.hid ((H8.out.put 0 rfl (turnB6 _ _ _ _ _ _ _ _) (setB6 (H8.out.at_ 0 rfl) _ _ _ _ _ _)).world hq9)
        clear hq9 H8 r0 r1 r2 r3 r4 r5 g0 g1 g2 g3 g4 g5
        refine hK.out _ _ ((H9.out.at_ 1 rfl)) (fun hHeld => ?_)
        clear hK K
        (try simp only [Act.put, List.setIfInBounds_toArray, List.set_cons_zero, List.set_cons_succ])
        refine tk (v := ?_) 19 ?_ ?_
        rotate_left
        · intro w hSw
          go_simp
          (try with_reducible rfl)
        (try simp only [Act.put, List.setIfInBounds_toArray, List.set_cons_zero, List.set_cons_succ])
        refine wpAnyH_done (by kernel_rfl) ?_ _
        clear hHeld
        obtain ⟨r0, r1, r2, r3, r4, r5⟩ := (H9.out.at_ 0 rfl).c6
        obtain ⟨e0, e1, e2, e3, e4, e5, e6, e7, e8, e9, e10, e11, e12, e13, e14, e15⟩ := (H9.out.at_ 1 rfl).c16
        by_cases he : (x0, x1, x2, x3, x4, x5) = (h0, 3, h2, h3, h4, h5)
        · have hq := fun w => (eqlH (x0, x1, x2, x3, x4, x5) (h0, 3, h2, h3, h4, h5) w).trans (by rw [decide_eq_true he])
          clear he hxe
          go_wp2
          go_ret
          exact ⟨rfl, H9.out.below0⟩
        · have hq := fun w => (eqlH (x0, x1, x2, x3, x4, x5) (h0, 3, h2, h3, h4, h5) w).trans (by rw [decide_eq_false he])
          have hlt : decide (x1 < 3) = true := decide_eq_true (hxe.resolve_left he)
          clear he hxe
          go_wp2
          go_ret
          exact ⟨rfl, H9.out.below0⟩
      exact AllReadyH.nil
    exact AllReadyH.nil
  refine anyH_one rfl (fun K hK => ?_) ?_
  · go_simp
    generalize hq9 : w6.alloc _ = w7
    have H7 := Lib.hid ((H6.out.new (b := w6.heap.size) rfl #[.int .u64 0, .int .i64 0, .bool false, .bool false, .bool false, .bool false] 37).world hq9)
    clear hq9 H6
    generalize w6.heap.size = b9 at H7 ⊢
    refine hK.out _ _ ((H7.out.at_ 1 rfl)) (fun hHeld => ?_)
    clear hK K
    (try simp only [Act.put, List.setIfInBounds_toArray, List.set_cons_zero, List.set_cons_succ])
    refine wpAnyH_ready (rs := [13]) (by kernel_rfl) (by simp) ?_
    refine anyH_one rfl (fun K hK => ?_) ?_
    · go_simp
      refine (H7.out.tLook HT.out off_no p ad HP.out HW9.out).mono ?_
      rw [HX.out]
      rintro e w8 ⟨rfl, hb⟩
      have H8 := Lib.hid (H7.out.quiet hb)
      clear hb H7
      refine hK.out _ _ ((H8.out.at_ 1 rfl)) (fun hHeld => ?_)
      clear hK K
      (try simp only [Act.put, List.setIfInBounds_toArray, List.set_cons_zero, List.set_cons_succ])
      refine tk (v := ?_) 14 ?_ ?_
      rotate_left
      · intro w hSw
        go_simp
        (try with_reducible rfl)
      (try simp only [Act.put, List.setIfInBounds_toArray, List.set_cons_zero, List.set_cons_succ])
      refine tk (v := ?_) 15 ?_ ?_
      rotate_left
      · intro w hSw
        go_simp
        (try with_reducible rfl)
      (try simp only [Act.put, List.setIfInBounds_toArray, List.set_cons_zero, List.set_cons_succ])
      refine tk (v := ?_) 16 ?_ ?_
      rotate_left
      · intro w hSw
        go_simp
        (try with_reducible rfl)
      (try simp only [Act.put, List.setIfInBounds_toArray, List.set_cons_zero, List.set_cons_succ])
      refine wpAnyH_ready (rs := [18]) (by kernel_rfl) (by simp) ?_
      refine anyH_one rfl (fun K hK => ?_) ?_
      · obtain ⟨r0, r1, r2, r3, r4, r5⟩ := (H8.out.at_ 0 rfl).c6
        have g0 := (H8.out.at_ 0 rfl).fz 0; have g1 := (H8.out.at_ 0 rfl).fz 1; have g2 := (H8.out.at_ 0 rfl).fz 2; have g3 := (H8.out.at_ 0 rfl).fz 3; have g4 := (H8.out.at_ 0 rfl).fz 4; have g5 := (H8.out.at_ 0 rfl).fz 5
        go_simp
        generalize hq9 : (((((w8.setCell _ _).setCell _ _).setCell _ _).setCell _ _).setCell _ _).setCell _ _ = w9
        have H9 := Lib.hid ((H8.out.put 0 rfl (turnB6 _ _ _ _ _ _ _ _) (setB6 (H8.out.at_ 0 rfl) _ _ _ _ _ _)).world hq9)
        clear hq9 H8 r0 r1 r2 r3 r4 r5 g0 g1 g2 g3 g4 g5
        refine hK.out _ _ ((H9.out.at_ 1 rfl)) (fun hHeld => ?_)
        clear hK K
        (try simp only [Act.put, List.setIfInBounds_toArray, List.set_cons_zero, List.set_cons_succ])
        refine tk (v := ?_) 19 ?_ ?_
        rotate_left
        · intro w hSw
          go_simp
          (try with_reducible rfl)
        (try simp only [Act.put, List.setIfInBounds_toArray, List.set_cons_zero, List.set_cons_succ])
        refine wpAnyH_done (by kernel_rfl) ?_ _
        clear hHeld
        obtain ⟨r0, r1, r2, r3, r4, r5⟩ := (H9.out.at_ 0 rfl).c6
        obtain ⟨e0, e1, e2, e3, e4, e5, e6, e7, e8, e9, e10, e11, e12, e13, e14, e15⟩ := (H9.out.at_ 1 rfl).c16
        by_cases he : (x0, x1, x2, x3, x4, x5) = (h0, 3, h2, h3, h4, h5)
        · have hq := fun w => (eqlH (x0, x1, x2, x3, x4, x5) (h0, 3, h2, h3, h4, h5) w).trans (by rw [decide_eq_true he])
          clear he hxe
          go_wp2
          go_ret
          exact ⟨rfl, H9.out.below0⟩
        · have hq := fun w => (eqlH (x0, x1, x2, x3, x4, x5) (h0, 3, h2, h3, h4, h5) w).trans (by rw [decide_eq_false he])
          have hlt : decide (x1 < 3) = true := decide_eq_true (hxe.resolve_left he)
          clear he hxe
          go_wp2
          go_ret
          exact ⟨rfl, H9.out.below0⟩
      exact AllReadyH.nil
    exact AllReadyH.nil
  exact AllReadyH.nil
theorem tlbGreat_walk (A : Option Addr) (c : Nat) (ds : List Dt) (w : World) (ht : Tabs w) (hl : ds.length ≤ maxLen) (hd : DtsIn w A ds) (hok : DtsOk ds) (kd p pk a l0 l5 h0 h1 : Int) (l1 l2 l3 l4 h2 h3 h4 h5 : Bool) (b : Int) (hp : I64 p) (hk : I64 pk) (ha : W64 a) (hol : OkL (l0, l1, l2, l3, l4, l5)) (hb : W64 b) :
    Calls Tryd.prog 5 #[.slice A ds.length c, .agg #[.int .i64 kd, .int .i64 p, .int .i64 pk, .int .u64 a, .int .u64 l0, .bool l1, .bool l2, .bool l3, .bool l4, .int .u8 l5, .int .u64 h0, .int .i64 h1, .bool h2, .bool h3, .bool h4, .bool h5], .int .u64 b] w fun e w' => e = .returned (.bool true) ∧ Below w.heap.size w w' := by
  rcases bits_one h1 with e | e
  · exact tlbGreat_2 A c ds w ht hl hd hok kd p pk a l0 l5 h0 h1 l1 l2 l3 l4 h2 h3 h4 h5 b hp hk ha hol hb e
  · exact tlbGreat_3 A c ds w ht hl hd hok kd p pk a l0 l5 h0 h1 l1 l2 l3 l4 h2 h3 h4 h5 b hp hk ha hol hb e
end Go.Proofs.YtddbjbdhbeijjaaDoor
/- The walk of TlbDrops. (Laid by tools/gen_l13.py.) -/
namespace Go.Proofs.YtddbjbdhbeijjaaDoor
set_option linter.unusedVariables false
set_option linter.unusedSimpArgs false
open Go.ChangeShapes Go.WideShapes Go.ChangeAt Go.RowKit Go.Joins

set_option maxRecDepth 100000 in
set_option maxHeartbeats 6400000 in
theorem tlbDrops_n (A : Option Addr) (c : Nat) (ds : List Dt) (w : World) (ht : Tabs w) (hl : ds.length ≤ maxLen) (hd : DtsIn w A ds) (hok : DtsOk ds) (kd p pk a l0 l5 h0 h1 : Int) (l1 l2 l3 l4 h2 h3 h4 h5 : Bool) (b : Int) (hp : I64 p) (hk : I64 pk) (ha : W64 a) (hol : OkL (l0, l1, l2, l3, l4, l5)) (hb : W64 b) (ho : lookT (playD 5 ds (mostT ds)) p b = none) :
    Calls Tryd.prog 6 #[.slice A ds.length c, .agg #[.int .i64 kd, .int .i64 p, .int .i64 pk, .int .u64 a, .int .u64 l0, .bool l1, .bool l2, .bool l3, .bool l4, .int .u8 l5, .int .u64 h0, .int .i64 h1, .bool h2, .bool h3, .bool h4, .bool h5], .int .u64 b] w fun e w' => e = .returned (.bool true) ∧ Below w.heap.size w w' := by
  have HT := Lib.hid ht
  have HL1 := Lib.hid hl
  have HD := Lib.hid hd
  have HOK := Lib.hid hok
  have HP := Lib.hid hp
  have HPK := Lib.hid hk
  have HA := Lib.hid ha
  have HOL := Lib.hid hol
  have HB := Lib.hid hb
  obtain ⟨L, hL⟩ : ∃ L, playD 5 ds (mostT ds) = L := ⟨_, rfl⟩
  rw [hL] at ho
  have HLL := Lib.hid hL
  clear hL
  obtain ⟨p1, hp1⟩ : ∃ p1, IntKind.i64.wrap (p + 1) = p1 := ⟨_, rfl⟩
  have HPN : Hid (p1 ≠ p ∧ I64 p1) := Lib.hid (hp1 ▸ pcid_next hp)
  obtain ⟨g, is, hx, _⟩ := ans_h (lookT L p1 b)
  have HX := Lib.hid hx
  have hq := eqlH g g
  rw [decide_eq_true rfl] at hq
  have HPA := Lib.hid fun l w1 => rpage_any a l w1 ha
  have HPB := Lib.hid fun l w1 => rpage_any b l w1 hb
  obtain ⟨pa, hpa⟩ : ∃ z, pageF a 1 = z := ⟨_, rfl⟩
  obtain ⟨pb, hpb⟩ : ∃ z, pageF b 1 = z := ⟨_, rfl⟩
  have HPA1 := Lib.hid (HPA.out 1)
  have HPB1 := Lib.hid (HPB.out 1)
  rw [hpa] at HPA1
  rw [hpb] at HPB1
  have HXW : Hid (ansT (lookT L p b) = .tuple #[.agg #[.int .u64 0, .int .i64 0, .bool false, .bool false, .bool false, .bool false], .bool false]) := Lib.hid (by rw [ho]; rfl)
  have HPAL := HPA1
  have HPBL := HPB1
  have HX2 : Hid ((keysK L).Nodup → OkLs L → ansT (lookT (dropT 5 L p a) p b) = .tuple #[.agg #[.int .u64 0, .int .i64 0, .bool false, .bool false, .bool false, .bool false], .bool false]) := Lib.hid fun h1 h2 => by rw [dropT_less h1 h2 ho]; rfl
  have H0 := Lib.hid ((Has.start0 w (fun _ => False)).new (b := w.heap.size) rfl #[.int .i64 kd, .int .i64 p, .int .i64 pk, .int .u64 a, .int .u64 l0, .bool l1, .bool l2, .bool l3, .bool l4, .int .u8 l5, .int .u64 h0, .int .i64 h1, .bool h2, .bool h3, .bool h4, .bool h5] 39)
  clear ht hl hd hok hp hk ha hol hb hx ho hpa hpb
  go_enter Tryd.func6, Tryd.ntmps6
  go_upto_region 1 with fail
  generalize hw0 : w.alloc _ = v0
  have H1 := Lib.hid (H0.out.world hw0)
  clear hw0 H0
  generalize w.heap.size = bd at H1 ⊢
  go_upto_region 5 with (first | (go_at_call 9; refine (awake13_any _ (H1.out.tabs HT.out off_no)).mono ?_; rintro e w1 ⟨rfl, hb1⟩; have H2 := Lib.hid (H1.out.quiet hb1); clear hb1 H1) | (go_at_call 17; refine (run13_any A c ds _ (H2.out.tabs HT.out off_no) HL1.out (dts_below HD.out H2.out.below0) HOK.out).mono ?_; rw [HLL.out]; rintro e w3 ⟨q, rfl, G, hH⟩; have H3 : Hid (Has w w3 (fun _ => False) [⟨tlbT q 5 L, G⟩] [⟨bd, #[.int .i64 kd, .int .i64 p, .int .i64 pk, .int .u64 a, .int .u64 l0, .bool l1, .bool l2, .bool l3, .bool l4, .int .u8 l5, .int .u64 h0, .int .i64 h1, .bool h2, .bool h3, .bool h4, .bool h5], 39⟩] []) := Lib.hid (H2.out.join hH); clear hH H2))
  have HND := Lib.hid (H3.out.the 0 rfl).nodup
  have HKL := Lib.hid (H3.out.the 0 rfl).ok
  have HX2 := Lib.hid (HX2.out HND.out HKL.out)
  have HXS : Hid (ansT (lookT (dropT 5 L p a) p a) = .tuple #[.agg #[.int .u64 0, .int .i64 0, .bool false, .bool false, .bool false, .bool false], .bool false]) := Lib.hid (by rw [dropT_gone HND.out HKL.out]; rfl)
  have HX3 : Hid (ansT (lookT (dropT 5 L p a) p1 b) = .tuple #[.agg #[.int .u64 g.1, .int .i64 g.2.1, .bool g.2.2.1, .bool g.2.2.2.1, .bool g.2.2.2.2.1, .bool g.2.2.2.2.2], .bool is]) := Lib.hid (by rw [dropT_pcid HND.out HPN.out.1]; exact HX.out)
  obtain ⟨e0, e1, e2, e3, e4, e5, e6, e7, e8, e9, e10, e11, e12, e13, e14, e15⟩ := (H3.out.at_ 0 rfl).c16
  go_upto_region 6 with (go_at_call 13; refine (H3.out.tLook HT.out off_no p b HP.out HB.out).mono ?_; rw [HXW.out]; rintro e w4 ⟨rfl, hb⟩; have H4 := Lib.hid (H3.out.quiet hb); clear hb H3)
  clear e0 e1 e2 e3 e4 e5 e6 e7 e8 e9 e10 e11 e12 e13 e14 e15
  generalize hq9 : w4.alloc _ = w5
  have H5 := Lib.hid ((H4.out.new (b := w4.heap.size) rfl #[.int .u64 0, .int .i64 0, .bool false, .bool false, .bool false, .bool false] 37).world hq9)
  clear hq9 H4
  generalize w4.heap.size = b5 at *
  obtain ⟨e0, e1, e2, e3, e4, e5, e6, e7, e8, e9, e10, e11, e12, e13, e14, e15⟩ := (H5.out.at_ 1 rfl).c16
  go_upto_region 7 with (go_at_call 13; refine (H5.out.tLook HT.out off_no p1 b HPN.out.2 HB.out).mono ?_; rw [HX.out]; rintro e w6 ⟨rfl, hb⟩; have H6 := Lib.hid (H5.out.quiet hb); clear hb H5)
  clear e0 e1 e2 e3 e4 e5 e6 e7 e8 e9 e10 e11 e12 e13 e14 e15
  generalize hq9 : w6.alloc _ = w7
  have H7 := Lib.hid ((H6.out.new (b := w6.heap.size) rfl #[.int .u64 g.1, .int .i64 g.2.1, .bool g.2.2.1, .bool g.2.2.2.1, .bool g.2.2.2.2.1, .bool g.2.2.2.2.2] 37).world hq9)
  clear hq9 H6
  generalize w6.heap.size = b7 at *
  obtain ⟨e0, e1, e2, e3, e4, e5, e6, e7, e8, e9, e10, e11, e12, e13, e14, e15⟩ := (H7.out.at_ 2 rfl).c16
  go_upto_region 8 with (go_at_call 22; refine (H7.out.tDrop HT.out off_no p a HP.out HA.out).mono ?_; rintro e w8 ⟨rfl, hE⟩; obtain ⟨G8, hE2⟩ := hE.out; have H8 := Lib.hid hE2; clear hE hE2 H7)
  clear e0 e1 e2 e3 e4 e5 e6 e7 e8 e9 e10 e11 e12 e13 e14 e15
  obtain ⟨e0, e1, e2, e3, e4, e5, e6, e7, e8, e9, e10, e11, e12, e13, e14, e15⟩ := (H8.out.at_ 2 rfl).c16
  go_upto_region 9 with (go_at_call 13; refine (H8.out.tLook HT.out off_no p a HP.out HA.out).mono ?_; rw [HXS.out]; rintro e w9 ⟨rfl, hb⟩; have H9 := Lib.hid (H8.out.quiet hb); clear hb H8)
  clear e0 e1 e2 e3 e4 e5 e6 e7 e8 e9 e10 e11 e12 e13 e14 e15
  generalize hq9 : w9.alloc _ = w10
  have H10 := Lib.hid ((H9.out.new (b := w9.heap.size) rfl #[.int .u64 0, .int .i64 0, .bool false, .bool false, .bool false, .bool false] 37).world hq9)
  clear hq9 H9
  generalize w9.heap.size = b10 at *
  obtain ⟨e0, e1, e2, e3, e4, e5, e6, e7, e8, e9, e10, e11, e12, e13, e14, e15⟩ := (H10.out.at_ 3 rfl).c16
  go_upto_region 10 with (go_at_call 13; refine (H10.out.tLook HT.out off_no p b HP.out HB.out).mono ?_; rw [HX2.out]; rintro e w11 ⟨rfl, hb⟩; have H11 := Lib.hid (H10.out.quiet hb); clear hb H10)
  clear e0 e1 e2 e3 e4 e5 e6 e7 e8 e9 e10 e11 e12 e13 e14 e15
  generalize hq9 : w11.alloc _ = w12
  have H12 := Lib.hid ((H11.out.new (b := w11.heap.size) rfl #[.int .u64 0, .int .i64 0, .bool false, .bool false, .bool false, .bool false] 37).world hq9)
  clear hq9 H11
  generalize w11.heap.size = b12 at *
  obtain ⟨e0, e1, e2, e3, e4, e5, e6, e7, e8, e9, e10, e11, e12, e13, e14, e15⟩ := (H12.out.at_ 4 rfl).c16
  go_upto_region 11 with (go_at_call 13; refine (H12.out.tLook HT.out off_no p1 b HPN.out.2 HB.out).mono ?_; rw [HX3.out]; rintro e w13 ⟨rfl, hb⟩; have H13 := Lib.hid (H12.out.quiet hb); clear hb H12)
  clear e0 e1 e2 e3 e4 e5 e6 e7 e8 e9 e10 e11 e12 e13 e14 e15
  generalize hq9 : w13.alloc _ = w14
  have H14 := Lib.hid ((H13.out.new (b := w13.heap.size) rfl #[.int .u64 g.1, .int .i64 g.2.1, .bool g.2.2.1, .bool g.2.2.2.1, .bool g.2.2.2.2.1, .bool g.2.2.2.2.2] 37).world hq9)
  clear hq9 H13
  generalize w13.heap.size = b14 at *
  obtain ⟨e0, e1, e2, e3, e4, e5, e6, e7, e8, e9, e10, e11, e12, e13, e14, e15⟩ := (H14.out.at_ 5 rfl).c16
  go_upto_region 12 with (go_at_call 23; first | ((with_reducible refine (HPA1.out _).mono ?_); rintro e _ ⟨rfl, rfl⟩) | ((with_reducible refine (HPB1.out _).mono ?_); rintro e _ ⟨rfl, rfl⟩))
  obtain ⟨q0, q1, q2, q3, q4, q5⟩ := (H14.out.at_ 1 rfl).c6
  obtain ⟨r0, r1, r2, r3, r4, r5⟩ := (H14.out.at_ 4 rfl).c6
  go_quiet (first | (go_at_call 23; first | (with_reducible exact quietOf (HPAL.out _)) | (with_reducible exact quietOf (HPBL.out _))))
  generalize hw : w14.drewN _ = w15
  have H15 := Lib.hid ((H14.out.quiet (below_drewN (Below.refl _ _) _)).world hw)
  clear hw H14 q0 q1 q2 q3 q4 q5 r0 r1 r2 r3 r4 r5 e0 e1 e2 e3 e4 e5 e6 e7 e8 e9 e10 e11 e12 e13 e14 e15
  obtain ⟨q0, q1, q2, q3, q4, q5⟩ := (H15.out.at_ 0 rfl).c6
  obtain ⟨r0, r1, r2, r3, r4, r5⟩ := (H15.out.at_ 3 rfl).c6
  go_wp2
  go_ret
  exact ⟨rfl, H15.out.below0⟩
set_option maxRecDepth 100000 in
set_option maxHeartbeats 6400000 in
theorem tlbDrops_1a (A : Option Addr) (c : Nat) (ds : List Dt) (w : World) (ht : Tabs w) (hl : ds.length ≤ maxLen) (hd : DtsIn w A ds) (hok : DtsOk ds) (kd p pk a l0 l5 h0 h1 : Int) (l1 l2 l3 l4 h2 h3 h4 h5 : Bool) (b : Int) (hp : I64 p) (hk : I64 pk) (ha : W64 a) (hol : OkL (l0, l1, l2, l3, l4, l5)) (hb : W64 b) (x0 : Int) (x2 x3 x4 x5 : Bool) (ho : lookT (playD 5 ds (mostT ds)) p b = some (x0, 1, x2, x3, x4, x5)) (hpg : pageF a 1 ≠ pageF b 1) :
    Calls Tryd.prog 6 #[.slice A ds.length c, .agg #[.int .i64 kd, .int .i64 p, .int .i64 pk, .int .u64 a, .int .u64 l0, .bool l1, .bool l2, .bool l3, .bool l4, .int .u8 l5, .int .u64 h0, .int .i64 h1, .bool h2, .bool h3, .bool h4, .bool h5], .int .u64 b] w fun e w' => e = .returned (.bool true) ∧ Below w.heap.size w w' := by
  have HT := Lib.hid ht
  have HL1 := Lib.hid hl
  have HD := Lib.hid hd
  have HOK := Lib.hid hok
  have HP := Lib.hid hp
  have HPK := Lib.hid hk
  have HA := Lib.hid ha
  have HOL := Lib.hid hol
  have HB := Lib.hid hb
  obtain ⟨L, hL⟩ : ∃ L, playD 5 ds (mostT ds) = L := ⟨_, rfl⟩
  rw [hL] at ho
  have HLL := Lib.hid hL
  clear hL
  obtain ⟨p1, hp1⟩ : ∃ p1, IntKind.i64.wrap (p + 1) = p1 := ⟨_, rfl⟩
  have HPN : Hid (p1 ≠ p ∧ I64 p1) := Lib.hid (hp1 ▸ pcid_next hp)
  obtain ⟨g, is, hx, _⟩ := ans_h (lookT L p1 b)
  have HX := Lib.hid hx
  have hq := eqlH g g
  rw [decide_eq_true rfl] at hq
  have HPA := Lib.hid fun l w1 => rpage_any a l w1 ha
  have HPB := Lib.hid fun l w1 => rpage_any b l w1 hb
  obtain ⟨pa, hpa⟩ : ∃ z, pageF a 1 = z := ⟨_, rfl⟩
  obtain ⟨pb, hpb⟩ : ∃ z, pageF b 1 = z := ⟨_, rfl⟩
  have HPA1 := Lib.hid (HPA.out 1)
  have HPB1 := Lib.hid (HPB.out 1)
  rw [hpa] at HPA1
  rw [hpb] at HPB1
  have HXW : Hid (ansT (lookT L p b) = .tuple #[.agg #[.int .u64 x0, .int .i64 1, .bool x2, .bool x3, .bool x4, .bool x5], .bool true]) := Lib.hid (by rw [ho]; rfl)
  have HPAL := HPA1
  have HPBL := HPB1
  have hap : (pa != pb) = true := by
    have hpg2 := hpg
    rw [hpa, hpb] at hpg2
    simp [hpg2]
  have HX2 : Hid ((keysK L).Nodup → OkLs L → ansT (lookT (dropT 5 L p a) p b) = .tuple #[.agg #[.int .u64 x0, .int .i64 1, .bool x2, .bool x3, .bool x4, .bool x5], .bool true]) := Lib.hid fun h1 h2 => by rw [dropT_stays h1 h2 (R := 5) ho hpg]; rfl
  have hqn := neqH (x0, 1, x2, x3, x4, x5)
  have H0 := Lib.hid ((Has.start0 w (fun _ => False)).new (b := w.heap.size) rfl #[.int .i64 kd, .int .i64 p, .int .i64 pk, .int .u64 a, .int .u64 l0, .bool l1, .bool l2, .bool l3, .bool l4, .int .u8 l5, .int .u64 h0, .int .i64 h1, .bool h2, .bool h3, .bool h4, .bool h5] 39)
  clear ht hl hd hok hp hk ha hol hb hx ho hpa hpb hpg
  go_enter Tryd.func6, Tryd.ntmps6
  go_upto_region 1 with fail
  generalize hw0 : w.alloc _ = v0
  have H1 := Lib.hid (H0.out.world hw0)
  clear hw0 H0
  generalize w.heap.size = bd at H1 ⊢
  go_upto_region 5 with (first | (go_at_call 9; refine (awake13_any _ (H1.out.tabs HT.out off_no)).mono ?_; rintro e w1 ⟨rfl, hb1⟩; have H2 := Lib.hid (H1.out.quiet hb1); clear hb1 H1) | (go_at_call 17; refine (run13_any A c ds _ (H2.out.tabs HT.out off_no) HL1.out (dts_below HD.out H2.out.below0) HOK.out).mono ?_; rw [HLL.out]; rintro e w3 ⟨q, rfl, G, hH⟩; have H3 : Hid (Has w w3 (fun _ => False) [⟨tlbT q 5 L, G⟩] [⟨bd, #[.int .i64 kd, .int .i64 p, .int .i64 pk, .int .u64 a, .int .u64 l0, .bool l1, .bool l2, .bool l3, .bool l4, .int .u8 l5, .int .u64 h0, .int .i64 h1, .bool h2, .bool h3, .bool h4, .bool h5], 39⟩] []) := Lib.hid (H2.out.join hH); clear hH H2))
  have HND := Lib.hid (H3.out.the 0 rfl).nodup
  have HKL := Lib.hid (H3.out.the 0 rfl).ok
  have HX2 := Lib.hid (HX2.out HND.out HKL.out)
  have HXS : Hid (ansT (lookT (dropT 5 L p a) p a) = .tuple #[.agg #[.int .u64 0, .int .i64 0, .bool false, .bool false, .bool false, .bool false], .bool false]) := Lib.hid (by rw [dropT_gone HND.out HKL.out]; rfl)
  have HX3 : Hid (ansT (lookT (dropT 5 L p a) p1 b) = .tuple #[.agg #[.int .u64 g.1, .int .i64 g.2.1, .bool g.2.2.1, .bool g.2.2.2.1, .bool g.2.2.2.2.1, .bool g.2.2.2.2.2], .bool is]) := Lib.hid (by rw [dropT_pcid HND.out HPN.out.1]; exact HX.out)
  obtain ⟨e0, e1, e2, e3, e4, e5, e6, e7, e8, e9, e10, e11, e12, e13, e14, e15⟩ := (H3.out.at_ 0 rfl).c16
  go_upto_region 6 with (go_at_call 13; refine (H3.out.tLook HT.out off_no p b HP.out HB.out).mono ?_; rw [HXW.out]; rintro e w4 ⟨rfl, hb⟩; have H4 := Lib.hid (H3.out.quiet hb); clear hb H3)
  clear e0 e1 e2 e3 e4 e5 e6 e7 e8 e9 e10 e11 e12 e13 e14 e15
  generalize hq9 : w4.alloc _ = w5
  have H5 := Lib.hid ((H4.out.new (b := w4.heap.size) rfl #[.int .u64 x0, .int .i64 1, .bool x2, .bool x3, .bool x4, .bool x5] 37).world hq9)
  clear hq9 H4
  generalize w4.heap.size = b5 at *
  obtain ⟨e0, e1, e2, e3, e4, e5, e6, e7, e8, e9, e10, e11, e12, e13, e14, e15⟩ := (H5.out.at_ 1 rfl).c16
  go_upto_region 7 with (go_at_call 13; refine (H5.out.tLook HT.out off_no p1 b HPN.out.2 HB.out).mono ?_; rw [HX.out]; rintro e w6 ⟨rfl, hb⟩; have H6 := Lib.hid (H5.out.quiet hb); clear hb H5)
  clear e0 e1 e2 e3 e4 e5 e6 e7 e8 e9 e10 e11 e12 e13 e14 e15
  generalize hq9 : w6.alloc _ = w7
  have H7 := Lib.hid ((H6.out.new (b := w6.heap.size) rfl #[.int .u64 g.1, .int .i64 g.2.1, .bool g.2.2.1, .bool g.2.2.2.1, .bool g.2.2.2.2.1, .bool g.2.2.2.2.2] 37).world hq9)
  clear hq9 H6
  generalize w6.heap.size = b7 at *
  obtain ⟨e0, e1, e2, e3, e4, e5, e6, e7, e8, e9, e10, e11, e12, e13, e14, e15⟩ := (H7.out.at_ 2 rfl).c16
  go_upto_region 8 with (go_at_call 22; refine (H7.out.tDrop HT.out off_no p a HP.out HA.out).mono ?_; rintro e w8 ⟨rfl, hE⟩; obtain ⟨G8, hE2⟩ := hE.out; have H8 := Lib.hid hE2; clear hE hE2 H7)
  clear e0 e1 e2 e3 e4 e5 e6 e7 e8 e9 e10 e11 e12 e13 e14 e15
  obtain ⟨e0, e1, e2, e3, e4, e5, e6, e7, e8, e9, e10, e11, e12, e13, e14, e15⟩ := (H8.out.at_ 2 rfl).c16
  go_upto_region 9 with (go_at_call 13; refine (H8.out.tLook HT.out off_no p a HP.out HA.out).mono ?_; rw [HXS.out]; rintro e w9 ⟨rfl, hb⟩; have H9 := Lib.hid (H8.out.quiet hb); clear hb H8)
  clear e0 e1 e2 e3 e4 e5 e6 e7 e8 e9 e10 e11 e12 e13 e14 e15
  generalize hq9 : w9.alloc _ = w10
  have H10 := Lib.hid ((H9.out.new (b := w9.heap.size) rfl #[.int .u64 0, .int .i64 0, .bool false, .bool false, .bool false, .bool false] 37).world hq9)
  clear hq9 H9
  generalize w9.heap.size = b10 at *
  obtain ⟨e0, e1, e2, e3, e4, e5, e6, e7, e8, e9, e10, e11, e12, e13, e14, e15⟩ := (H10.out.at_ 3 rfl).c16
  go_upto_region 10 with (go_at_call 13; refine (H10.out.tLook HT.out off_no p b HP.out HB.out).mono ?_; rw [HX2.out]; rintro e w11 ⟨rfl, hb⟩; have H11 := Lib.hid (H10.out.quiet hb); clear hb H10)
  clear e0 e1 e2 e3 e4 e5 e6 e7 e8 e9 e10 e11 e12 e13 e14 e15
  generalize hq9 : w11.alloc _ = w12
  have H12 := Lib.hid ((H11.out.new (b := w11.heap.size) rfl #[.int .u64 x0, .int .i64 1, .bool x2, .bool x3, .bool x4, .bool x5] 37).world hq9)
  clear hq9 H11
  generalize w11.heap.size = b12 at *
  obtain ⟨e0, e1, e2, e3, e4, e5, e6, e7, e8, e9, e10, e11, e12, e13, e14, e15⟩ := (H12.out.at_ 4 rfl).c16
  go_upto_region 11 with (go_at_call 13; refine (H12.out.tLook HT.out off_no p1 b HPN.out.2 HB.out).mono ?_; rw [HX3.out]; rintro e w13 ⟨rfl, hb⟩; have H13 := Lib.hid (H12.out.quiet hb); clear hb H12)
  clear e0 e1 e2 e3 e4 e5 e6 e7 e8 e9 e10 e11 e12 e13 e14 e15
  generalize hq9 : w13.alloc _ = w14
  have H14 := Lib.hid ((H13.out.new (b := w13.heap.size) rfl #[.int .u64 g.1, .int .i64 g.2.1, .bool g.2.2.1, .bool g.2.2.2.1, .bool g.2.2.2.2.1, .bool g.2.2.2.2.2] 37).world hq9)
  clear hq9 H13
  generalize w13.heap.size = b14 at *
  obtain ⟨e0, e1, e2, e3, e4, e5, e6, e7, e8, e9, e10, e11, e12, e13, e14, e15⟩ := (H14.out.at_ 5 rfl).c16
  go_upto_region 12 with (go_at_call 23; first | ((with_reducible refine (HPA1.out _).mono ?_); rintro e _ ⟨rfl, rfl⟩) | ((with_reducible refine (HPB1.out _).mono ?_); rintro e _ ⟨rfl, rfl⟩))
  obtain ⟨q0, q1, q2, q3, q4, q5⟩ := (H14.out.at_ 1 rfl).c6
  obtain ⟨r0, r1, r2, r3, r4, r5⟩ := (H14.out.at_ 4 rfl).c6
  go_quiet (first | (go_at_call 23; first | (with_reducible exact quietOf (HPAL.out _)) | (with_reducible exact quietOf (HPBL.out _))))
  generalize hw : w14.drewN _ = w15
  have H15 := Lib.hid ((H14.out.quiet (below_drewN (Below.refl _ _) _)).world hw)
  clear hw H14 q0 q1 q2 q3 q4 q5 r0 r1 r2 r3 r4 r5 e0 e1 e2 e3 e4 e5 e6 e7 e8 e9 e10 e11 e12 e13 e14 e15
  obtain ⟨q0, q1, q2, q3, q4, q5⟩ := (H15.out.at_ 0 rfl).c6
  obtain ⟨r0, r1, r2, r3, r4, r5⟩ := (H15.out.at_ 3 rfl).c6
  go_wp2
  go_ret
  exact ⟨rfl, H15.out.below0⟩
set_option maxRecDepth 100000 in
set_option maxHeartbeats 6400000 in
theorem tlbDrops_1s (A : Option Addr) (c : Nat) (ds : List Dt) (w : World) (ht : Tabs w) (hl : ds.length ≤ maxLen) (hd : DtsIn w A ds) (hok : DtsOk ds) (kd p pk a l0 l5 h0 h1 : Int) (l1 l2 l3 l4 h2 h3 h4 h5 : Bool) (b : Int) (hp : I64 p) (hk : I64 pk) (ha : W64 a) (hol : OkL (l0, l1, l2, l3, l4, l5)) (hb : W64 b) (x0 : Int) (x2 x3 x4 x5 : Bool) (ho : lookT (playD 5 ds (mostT ds)) p b = some (x0, 1, x2, x3, x4, x5)) (hpg : pageF a 1 = pageF b 1) :
    Calls Tryd.prog 6 #[.slice A ds.length c, .agg #[.int .i64 kd, .int .i64 p, .int .i64 pk, .int .u64 a, .int .u64 l0, .bool l1, .bool l2, .bool l3, .bool l4, .int .u8 l5, .int .u64 h0, .int .i64 h1, .bool h2, .bool h3, .bool h4, .bool h5], .int .u64 b] w fun e w' => e = .returned (.bool true) ∧ Below w.heap.size w w' := by
  have HT := Lib.hid ht
  have HL1 := Lib.hid hl
  have HD := Lib.hid hd
  have HOK := Lib.hid hok
  have HP := Lib.hid hp
  have HPK := Lib.hid hk
  have HA := Lib.hid ha
  have HOL := Lib.hid hol
  have HB := Lib.hid hb
  obtain ⟨L, hL⟩ : ∃ L, playD 5 ds (mostT ds) = L := ⟨_, rfl⟩
  rw [hL] at ho
  have HLL := Lib.hid hL
  clear hL
  obtain ⟨p1, hp1⟩ : ∃ p1, IntKind.i64.wrap (p + 1) = p1 := ⟨_, rfl⟩
  have HPN : Hid (p1 ≠ p ∧ I64 p1) := Lib.hid (hp1 ▸ pcid_next hp)
  obtain ⟨g, is, hx, _⟩ := ans_h (lookT L p1 b)
  have HX := Lib.hid hx
  have hq := eqlH g g
  rw [decide_eq_true rfl] at hq
  have HPA := Lib.hid fun l w1 => rpage_any a l w1 ha
  have HPB := Lib.hid fun l w1 => rpage_any b l w1 hb
  obtain ⟨pa, hpa⟩ : ∃ z, pageF a 1 = z := ⟨_, rfl⟩
  obtain ⟨pb, hpb⟩ : ∃ z, pageF b 1 = z := ⟨_, rfl⟩
  have HPA1 := Lib.hid (HPA.out 1)
  have HPB1 := Lib.hid (HPB.out 1)
  rw [hpa] at HPA1
  rw [hpb] at HPB1
  have HXW : Hid (ansT (lookT L p b) = .tuple #[.agg #[.int .u64 x0, .int .i64 1, .bool x2, .bool x3, .bool x4, .bool x5], .bool true]) := Lib.hid (by rw [ho]; rfl)
  have HPAL := HPA1
  have HPBL := HPB1
  have hap : (pa != pb) = false := by
    have hpg2 := hpg
    rw [hpa, hpb] at hpg2
    simp [hpg2]
  obtain ⟨g2, is2, hx2, _⟩ := ans_h (lookT (dropT 5 L p a) p b)
  have HX2 : Hid ((keysK L).Nodup → OkLs L → ansT (lookT (dropT 5 L p a) p b) = .tuple #[.agg #[.int .u64 g2.1, .int .i64 g2.2.1, .bool g2.2.2.1, .bool g2.2.2.2.1, .bool g2.2.2.2.2.1, .bool g2.2.2.2.2.2], .bool is2]) := Lib.hid fun _ _ => hx2
  clear hx2
  have H0 := Lib.hid ((Has.start0 w (fun _ => False)).new (b := w.heap.size) rfl #[.int .i64 kd, .int .i64 p, .int .i64 pk, .int .u64 a, .int .u64 l0, .bool l1, .bool l2, .bool l3, .bool l4, .int .u8 l5, .int .u64 h0, .int .i64 h1, .bool h2, .bool h3, .bool h4, .bool h5] 39)
  clear ht hl hd hok hp hk ha hol hb hx ho hpa hpb hpg
  go_enter Tryd.func6, Tryd.ntmps6
  go_upto_region 1 with fail
  generalize hw0 : w.alloc _ = v0
  have H1 := Lib.hid (H0.out.world hw0)
  clear hw0 H0
  generalize w.heap.size = bd at H1 ⊢
  go_upto_region 5 with (first | (go_at_call 9; refine (awake13_any _ (H1.out.tabs HT.out off_no)).mono ?_; rintro e w1 ⟨rfl, hb1⟩; have H2 := Lib.hid (H1.out.quiet hb1); clear hb1 H1) | (go_at_call 17; refine (run13_any A c ds _ (H2.out.tabs HT.out off_no) HL1.out (dts_below HD.out H2.out.below0) HOK.out).mono ?_; rw [HLL.out]; rintro e w3 ⟨q, rfl, G, hH⟩; have H3 : Hid (Has w w3 (fun _ => False) [⟨tlbT q 5 L, G⟩] [⟨bd, #[.int .i64 kd, .int .i64 p, .int .i64 pk, .int .u64 a, .int .u64 l0, .bool l1, .bool l2, .bool l3, .bool l4, .int .u8 l5, .int .u64 h0, .int .i64 h1, .bool h2, .bool h3, .bool h4, .bool h5], 39⟩] []) := Lib.hid (H2.out.join hH); clear hH H2))
  have HND := Lib.hid (H3.out.the 0 rfl).nodup
  have HKL := Lib.hid (H3.out.the 0 rfl).ok
  have HX2 := Lib.hid (HX2.out HND.out HKL.out)
  have HXS : Hid (ansT (lookT (dropT 5 L p a) p a) = .tuple #[.agg #[.int .u64 0, .int .i64 0, .bool false, .bool false, .bool false, .bool false], .bool false]) := Lib.hid (by rw [dropT_gone HND.out HKL.out]; rfl)
  have HX3 : Hid (ansT (lookT (dropT 5 L p a) p1 b) = .tuple #[.agg #[.int .u64 g.1, .int .i64 g.2.1, .bool g.2.2.1, .bool g.2.2.2.1, .bool g.2.2.2.2.1, .bool g.2.2.2.2.2], .bool is]) := Lib.hid (by rw [dropT_pcid HND.out HPN.out.1]; exact HX.out)
  obtain ⟨e0, e1, e2, e3, e4, e5, e6, e7, e8, e9, e10, e11, e12, e13, e14, e15⟩ := (H3.out.at_ 0 rfl).c16
  go_upto_region 6 with (go_at_call 13; refine (H3.out.tLook HT.out off_no p b HP.out HB.out).mono ?_; rw [HXW.out]; rintro e w4 ⟨rfl, hb⟩; have H4 := Lib.hid (H3.out.quiet hb); clear hb H3)
  clear e0 e1 e2 e3 e4 e5 e6 e7 e8 e9 e10 e11 e12 e13 e14 e15
  generalize hq9 : w4.alloc _ = w5
  have H5 := Lib.hid ((H4.out.new (b := w4.heap.size) rfl #[.int .u64 x0, .int .i64 1, .bool x2, .bool x3, .bool x4, .bool x5] 37).world hq9)
  clear hq9 H4
  generalize w4.heap.size = b5 at *
  obtain ⟨e0, e1, e2, e3, e4, e5, e6, e7, e8, e9, e10, e11, e12, e13, e14, e15⟩ := (H5.out.at_ 1 rfl).c16
  go_upto_region 7 with (go_at_call 13; refine (H5.out.tLook HT.out off_no p1 b HPN.out.2 HB.out).mono ?_; rw [HX.out]; rintro e w6 ⟨rfl, hb⟩; have H6 := Lib.hid (H5.out.quiet hb); clear hb H5)
  clear e0 e1 e2 e3 e4 e5 e6 e7 e8 e9 e10 e11 e12 e13 e14 e15
  generalize hq9 : w6.alloc _ = w7
  have H7 := Lib.hid ((H6.out.new (b := w6.heap.size) rfl #[.int .u64 g.1, .int .i64 g.2.1, .bool g.2.2.1, .bool g.2.2.2.1, .bool g.2.2.2.2.1, .bool g.2.2.2.2.2] 37).world hq9)
  clear hq9 H6
  generalize w6.heap.size = b7 at *
  obtain ⟨e0, e1, e2, e3, e4, e5, e6, e7, e8, e9, e10, e11, e12, e13, e14, e15⟩ := (H7.out.at_ 2 rfl).c16
  go_upto_region 8 with (go_at_call 22; refine (H7.out.tDrop HT.out off_no p a HP.out HA.out).mono ?_; rintro e w8 ⟨rfl, hE⟩; obtain ⟨G8, hE2⟩ := hE.out; have H8 := Lib.hid hE2; clear hE hE2 H7)
  clear e0 e1 e2 e3 e4 e5 e6 e7 e8 e9 e10 e11 e12 e13 e14 e15
  obtain ⟨e0, e1, e2, e3, e4, e5, e6, e7, e8, e9, e10, e11, e12, e13, e14, e15⟩ := (H8.out.at_ 2 rfl).c16
  go_upto_region 9 with (go_at_call 13; refine (H8.out.tLook HT.out off_no p a HP.out HA.out).mono ?_; rw [HXS.out]; rintro e w9 ⟨rfl, hb⟩; have H9 := Lib.hid (H8.out.quiet hb); clear hb H8)
  clear e0 e1 e2 e3 e4 e5 e6 e7 e8 e9 e10 e11 e12 e13 e14 e15
  generalize hq9 : w9.alloc _ = w10
  have H10 := Lib.hid ((H9.out.new (b := w9.heap.size) rfl #[.int .u64 0, .int .i64 0, .bool false, .bool false, .bool false, .bool false] 37).world hq9)
  clear hq9 H9
  generalize w9.heap.size = b10 at *
  obtain ⟨e0, e1, e2, e3, e4, e5, e6, e7, e8, e9, e10, e11, e12, e13, e14, e15⟩ := (H10.out.at_ 3 rfl).c16
  go_upto_region 10 with (go_at_call 13; refine (H10.out.tLook HT.out off_no p b HP.out HB.out).mono ?_; rw [HX2.out]; rintro e w11 ⟨rfl, hb⟩; have H11 := Lib.hid (H10.out.quiet hb); clear hb H10)
  clear e0 e1 e2 e3 e4 e5 e6 e7 e8 e9 e10 e11 e12 e13 e14 e15
  generalize hq9 : w11.alloc _ = w12
  have H12 := Lib.hid ((H11.out.new (b := w11.heap.size) rfl #[.int .u64 g2.1, .int .i64 g2.2.1, .bool g2.2.2.1, .bool g2.2.2.2.1, .bool g2.2.2.2.2.1, .bool g2.2.2.2.2.2] 37).world hq9)
  clear hq9 H11
  generalize w11.heap.size = b12 at *
  obtain ⟨e0, e1, e2, e3, e4, e5, e6, e7, e8, e9, e10, e11, e12, e13, e14, e15⟩ := (H12.out.at_ 4 rfl).c16
  go_upto_region 11 with (go_at_call 13; refine (H12.out.tLook HT.out off_no p1 b HPN.out.2 HB.out).mono ?_; rw [HX3.out]; rintro e w13 ⟨rfl, hb⟩; have H13 := Lib.hid (H12.out.quiet hb); clear hb H12)
  clear e0 e1 e2 e3 e4 e5 e6 e7 e8 e9 e10 e11 e12 e13 e14 e15
  generalize hq9 : w13.alloc _ = w14
  have H14 := Lib.hid ((H13.out.new (b := w13.heap.size) rfl #[.int .u64 g.1, .int .i64 g.2.1, .bool g.2.2.1, .bool g.2.2.2.1, .bool g.2.2.2.2.1, .bool g.2.2.2.2.2] 37).world hq9)
  clear hq9 H13
  generalize w13.heap.size = b14 at *
  obtain ⟨e0, e1, e2, e3, e4, e5, e6, e7, e8, e9, e10, e11, e12, e13, e14, e15⟩ := (H14.out.at_ 5 rfl).c16
  go_upto_region 12 with (go_at_call 23; first | ((with_reducible refine (HPA1.out _).mono ?_); rintro e _ ⟨rfl, rfl⟩) | ((with_reducible refine (HPB1.out _).mono ?_); rintro e _ ⟨rfl, rfl⟩))
  obtain ⟨q0, q1, q2, q3, q4, q5⟩ := (H14.out.at_ 1 rfl).c6
  obtain ⟨r0, r1, r2, r3, r4, r5⟩ := (H14.out.at_ 4 rfl).c6
  go_quiet (first | (go_at_call 23; first | (with_reducible exact quietOf (HPAL.out _)) | (with_reducible exact quietOf (HPBL.out _))))
  generalize hw : w14.drewN _ = w15
  have H15 := Lib.hid ((H14.out.quiet (below_drewN (Below.refl _ _) _)).world hw)
  clear hw H14 q0 q1 q2 q3 q4 q5 r0 r1 r2 r3 r4 r5 e0 e1 e2 e3 e4 e5 e6 e7 e8 e9 e10 e11 e12 e13 e14 e15
  obtain ⟨q0, q1, q2, q3, q4, q5⟩ := (H15.out.at_ 0 rfl).c6
  obtain ⟨r0, r1, r2, r3, r4, r5⟩ := (H15.out.at_ 3 rfl).c6
  go_wp2
  go_ret
  exact ⟨rfl, H15.out.below0⟩
end Go.Proofs.YtddbjbdhbeijjaaDoor
/- The walk of TlbDrops. (Laid by tools/gen_l13.py.) -/
namespace Go.Proofs.YtddbjbdhbeijjaaDoor
set_option linter.unusedVariables false
set_option linter.unusedSimpArgs false
open Go.ChangeShapes Go.WideShapes Go.ChangeAt Go.RowKit Go.Joins

set_option maxRecDepth 100000 in
set_option maxHeartbeats 6400000 in
theorem tlbDrops_2a (A : Option Addr) (c : Nat) (ds : List Dt) (w : World) (ht : Tabs w) (hl : ds.length ≤ maxLen) (hd : DtsIn w A ds) (hok : DtsOk ds) (kd p pk a l0 l5 h0 h1 : Int) (l1 l2 l3 l4 h2 h3 h4 h5 : Bool) (b : Int) (hp : I64 p) (hk : I64 pk) (ha : W64 a) (hol : OkL (l0, l1, l2, l3, l4, l5)) (hb : W64 b) (x0 : Int) (x2 x3 x4 x5 : Bool) (ho : lookT (playD 5 ds (mostT ds)) p b = some (x0, 2, x2, x3, x4, x5)) (hpg : pageF a 2 ≠ pageF b 2) :
    Calls Tryd.prog 6 #[.slice A ds.length c, .agg #[.int .i64 kd, .int .i64 p, .int .i64 pk, .int .u64 a, .int .u64 l0, .bool l1, .bool l2, .bool l3, .bool l4, .int .u8 l5, .int .u64 h0, .int .i64 h1, .bool h2, .bool h3, .bool h4, .bool h5], .int .u64 b] w fun e w' => e = .returned (.bool true) ∧ Below w.heap.size w w' := by
  have HT := Lib.hid ht
  have HL1 := Lib.hid hl
  have HD := Lib.hid hd
  have HOK := Lib.hid hok
  have HP := Lib.hid hp
  have HPK := Lib.hid hk
  have HA := Lib.hid ha
  have HOL := Lib.hid hol
  have HB := Lib.hid hb
  obtain ⟨L, hL⟩ : ∃ L, playD 5 ds (mostT ds) = L := ⟨_, rfl⟩
  rw [hL] at ho
  have HLL := Lib.hid hL
  clear hL
  obtain ⟨p1, hp1⟩ : ∃ p1, IntKind.i64.wrap (p + 1) = p1 := ⟨_, rfl⟩
  have HPN : Hid (p1 ≠ p ∧ I64 p1) := Lib.hid (hp1 ▸ pcid_next hp)
  obtain ⟨g, is, hx, _⟩ := ans_h (lookT L p1 b)
  have HX := Lib.hid hx
  have hq := eqlH g g
  rw [decide_eq_true rfl] at hq
  have HPA := Lib.hid fun l w1 => rpage_any a l w1 ha
  have HPB := Lib.hid fun l w1 => rpage_any b l w1 hb
  obtain ⟨pa, hpa⟩ : ∃ z, pageF a 1 = z := ⟨_, rfl⟩
  obtain ⟨pb, hpb⟩ : ∃ z, pageF b 1 = z := ⟨_, rfl⟩
  have HPA1 := Lib.hid (HPA.out 1)
  have HPB1 := Lib.hid (HPB.out 1)
  rw [hpa] at HPA1
  rw [hpb] at HPB1
  have HXW : Hid (ansT (lookT L p b) = .tuple #[.agg #[.int .u64 x0, .int .i64 2, .bool x2, .bool x3, .bool x4, .bool x5], .bool true]) := Lib.hid (by rw [ho]; rfl)
  obtain ⟨qa, hqa⟩ : ∃ z, pageF a 2 = z := ⟨_, rfl⟩
  obtain ⟨qb, hqb⟩ : ∃ z, pageF b 2 = z := ⟨_, rfl⟩
  have HPAL := Lib.hid (HPA.out 2)
  have HPBL := Lib.hid (HPB.out 2)
  rw [hqa] at HPAL
  rw [hqb] at HPBL
  have hap : (qa != qb) = true := by
    have hpg2 := hpg
    rw [hqa, hqb] at hpg2
    simp [hpg2]
  have HX2 : Hid ((keysK L).Nodup → OkLs L → ansT (lookT (dropT 5 L p a) p b) = .tuple #[.agg #[.int .u64 x0, .int .i64 2, .bool x2, .bool x3, .bool x4, .bool x5], .bool true]) := Lib.hid fun h1 h2 => by rw [dropT_stays h1 h2 (R := 5) ho hpg]; rfl
  have hqn := neqH (x0, 2, x2, x3, x4, x5)
  have H0 := Lib.hid ((Has.start0 w (fun _ => False)).new (b := w.heap.size) rfl #[.int .i64 kd, .int .i64 p, .int .i64 pk, .int .u64 a, .int .u64 l0, .bool l1, .bool l2, .bool l3, .bool l4, .int .u8 l5, .int .u64 h0, .int .i64 h1, .bool h2, .bool h3, .bool h4, .bool h5] 39)
  clear ht hl hd hok hp hk ha hol hb hx ho hpa hpb hqa hqb hpg
  go_enter Tryd.func6, Tryd.ntmps6
  go_upto_region 1 with fail
  generalize hw0 : w.alloc _ = v0
  have H1 := Lib.hid (H0.out.world hw0)
  clear hw0 H0
  generalize w.heap.size = bd at H1 ⊢
  go_upto_region 5 with (first | (go_at_call 9; refine (awake13_any _ (H1.out.tabs HT.out off_no)).mono ?_; rintro e w1 ⟨rfl, hb1⟩; have H2 := Lib.hid (H1.out.quiet hb1); clear hb1 H1) | (go_at_call 17; refine (run13_any A c ds _ (H2.out.tabs HT.out off_no) HL1.out (dts_below HD.out H2.out.below0) HOK.out).mono ?_; rw [HLL.out]; rintro e w3 ⟨q, rfl, G, hH⟩; have H3 : Hid (Has w w3 (fun _ => False) [⟨tlbT q 5 L, G⟩] [⟨bd, #[.int .i64 kd, .int .i64 p, .int .i64 pk, .int .u64 a, .int .u64 l0, .bool l1, .bool l2, .bool l3, .bool l4, .int .u8 l5, .int .u64 h0, .int .i64 h1, .bool h2, .bool h3, .bool h4, .bool h5], 39⟩] []) := Lib.hid (H2.out.join hH); clear hH H2))
  have HND := Lib.hid (H3.out.the 0 rfl).nodup
  have HKL := Lib.hid (H3.out.the 0 rfl).ok
  have HX2 := Lib.hid (HX2.out HND.out HKL.out)
  have HXS : Hid (ansT (lookT (dropT 5 L p a) p a) = .tuple #[.agg #[.int .u64 0, .int .i64 0, .bool false, .bool false, .bool false, .bool false], .bool false]) := Lib.hid (by rw [dropT_gone HND.out HKL.out]; rfl)
  have HX3 : Hid (ansT (lookT (dropT 5 L p a) p1 b) = .tuple #[.agg #[.int .u64 g.1, .int .i64 g.2.1, .bool g.2.2.1, .bool g.2.2.2.1, .bool g.2.2.2.2.1, .bool g.2.2.2.2.2], .bool is]) := Lib.hid (by rw [dropT_pcid HND.out HPN.out.1]; exact HX.out)
  obtain ⟨e0, e1, e2, e3, e4, e5, e6, e7, e8, e9, e10, e11, e12, e13, e14, e15⟩ := (H3.out.at_ 0 rfl).c16
  go_upto_region 6 with (go_at_call 13; refine (H3.out.tLook HT.out off_no p b HP.out HB.out).mono ?_; rw [HXW.out]; rintro e w4 ⟨rfl, hb⟩; have H4 := Lib.hid (H3.out.quiet hb); clear hb H3)
  clear e0 e1 e2 e3 e4 e5 e6 e7 e8 e9 e10 e11 e12 e13 e14 e15
  generalize hq9 : w4.alloc _ = w5
  have H5 := Lib.hid ((H4.out.new (b := w4.heap.size) rfl #[.int .u64 x0, .int .i64 2, .bool x2, .bool x3, .bool x4, .bool x5] 37).world hq9)
  clear hq9 H4
  generalize w4.heap.size = b5 at *
  obtain ⟨e0, e1, e2, e3, e4, e5, e6, e7, e8, e9, e10, e11, e12, e13, e14, e15⟩ := (H5.out.at_ 1 rfl).c16
  go_upto_region 7 with (go_at_call 13; refine (H5.out.tLook HT.out off_no p1 b HPN.out.2 HB.out).mono ?_; rw [HX.out]; rintro e w6 ⟨rfl, hb⟩; have H6 := Lib.hid (H5.out.quiet hb); clear hb H5)
  clear e0 e1 e2 e3 e4 e5 e6 e7 e8 e9 e10 e11 e12 e13 e14 e15
  generalize hq9 : w6.alloc _ = w7
  have H7 := Lib.hid ((H6.out.new (b := w6.heap.size) rfl #[.int .u64 g.1, .int .i64 g.2.1, .bool g.2.2.1, .bool g.2.2.2.1, .bool g.2.2.2.2.1, .bool g.2.2.2.2.2] 37).world hq9)
  clear hq9 H6
  generalize w6.heap.size = b7 at *
  obtain ⟨e0, e1, e2, e3, e4, e5, e6, e7, e8, e9, e10, e11, e12, e13, e14, e15⟩ := (H7.out.at_ 2 rfl).c16
  go_upto_region 8 with (go_at_call 22; refine (H7.out.tDrop HT.out off_no p a HP.out HA.out).mono ?_; rintro e w8 ⟨rfl, hE⟩; obtain ⟨G8, hE2⟩ := hE.out; have H8 := Lib.hid hE2; clear hE hE2 H7)
  clear e0 e1 e2 e3 e4 e5 e6 e7 e8 e9 e10 e11 e12 e13 e14 e15
  obtain ⟨e0, e1, e2, e3, e4, e5, e6, e7, e8, e9, e10, e11, e12, e13, e14, e15⟩ := (H8.out.at_ 2 rfl).c16
  go_upto_region 9 with (go_at_call 13; refine (H8.out.tLook HT.out off_no p a HP.out HA.out).mono ?_; rw [HXS.out]; rintro e w9 ⟨rfl, hb⟩; have H9 := Lib.hid (H8.out.quiet hb); clear hb H8)
  clear e0 e1 e2 e3 e4 e5 e6 e7 e8 e9 e10 e11 e12 e13 e14 e15
  generalize hq9 : w9.alloc _ = w10
  have H10 := Lib.hid ((H9.out.new (b := w9.heap.size) rfl #[.int .u64 0, .int .i64 0, .bool false, .bool false, .bool false, .bool false] 37).world hq9)
  clear hq9 H9
  generalize w9.heap.size = b10 at *
  obtain ⟨e0, e1, e2, e3, e4, e5, e6, e7, e8, e9, e10, e11, e12, e13, e14, e15⟩ := (H10.out.at_ 3 rfl).c16
  go_upto_region 10 with (go_at_call 13; refine (H10.out.tLook HT.out off_no p b HP.out HB.out).mono ?_; rw [HX2.out]; rintro e w11 ⟨rfl, hb⟩; have H11 := Lib.hid (H10.out.quiet hb); clear hb H10)
  clear e0 e1 e2 e3 e4 e5 e6 e7 e8 e9 e10 e11 e12 e13 e14 e15
  generalize hq9 : w11.alloc _ = w12
  have H12 := Lib.hid ((H11.out.new (b := w11.heap.size) rfl #[.int .u64 x0, .int .i64 2, .bool x2, .bool x3, .bool x4, .bool x5] 37).world hq9)
  clear hq9 H11
  generalize w11.heap.size = b12 at *
  obtain ⟨e0, e1, e2, e3, e4, e5, e6, e7, e8, e9, e10, e11, e12, e13, e14, e15⟩ := (H12.out.at_ 4 rfl).c16
  go_upto_region 11 with (go_at_call 13; refine (H12.out.tLook HT.out off_no p1 b HPN.out.2 HB.out).mono ?_; rw [HX3.out]; rintro e w13 ⟨rfl, hb⟩; have H13 := Lib.hid (H12.out.quiet hb); clear hb H12)
  clear e0 e1 e2 e3 e4 e5 e6 e7 e8 e9 e10 e11 e12 e13 e14 e15
  generalize hq9 : w13.alloc _ = w14
  have H14 := Lib.hid ((H13.out.new (b := w13.heap.size) rfl #[.int .u64 g.1, .int .i64 g.2.1, .bool g.2.2.1, .bool g.2.2.2.1, .bool g.2.2.2.2.1, .bool g.2.2.2.2.2] 37).world hq9)
  clear hq9 H13
  generalize w13.heap.size = b14 at *
  obtain ⟨e0, e1, e2, e3, e4, e5, e6, e7, e8, e9, e10, e11, e12, e13, e14, e15⟩ := (H14.out.at_ 5 rfl).c16
  go_upto_region 12 with (go_at_call 23; first | ((with_reducible refine (HPA1.out _).mono ?_); rintro e _ ⟨rfl, rfl⟩) | ((with_reducible refine (HPB1.out _).mono ?_); rintro e _ ⟨rfl, rfl⟩))
  obtain ⟨q0, q1, q2, q3, q4, q5⟩ := (H14.out.at_ 1 rfl).c6
  obtain ⟨r0, r1, r2, r3, r4, r5⟩ := (H14.out.at_ 4 rfl).c6
  go_quiet (first | (go_at_call 23; first | (with_reducible exact quietOf (HPAL.out _)) | (with_reducible exact quietOf (HPBL.out _))))
  generalize hw : w14.drewN _ = w15
  have H15 := Lib.hid ((H14.out.quiet (below_drewN (Below.refl _ _) _)).world hw)
  clear hw H14 q0 q1 q2 q3 q4 q5 r0 r1 r2 r3 r4 r5 e0 e1 e2 e3 e4 e5 e6 e7 e8 e9 e10 e11 e12 e13 e14 e15
  obtain ⟨q0, q1, q2, q3, q4, q5⟩ := (H15.out.at_ 0 rfl).c6
  obtain ⟨r0, r1, r2, r3, r4, r5⟩ := (H15.out.at_ 3 rfl).c6
  go_wp2
  go_ret
  exact ⟨rfl, H15.out.below0⟩
set_option maxRecDepth 100000 in
set_option maxHeartbeats 6400000 in
theorem tlbDrops_2s (A : Option Addr) (c : Nat) (ds : List Dt) (w : World) (ht : Tabs w) (hl : ds.length ≤ maxLen) (hd : DtsIn w A ds) (hok : DtsOk ds) (kd p pk a l0 l5 h0 h1 : Int) (l1 l2 l3 l4 h2 h3 h4 h5 : Bool) (b : Int) (hp : I64 p) (hk : I64 pk) (ha : W64 a) (hol : OkL (l0, l1, l2, l3, l4, l5)) (hb : W64 b) (x0 : Int) (x2 x3 x4 x5 : Bool) (ho : lookT (playD 5 ds (mostT ds)) p b = some (x0, 2, x2, x3, x4, x5)) (hpg : pageF a 2 = pageF b 2) :
    Calls Tryd.prog 6 #[.slice A ds.length c, .agg #[.int .i64 kd, .int .i64 p, .int .i64 pk, .int .u64 a, .int .u64 l0, .bool l1, .bool l2, .bool l3, .bool l4, .int .u8 l5, .int .u64 h0, .int .i64 h1, .bool h2, .bool h3, .bool h4, .bool h5], .int .u64 b] w fun e w' => e = .returned (.bool true) ∧ Below w.heap.size w w' := by
  have HT := Lib.hid ht
  have HL1 := Lib.hid hl
  have HD := Lib.hid hd
  have HOK := Lib.hid hok
  have HP := Lib.hid hp
  have HPK := Lib.hid hk
  have HA := Lib.hid ha
  have HOL := Lib.hid hol
  have HB := Lib.hid hb
  obtain ⟨L, hL⟩ : ∃ L, playD 5 ds (mostT ds) = L := ⟨_, rfl⟩
  rw [hL] at ho
  have HLL := Lib.hid hL
  clear hL
  obtain ⟨p1, hp1⟩ : ∃ p1, IntKind.i64.wrap (p + 1) = p1 := ⟨_, rfl⟩
  have HPN : Hid (p1 ≠ p ∧ I64 p1) := Lib.hid (hp1 ▸ pcid_next hp)
  obtain ⟨g, is, hx, _⟩ := ans_h (lookT L p1 b)
  have HX := Lib.hid hx
  have hq := eqlH g g
  rw [decide_eq_true rfl] at hq
  have HPA := Lib.hid fun l w1 => rpage_any a l w1 ha
  have HPB := Lib.hid fun l w1 => rpage_any b l w1 hb
  obtain ⟨pa, hpa⟩ : ∃ z, pageF a 1 = z := ⟨_, rfl⟩
  obtain ⟨pb, hpb⟩ : ∃ z, pageF b 1 = z := ⟨_, rfl⟩
  have HPA1 := Lib.hid (HPA.out 1)
  have HPB1 := Lib.hid (HPB.out 1)
  rw [hpa] at HPA1
  rw [hpb] at HPB1
  have HXW : Hid (ansT (lookT L p b) = .tuple #[.agg #[.int .u64 x0, .int .i64 2, .bool x2, .bool x3, .bool x4, .bool x5], .bool true]) := Lib.hid (by rw [ho]; rfl)
  obtain ⟨qa, hqa⟩ : ∃ z, pageF a 2 = z := ⟨_, rfl⟩
  obtain ⟨qb, hqb⟩ : ∃ z, pageF b 2 = z := ⟨_, rfl⟩
  have HPAL := Lib.hid (HPA.out 2)
  have HPBL := Lib.hid (HPB.out 2)
  rw [hqa] at HPAL
  rw [hqb] at HPBL
  have hap : (qa != qb) = false := by
    have hpg2 := hpg
    rw [hqa, hqb] at hpg2
    simp [hpg2]
  obtain ⟨g2, is2, hx2, _⟩ := ans_h (lookT (dropT 5 L p a) p b)
  have HX2 : Hid ((keysK L).Nodup → OkLs L → ansT (lookT (dropT 5 L p a) p b) = .tuple #[.agg #[.int .u64 g2.1, .int .i64 g2.2.1, .bool g2.2.2.1, .bool g2.2.2.2.1, .bool g2.2.2.2.2.1, .bool g2.2.2.2.2.2], .bool is2]) := Lib.hid fun _ _ => hx2
  clear hx2
  have H0 := Lib.hid ((Has.start0 w (fun _ => False)).new (b := w.heap.size) rfl #[.int .i64 kd, .int .i64 p, .int .i64 pk, .int .u64 a, .int .u64 l0, .bool l1, .bool l2, .bool l3, .bool l4, .int .u8 l5, .int .u64 h0, .int .i64 h1, .bool h2, .bool h3, .bool h4, .bool h5] 39)
  clear ht hl hd hok hp hk ha hol hb hx ho hpa hpb hqa hqb hpg
  go_enter Tryd.func6, Tryd.ntmps6
  go_upto_region 1 with fail
  generalize hw0 : w.alloc _ = v0
  have H1 := Lib.hid (H0.out.world hw0)
  clear hw0 H0
  generalize w.heap.size = bd at H1 ⊢
  go_upto_region 5 with (first | (go_at_call 9; refine (awake13_any _ (H1.out.tabs HT.out off_no)).mono ?_; rintro e w1 ⟨rfl, hb1⟩; have H2 := Lib.hid (H1.out.quiet hb1); clear hb1 H1) | (go_at_call 17; refine (run13_any A c ds _ (H2.out.tabs HT.out off_no) HL1.out (dts_below HD.out H2.out.below0) HOK.out).mono ?_; rw [HLL.out]; rintro e w3 ⟨q, rfl, G, hH⟩; have H3 : Hid (Has w w3 (fun _ => False) [⟨tlbT q 5 L, G⟩] [⟨bd, #[.int .i64 kd, .int .i64 p, .int .i64 pk, .int .u64 a, .int .u64 l0, .bool l1, .bool l2, .bool l3, .bool l4, .int .u8 l5, .int .u64 h0, .int .i64 h1, .bool h2, .bool h3, .bool h4, .bool h5], 39⟩] []) := Lib.hid (H2.out.join hH); clear hH H2))
  have HND := Lib.hid (H3.out.the 0 rfl).nodup
  have HKL := Lib.hid (H3.out.the 0 rfl).ok
  have HX2 := Lib.hid (HX2.out HND.out HKL.out)
  have HXS : Hid (ansT (lookT (dropT 5 L p a) p a) = .tuple #[.agg #[.int .u64 0, .int .i64 0, .bool false, .bool false, .bool false, .bool false], .bool false]) := Lib.hid (by rw [dropT_gone HND.out HKL.out]; rfl)
  have HX3 : Hid (ansT (lookT (dropT 5 L p a) p1 b) = .tuple #[.agg #[.int .u64 g.1, .int .i64 g.2.1, .bool g.2.2.1, .bool g.2.2.2.1, .bool g.2.2.2.2.1, .bool g.2.2.2.2.2], .bool is]) := Lib.hid (by rw [dropT_pcid HND.out HPN.out.1]; exact HX.out)
  obtain ⟨e0, e1, e2, e3, e4, e5, e6, e7, e8, e9, e10, e11, e12, e13, e14, e15⟩ := (H3.out.at_ 0 rfl).c16
  go_upto_region 6 with (go_at_call 13; refine (H3.out.tLook HT.out off_no p b HP.out HB.out).mono ?_; rw [HXW.out]; rintro e w4 ⟨rfl, hb⟩; have H4 := Lib.hid (H3.out.quiet hb); clear hb H3)
  clear e0 e1 e2 e3 e4 e5 e6 e7 e8 e9 e10 e11 e12 e13 e14 e15
  generalize hq9 : w4.alloc _ = w5
  have H5 := Lib.hid ((H4.out.new (b := w4.heap.size) rfl #[.int .u64 x0, .int .i64 2, .bool x2, .bool x3, .bool x4, .bool x5] 37).world hq9)
  clear hq9 H4
  generalize w4.heap.size = b5 at *
  obtain ⟨e0, e1, e2, e3, e4, e5, e6, e7, e8, e9, e10, e11, e12, e13, e14, e15⟩ := (H5.out.at_ 1 rfl).c16
  go_upto_region 7 with (go_at_call 13; refine (H5.out.tLook HT.out off_no p1 b HPN.out.2 HB.out).mono ?_; rw [HX.out]; rintro e w6 ⟨rfl, hb⟩; have H6 := Lib.hid (H5.out.quiet hb); clear hb H5)
  clear e0 e1 e2 e3 e4 e5 e6 e7 e8 e9 e10 e11 e12 e13 e14 e15
  generalize hq9 : w6.alloc _ = w7
  have H7 := Lib.hid ((H6.out.new (b := w6.heap.size) rfl #[.int .u64 g.1, .int .i64 g.2.1, .bool g.2.2.1, .bool g.2.2.2.1, .bool g.2.2.2.2.1, .bool g.2.2.2.2.2] 37).world hq9)
  clear hq9 H6
  generalize w6.heap.size = b7 at *
  obtain ⟨e0, e1, e2, e3, e4, e5, e6, e7, e8, e9, e10, e11, e12, e13, e14, e15⟩ := (H7.out.at_ 2 rfl).c16
  go_upto_region 8 with (go_at_call 22; refine (H7.out.tDrop HT.out off_no p a HP.out HA.out).mono ?_; rintro e w8 ⟨rfl, hE⟩; obtain ⟨G8, hE2⟩ := hE.out; have H8 := Lib.hid hE2; clear hE hE2 H7)
  clear e0 e1 e2 e3 e4 e5 e6 e7 e8 e9 e10 e11 e12 e13 e14 e15
  obtain ⟨e0, e1, e2, e3, e4, e5, e6, e7, e8, e9, e10, e11, e12, e13, e14, e15⟩ := (H8.out.at_ 2 rfl).c16
  go_upto_region 9 with (go_at_call 13; refine (H8.out.tLook HT.out off_no p a HP.out HA.out).mono ?_; rw [HXS.out]; rintro e w9 ⟨rfl, hb⟩; have H9 := Lib.hid (H8.out.quiet hb); clear hb H8)
  clear e0 e1 e2 e3 e4 e5 e6 e7 e8 e9 e10 e11 e12 e13 e14 e15
  generalize hq9 : w9.alloc _ = w10
  have H10 := Lib.hid ((H9.out.new (b := w9.heap.size) rfl #[.int .u64 0, .int .i64 0, .bool false, .bool false, .bool false, .bool false] 37).world hq9)
  clear hq9 H9
  generalize w9.heap.size = b10 at *
  obtain ⟨e0, e1, e2, e3, e4, e5, e6, e7, e8, e9, e10, e11, e12, e13, e14, e15⟩ := (H10.out.at_ 3 rfl).c16
  go_upto_region 10 with (go_at_call 13; refine (H10.out.tLook HT.out off_no p b HP.out HB.out).mono ?_; rw [HX2.out]; rintro e w11 ⟨rfl, hb⟩; have H11 := Lib.hid (H10.out.quiet hb); clear hb H10)
  clear e0 e1 e2 e3 e4 e5 e6 e7 e8 e9 e10 e11 e12 e13 e14 e15
  generalize hq9 : w11.alloc _ = w12
  have H12 := Lib.hid ((H11.out.new (b := w11.heap.size) rfl #[.int .u64 g2.1, .int .i64 g2.2.1, .bool g2.2.2.1, .bool g2.2.2.2.1, .bool g2.2.2.2.2.1, .bool g2.2.2.2.2.2] 37).world hq9)
  clear hq9 H11
  generalize w11.heap.size = b12 at *
  obtain ⟨e0, e1, e2, e3, e4, e5, e6, e7, e8, e9, e10, e11, e12, e13, e14, e15⟩ := (H12.out.at_ 4 rfl).c16
  go_upto_region 11 with (go_at_call 13; refine (H12.out.tLook HT.out off_no p1 b HPN.out.2 HB.out).mono ?_; rw [HX3.out]; rintro e w13 ⟨rfl, hb⟩; have H13 := Lib.hid (H12.out.quiet hb); clear hb H12)
  clear e0 e1 e2 e3 e4 e5 e6 e7 e8 e9 e10 e11 e12 e13 e14 e15
  generalize hq9 : w13.alloc _ = w14
  have H14 := Lib.hid ((H13.out.new (b := w13.heap.size) rfl #[.int .u64 g.1, .int .i64 g.2.1, .bool g.2.2.1, .bool g.2.2.2.1, .bool g.2.2.2.2.1, .bool g.2.2.2.2.2] 37).world hq9)
  clear hq9 H13
  generalize w13.heap.size = b14 at *
  obtain ⟨e0, e1, e2, e3, e4, e5, e6, e7, e8, e9, e10, e11, e12, e13, e14, e15⟩ := (H14.out.at_ 5 rfl).c16
  go_upto_region 12 with (go_at_call 23; first | ((with_reducible refine (HPA1.out _).mono ?_); rintro e _ ⟨rfl, rfl⟩) | ((with_reducible refine (HPB1.out _).mono ?_); rintro e _ ⟨rfl, rfl⟩))
  obtain ⟨q0, q1, q2, q3, q4, q5⟩ := (H14.out.at_ 1 rfl).c6
  obtain ⟨r0, r1, r2, r3, r4, r5⟩ := (H14.out.at_ 4 rfl).c6
  go_quiet (first | (go_at_call 23; first | (with_reducible exact quietOf (HPAL.out _)) | (with_reducible exact quietOf (HPBL.out _))))
  generalize hw : w14.drewN _ = w15
  have H15 := Lib.hid ((H14.out.quiet (below_drewN (Below.refl _ _) _)).world hw)
  clear hw H14 q0 q1 q2 q3 q4 q5 r0 r1 r2 r3 r4 r5 e0 e1 e2 e3 e4 e5 e6 e7 e8 e9 e10 e11 e12 e13 e14 e15
  obtain ⟨q0, q1, q2, q3, q4, q5⟩ := (H15.out.at_ 0 rfl).c6
  obtain ⟨r0, r1, r2, r3, r4, r5⟩ := (H15.out.at_ 3 rfl).c6
  go_wp2
  go_ret
  exact ⟨rfl, H15.out.below0⟩
end Go.Proofs.YtddbjbdhbeijjaaDoor
