/- Several texts of ours in one: L11p, Oq, Op. -/
import Derived.Test.YtiihhlmddmicjaaDoorGJmJnJu
import Derived.Test.YtiihhlmddmicjaaDoorGJtJqJl
import Derived.Test.YtiihhlmddmicjaaDoorGHeHfHg
import Derived.Test.YtiihhlmddmicjaaDoorGVaVrFr
import Derived.Deep.Slices
import Derived.Deep.Strs
import Derived.Deep.FieldsWide
import Derived.Test.YtiihhlmddmicjaaDoorGHqHsJg
import Derived.Test.YtiihhlmddmicjaaDoorGVmRN
import Derived.SizedLaws
/- The walk of PscPlays. (Laid by tools/gen_l11p.py.) -/
namespace Go.Proofs.YtiihhlmddmicjaaDoor
set_option linter.unusedVariables false
set_option linter.unusedSimpArgs false
open Go.ChangeShapes Go.WideShapes Go.ChangeAt Go.RowKit Go.Joins

set_option maxRecDepth 100000 in
set_option maxHeartbeats 12800000 in
theorem pscPlays_walk (z : Int) (A : Option Addr) (c : Nat) (ds : List De) (w : World) (hs : Shifts w) (hl : ds.length ≤ maxLen) (hd : DesIn w A ds) (hok : DesOk w ds) :
    Calls Tryd.prog 3 #[.int .i64 z, .slice A ds.length c] w fun e w' => e = .returned (.bool true) ∧ Below w.heap.size w w' := by
  unfold maxLen at hl
  have HS := Lib.hid hs
  have HD := Lib.hid hd
  have HOK := Lib.hid hok
  obtain ⟨R, hR⟩ : ∃ R, roomF z = R := ⟨_, rfl⟩
  have HRR := Lib.hid hR
  have HR64 : Hid (R ≤ 64) := Lib.hid (hR ▸ roomF_le z)
  have hm : mostD ds ≤ 80 ∧ mostD ds ≤ ds.length ∧ (mostD ds = 80 ∨ mostD ds = ds.length) := by unfold mostD; omega
  obtain ⟨mn, hmn⟩ : ∃ m, mostD ds = m := ⟨_, rfl⟩
  rw [hmn] at hm
  obtain ⟨hm0, hm1, hm2⟩ := hm
  have HM2 := Lib.hid hm2
  clear hs hd hok hR hm2 hmn
  go_enter Tryd.func3, Tryd.ntmps3
  go_upto_region 6 with (first | (go_at_call 9; refine (awake11_any _ HS.out).mono ?_; rintro e w1 ⟨rfl, hb1⟩; have H1 := Lib.hid ((Has.start0 w (fun _ => False)).quiet hb1); clear hb1) | (go_at_call 10; refine (newP_any z _).mono ?_; rw [HRR.out]; rintro e w2 ⟨q, Gp, rfl, hH⟩; have H2 := Lib.hid (H1.out.join hH); clear hH H1) | (go_at_call 11; refine (rnewX_any z _).mono ?_; rw [HRR.out]; rintro e w3 ⟨rfl, hb⟩; have H3 := Lib.hid (H2.out.quiet hb); clear hb H2))
  generalize hq : w3.alloc _ = w4
  have H4 : Hid (Has w w4 (fun _ => False) [⟨pscT q R noL, Gp⟩] [⟨w3.heap.size, #[(.slice none 0 0), .int .i64 (R : Int), (.slice none 0 0), .int .i64 (R : Int), (.slice none 0 0), .int .i64 (R : Int)], 31⟩] [rowP (.slice none 0 0) (noL 0), rowP (.slice none 0 0) (noL 1), rowP (.slice none 0 0) (noL 2)]) := Lib.hid (((((H3.out.got (PairsOwn.nil _ 0) (by simp [Value.ownBlock])).got (PairsOwn.nil _ 0) (by simp [Value.ownBlock])).got (PairsOwn.nil _ 0) (by simp [Value.ownBlock])).new (b := w3.heap.size) rfl #[(.slice none 0 0), .int .i64 (R : Int), (.slice none 0 0), .int .i64 (R : Int), (.slice none 0 0), .int .i64 (R : Int)] 31).world hq)
  clear hq H3
  generalize w3.heap.size = bx at *
  go_wp2
  go_loopw [8] (fun i wr => ∃ (k : Nat) (G : Nat → Prop) (A0 : Option Addr) (n0 c0 : Nat) (A1 : Option Addr) (n1 c1 : Nat) (A2 : Option Addr) (n2 c2 : Nat), k ≤ mn ∧ i = .int .i64 k ∧ Hid (Has w wr (fun _ => False) [⟨pscT q R (playP R ds k), G⟩] [⟨bx, #[(.slice A0 n0 c0), .int .i64 (R : Int), (.slice A1 n1 c1), .int .i64 (R : Int), (.slice A2 n2 c2), .int .i64 (R : Int)], 31⟩] [rowP (.slice A0 n0 c0) (playP R ds k 0), rowP (.slice A1 n1 c1) (playP R ds k 1), rowP (.slice A2 n2 c2) (playP R ds k 2)])) (fun i _ => (80 - intOf i).toNat)
  case atStart => exact ⟨0, _, none, 0, 0, none, 0, 0, none, 0, 0, by omega, rfl, H4⟩
  case round =>
    obtain ⟨k, G, A0, n0, c0, A1, n1, c1, A2, n2, c2, hk, rfl, HL⟩ := hrel
    clear H4
    by_cases hlt : k < mn
    · have hlt2 := hlt
      have hks : k < ds.length := by omega
      have h80 : (k : Int) < 80 := by omega
      obtain ⟨ad, hAd, hde⟩ := HD.out k hks
      subst hAd
      have hok := HOK.out k hks
      have HNX : Hid (playP R ds (k + 1) = doY R (playP R ds k) (ds.getD k zDe)) := Lib.hid rfl
      generalize playP R ds k = L at *
      generalize ds.getD k zDe = y at *
      obtain ⟨kd, p, lv, a, A9, n9, c9, T, why, W1, U1, X1, lw, fr, lev, t, W, U, X, k0, k1, k2⟩ := y
      have HDE : Hid (DeC w (ad.add (k * 19)) kd p lv a A9 n9 c9 why W1 U1 X1 lw fr lev t W U X k0 k1 k2) := Lib.hid hde
      have HDp : Hid (I64 p) := Lib.hid hok.p
      have HDa : Hid (W64 a) := Lib.hid hok.a
      have HDn : Hid (T.length = n9) := Lib.hid hok.n
      have HDz : Hid (n9 * 24 ≤ 140737488355328) := Lib.hid hok.z
      have HDs : Hid (StepsIn w (.slice A9 n9 c9) T) := Lib.hid hok.s
      have HDw : Hid (∀ k, k < T.length → W64 (stepAt T k).2.2) := Lib.hid hok.w
      have HD0 : Hid (I64 k0) := Lib.hid hok.k0
      have HD1 : Hid (I64 k1) := Lib.hid hok.k1
      have HD2 : Hid (I64 k2) := Lib.hid hok.k2
      clear hde hok
      obtain ⟨L2, hL2⟩ : ∃ L2, doL R L kd p lv a T W U X k0 k1 k2 = L2 := ⟨_, rfl⟩
      have HL2 := Lib.hid hL2
      have HNX2 : Hid (playP R ds (k + 1) = L2) := Lib.hid (HNX.out.trans hL2)
      clear HNX hL2
      obtain ⟨o, ho⟩ : ∃ o, deepK L2 p a = o := ⟨_, rfl⟩
      have HO := Lib.hid ho
      obtain ⟨⟨l1, t1, V1, V2, V3, is1⟩, hV1⟩ : ∃ z, deepZ o = z := ⟨_, rfl⟩
      have HV1 := Lib.hid hV1
      clear ho hV1
      have hq := neqPlaceR l1 t1 V1 V2 V3
      go_upto_region 9 with fail
      have H5 := Lib.hid (HL.out.quiet (Kept.drew0 wr))
      clear HL
      refine wp_region_held_drew (S := fun w' => Below w.heap.size w w') (by kernel_rfl) H5.out.below0 (fun hHeld => ?_)
      generalize wr.drew = w5 at *
      refine tk (v := ?_) 0 ?_ ?_
      rotate_left
      · intro w hSw
        go_simp
        (try with_reducible rfl)
      (try simp only [Act.put, List.setIfInBounds_toArray, List.set_cons_zero, List.set_cons_succ])
      refine tk (v := ?_) 2 ?_ ?_
      rotate_left
      · intro w hSw
        go_simp
        (try with_reducible rfl)
      (try simp only [Act.put, List.setIfInBounds_toArray, List.set_cons_zero, List.set_cons_succ])
      refine tk (v := ?_) 3 ?_ ?_
      rotate_left
      · intro w hSw
        go_simp
        (try with_reducible rfl)
      (try simp only [Act.put, List.setIfInBounds_toArray, List.set_cons_zero, List.set_cons_succ])
      refine tk (v := ?_) 4 ?_ ?_
      rotate_left
      · intro w hSw
        go_simp
        (try with_reducible rfl)
      (try simp only [Act.put, List.setIfInBounds_toArray, List.set_cons_zero, List.set_cons_succ])
      refine tk (v := .agg #[.int .i64 kd, .int .i64 p, .int .i64 lv, .int .u64 a, .slice A9 n9 c9, .int .i64 why, .bool W1, .bool U1, .bool X1, .int .i64 lw, .int .u64 fr, .int .i64 lev, .int .u64 t, .bool W, .bool U, .bool X, .int .i64 k0, .int .i64 k1, .int .i64 k2]) 5 ?_ ?_
      · intro w hSw
        exact exec_load rfl rfl (HDE.out.below hSw).load
      (try simp only [Act.put, List.setIfInBounds_toArray, List.set_cons_zero, List.set_cons_succ])
      refine wpAnyH_ready (rs := [1]) (by kernel_rfl) (by simp) ?_
      refine anyH_one rfl (fun K hK => ?_) ?_
      · obtain ⟨a0, a1, a2, a3, a4, a5⟩ := (H5.out.at_ 0 rfl).c6
        go_simp
        clear a0 a1 a2 a3 a4 a5
        refine hK.out _ _ (hHeld) (fun hHeld => ?_)
        clear hK K
        (try simp only [Act.put, List.setIfInBounds_toArray, List.set_cons_zero, List.set_cons_succ])
        refine wpAnyH_ready (rs := [6]) (by kernel_rfl) (by simp) ?_
        refine anyH_one rfl (fun K hK => ?_) ?_
        · go_simp
          refine (do11_any (H5.out.the 0 rfl) HR64.out (H5.out.shifts HS.out (fun h => h)) (H5.out.no0 HS.out (fun h => h) 0 rfl) (.slice A0 n0 c0) (.slice A1 n1 c1) (.slice A2 n2 c2) H5.out.doc (fun i hi hg => H5.out.off 0 rfl i hi ⟨_, List.mem_cons_self .., hg⟩) (fun i hi hg => H5.out.off 1 rfl i hi ⟨_, List.mem_cons_self .., hg⟩) (fun i hi hg => H5.out.off 2 rfl i hi ⟨_, List.mem_cons_self .., hg⟩) kd p lv a HDp.out HDa.out A9 n9 c9 T why W1 U1 X1 lw fr HDn.out HDz.out (HDs.out.below H5.out.below0) (steps_off HDs.out (H5.out.late 0 rfl)) HDw.out lev t W U X k0 k1 k2 HD0.out HD1.out HD2.out).mono ?_
          rw [HL2.out]
          rintro e w6 ⟨u0, u1, u2, rfl, G2, hH⟩
          obtain ⟨Z0, z0, y0, rfl⟩ := (show PairsOwn w6 0 u0 (L2 0) from hH.of_ 0 rfl).slice
          obtain ⟨Z1, z1, y1, rfl⟩ := (show PairsOwn w6 0 u1 (L2 1) from hH.of_ 1 rfl).slice
          obtain ⟨Z2, z2, y2, rfl⟩ := (show PairsOwn w6 0 u2 (L2 2) from hH.of_ 2 rfl).slice
          have H6 := Lib.hid (H5.out.does hH)
          clear hH H5
          refine hK.out _ _ (H6.out.below0) (fun hHeld => ?_)
          clear hK K
          (try simp only [Act.put, List.setIfInBounds_toArray, List.set_cons_zero, List.set_cons_succ])
          refine wpAnyH_ready (rs := [7]) (by kernel_rfl) (by simp) ?_
          refine anyH_one rfl (fun K hK => ?_) ?_
          · obtain ⟨a0, a1, a2, a3, a4, a5⟩ := (H6.out.at_ 0 rfl).c6
            have g0 := (H6.out.at_ 0 rfl).fz 0; have g1 := (H6.out.at_ 0 rfl).fz 1; have g2 := (H6.out.at_ 0 rfl).fz 2; have g3 := (H6.out.at_ 0 rfl).fz 3; have g4 := (H6.out.at_ 0 rfl).fz 4; have g5 := (H6.out.at_ 0 rfl).fz 5
            go_simp
            generalize hq9 : (((((w6.setCell _ _).setCell _ _).setCell _ _).setCell _ _).setCell _ _).setCell _ _ = w7
            have H7 := Lib.hid ((H6.out.put 0 rfl (turnB6 _ _ _ _ _ _ _ _) (setB6 (H6.out.at_ 0 rfl) _ _ _ _ _ _)).world hq9)
            clear hq9 H6 a0 a1 a2 a3 a4 a5 g0 g1 g2 g3 g4 g5
            refine hK.out _ _ (H7.out.below0) (fun hHeld => ?_)
            clear hK K
            (try simp only [Act.put, List.setIfInBounds_toArray, List.set_cons_zero, List.set_cons_succ])
            refine wpAnyH_done (by kernel_rfl) ?_ _
            clear hHeld
            go_upto_region 10 with fail
            have H8 := Lib.hid (H7.out.quiet (Kept.drew0 w7))
            clear H7
            refine wp_region_held_drew (S := (fun w' => Below w.heap.size w w')) (by kernel_rfl) H8.out.below0 (fun hHeld => ?_)
            generalize w7.drew = w8 at *
            refine tk (v := ?_) 0 ?_ ?_
            rotate_left
            · intro w hSw
              go_simp
              (try with_reducible rfl)
            (try simp only [Act.put, List.setIfInBounds_toArray, List.set_cons_zero, List.set_cons_succ])
            refine tk (v := ?_) 1 ?_ ?_
            rotate_left
            · intro w hSw
              go_simp
              (try with_reducible rfl)
            (try simp only [Act.put, List.setIfInBounds_toArray, List.set_cons_zero, List.set_cons_succ])
            refine tk (v := ?_) 2 ?_ ?_
            rotate_left
            · intro w hSw
              go_simp
              (try with_reducible rfl)
            (try simp only [Act.put, List.setIfInBounds_toArray, List.set_cons_zero, List.set_cons_succ])
            refine tk (v := ?_) 3 ?_ ?_
            rotate_left
            · intro w hSw
              go_simp
              (try with_reducible rfl)
            (try simp only [Act.put, List.setIfInBounds_toArray, List.set_cons_zero, List.set_cons_succ])
            refine tk (v := ?_) 4 ?_ ?_
            rotate_left
            · intro w hSw
              go_simp
              (try with_reducible rfl)
            (try simp only [Act.put, List.setIfInBounds_toArray, List.set_cons_zero, List.set_cons_succ])
            refine tk (v := ?_) 5 ?_ ?_
            rotate_left
            · intro w hSw
              obtain ⟨e0, e1, e2, e3, e4, e5, e6, e7, e8, e9, e10, e11, e12, e13, e14, e15, e16, e17, e18⟩ := HDE.out.below hSw
              go_simp
              (try with_reducible rfl)
            (try simp only [Act.put, List.setIfInBounds_toArray, List.set_cons_zero, List.set_cons_succ])
            refine tk (v := ?_) 6 ?_ ?_
            rotate_left
            · intro w hSw
              go_simp
              (try with_reducible rfl)
            (try simp only [Act.put, List.setIfInBounds_toArray, List.set_cons_zero, List.set_cons_succ])
            refine tk (v := ?_) 7 ?_ ?_
            rotate_left
            · intro w hSw
              go_simp
              (try with_reducible rfl)
            (try simp only [Act.put, List.setIfInBounds_toArray, List.set_cons_zero, List.set_cons_succ])
            refine tk (v := ?_) 8 ?_ ?_
            rotate_left
            · intro w hSw
              go_simp
              (try with_reducible rfl)
            (try simp only [Act.put, List.setIfInBounds_toArray, List.set_cons_zero, List.set_cons_succ])
            refine tk (v := ?_) 9 ?_ ?_
            rotate_left
            · intro w hSw
              go_simp
              (try with_reducible rfl)
            (try simp only [Act.put, List.setIfInBounds_toArray, List.set_cons_zero, List.set_cons_succ])
            refine tk (v := ?_) 10 ?_ ?_
            rotate_left
            · intro w hSw
              obtain ⟨e0, e1, e2, e3, e4, e5, e6, e7, e8, e9, e10, e11, e12, e13, e14, e15, e16, e17, e18⟩ := HDE.out.below hSw
              go_simp
              (try with_reducible rfl)
            (try simp only [Act.put, List.setIfInBounds_toArray, List.set_cons_zero, List.set_cons_succ])
            refine wpAnyH_ready (rs := [11, 15]) (by kernel_rfl) (by simp) ?_
            refine anyH_one rfl (fun K hK => ?_) ?_
            · go_simp
              refine (deepP_any (H8.out.the 0 rfl) (H8.out.shifts HS.out (fun h => h)) p a HDp.out HDa.out).mono ?_
              rw [HO.out, deepV_z HV1.out]
              rintro e w9 ⟨rfl, hb⟩
              have H9 := Lib.hid (H8.out.quiet hb)
              clear hb H8
              refine hK.out _ _ (H9.out.below0) (fun hHeld => ?_)
              clear hK K
              (try simp only [Act.put, List.setIfInBounds_toArray, List.set_cons_zero, List.set_cons_succ])
              refine tk (v := ?_) 12 ?_ ?_
              rotate_left
              · intro w hSw
                go_simp
                (try with_reducible rfl)
              (try simp only [Act.put, List.setIfInBounds_toArray, List.set_cons_zero, List.set_cons_succ])
              refine tk (v := ?_) 13 ?_ ?_
              rotate_left
              · intro w hSw
                go_simp
                (try with_reducible rfl)
              (try simp only [Act.put, List.setIfInBounds_toArray, List.set_cons_zero, List.set_cons_succ])
              refine tk (v := ?_) 14 ?_ ?_
              rotate_left
              · intro w hSw
                go_simp
                (try with_reducible rfl)
              (try simp only [Act.put, List.setIfInBounds_toArray, List.set_cons_zero, List.set_cons_succ])
              refine wpAnyH_ready (rs := [15]) (by kernel_rfl) (by simp) ?_
              refine anyH_one rfl (fun K hK => ?_) ?_
              · go_simp
                generalize hq9 : w9.alloc _ = w10
                have H10 := Lib.hid ((H9.out.new (b := w9.heap.size) rfl _ _).world hq9)
                clear hq9 H9
                generalize w9.heap.size = b9 at H10 ⊢
                refine hK.out _ _ (H10.out.below0) (fun hHeld => ?_)
                clear hK K
                (try simp only [Act.put, List.setIfInBounds_toArray, List.set_cons_zero, List.set_cons_succ])
                refine wpAnyH_ready (rs := [16]) (by kernel_rfl) (by simp) ?_
                refine anyH_one rfl (fun K hK => ?_) ?_
                · obtain ⟨r0, r1, r2, r3, r4⟩ := (H10.out.at_ 0 rfl).five
                  have g0 := (H10.out.at_ 0 rfl).fz 0; have g1 := (H10.out.at_ 0 rfl).fz 1; have g2 := (H10.out.at_ 0 rfl).fz 2; have g3 := (H10.out.at_ 0 rfl).fz 3; have g4 := (H10.out.at_ 0 rfl).fz 4
                  go_simp
                  generalize hq9 : ((((w10.setCell _ _).setCell _ _).setCell _ _).setCell _ _).setCell _ _ = w11
                  have H11 := Lib.hid ((H10.out.put 0 rfl (turnB5 _ _ _ _ _ _ _) (setB5 (H10.out.at_ 0 rfl) _ _ _ _ _)).world hq9)
                  clear hq9 H10 r0 r1 r2 r3 r4 g0 g1 g2 g3 g4
                  refine hK.out _ _ (H11.out.below0) (fun hHeld => ?_)
                  clear hK K
                  (try simp only [Act.put, List.setIfInBounds_toArray, List.set_cons_zero, List.set_cons_succ])
                  refine tk (v := ?_) 17 ?_ ?_
                  rotate_left
                  · intro w hSw
                    go_simp
                    (try with_reducible rfl)
                  (try simp only [Act.put, List.setIfInBounds_toArray, List.set_cons_zero, List.set_cons_succ])
                  refine wpAnyH_done (by kernel_rfl) ?_ _
                  clear hHeld
                  go_upto_region 11 with fail
                  have H12 := Lib.hid (H11.out.quiet (Kept.drew0 w11))
                  clear H11
                  refine wp_region_held_drew (S := (fun w' => Below w.heap.size w w' ∧ Blk w' bx #[(.slice Z0 z0 y0), .int .i64 (R : Int), (.slice Z1 z1 y1), .int .i64 (R : Int), (.slice Z2 z2 y2), .int .i64 (R : Int)] 31)) (by kernel_rfl) ⟨H12.out.below0, H12.out.at_ 1 rfl⟩ (fun hHeld => ?_)
                  generalize w11.drew = w12 at *
                  refine tk (v := ?_) 0 ?_ ?_
                  rotate_left
                  · intro w hSw
                    obtain ⟨a0, a1, a2, a3, a4, a5⟩ := hSw.2.c6
                    go_simp
                    (try with_reducible rfl)
                  (try simp only [Act.put, List.setIfInBounds_toArray, List.set_cons_zero, List.set_cons_succ])
                  refine tk (v := ?_) 1 ?_ ?_
                  rotate_left
                  · intro w hSw
                    go_simp
                    (try with_reducible rfl)
                  (try simp only [Act.put, List.setIfInBounds_toArray, List.set_cons_zero, List.set_cons_succ])
                  refine tk (v := ?_) 2 ?_ ?_
                  rotate_left
                  · intro w hSw
                    go_simp
                    (try with_reducible rfl)
                  (try simp only [Act.put, List.setIfInBounds_toArray, List.set_cons_zero, List.set_cons_succ])
                  refine tk (v := ?_) 3 ?_ ?_
                  rotate_left
                  · intro w hSw
                    go_simp
                    (try with_reducible rfl)
                  (try simp only [Act.put, List.setIfInBounds_toArray, List.set_cons_zero, List.set_cons_succ])
                  refine tk (v := ?_) 4 ?_ ?_
                  rotate_left
                  · intro w hSw
                    go_simp
                    (try with_reducible rfl)
                  (try simp only [Act.put, List.setIfInBounds_toArray, List.set_cons_zero, List.set_cons_succ])
                  refine tk (v := ?_) 5 ?_ ?_
                  rotate_left
                  · intro w hSw
                    obtain ⟨e0, e1, e2, e3, e4, e5, e6, e7, e8, e9, e10, e11, e12, e13, e14, e15, e16, e17, e18⟩ := HDE.out.below hSw.1
                    go_simp
                    (try with_reducible rfl)
                  (try simp only [Act.put, List.setIfInBounds_toArray, List.set_cons_zero, List.set_cons_succ])
                  refine tk (v := ?_) 6 ?_ ?_
                  rotate_left
                  · intro w hSw
                    go_simp
                    (try with_reducible rfl)
                  (try simp only [Act.put, List.setIfInBounds_toArray, List.set_cons_zero, List.set_cons_succ])
                  refine tk (v := ?_) 7 ?_ ?_
                  rotate_left
                  · intro w hSw
                    go_simp
                    (try with_reducible rfl)
                  (try simp only [Act.put, List.setIfInBounds_toArray, List.set_cons_zero, List.set_cons_succ])
                  refine tk (v := ?_) 8 ?_ ?_
                  rotate_left
                  · intro w hSw
                    go_simp
                    (try with_reducible rfl)
                  (try simp only [Act.put, List.setIfInBounds_toArray, List.set_cons_zero, List.set_cons_succ])
                  refine tk (v := ?_) 9 ?_ ?_
                  rotate_left
                  · intro w hSw
                    go_simp
                    (try with_reducible rfl)
                  (try simp only [Act.put, List.setIfInBounds_toArray, List.set_cons_zero, List.set_cons_succ])
                  refine tk (v := ?_) 10 ?_ ?_
                  rotate_left
                  · intro w hSw
                    obtain ⟨e0, e1, e2, e3, e4, e5, e6, e7, e8, e9, e10, e11, e12, e13, e14, e15, e16, e17, e18⟩ := HDE.out.below hSw.1
                    go_simp
                    (try with_reducible rfl)
                  (try simp only [Act.put, List.setIfInBounds_toArray, List.set_cons_zero, List.set_cons_succ])
                  refine wpAnyH_ready (rs := [11, 15]) (by kernel_rfl) (by simp) ?_
                  refine anyH_one rfl (fun K hK => ?_) ?_
                  · go_simp
                    refine (rdeepX_any _ _ _ _ L2 R H12.out.doc (fun k hk => Nat.le_trans ((H12.out.the 0 rfl).len hk).1 HR64.out) p a HDa.out).mono ?_
                    rw [HO.out, deepV_z HV1.out]
                    rintro e w13 ⟨rfl, hb⟩
                    have H13 := Lib.hid (H12.out.quiet hb)
                    clear hb H12
                    refine hK.out _ _ (⟨H13.out.below0, H13.out.at_ 1 rfl⟩) (fun hHeld => ?_)
                    clear hK K
                    (try simp only [Act.put, List.setIfInBounds_toArray, List.set_cons_zero, List.set_cons_succ])
                    refine tk (v := ?_) 12 ?_ ?_
                    rotate_left
                    · intro w hSw
                      go_simp
                      (try with_reducible rfl)
                    (try simp only [Act.put, List.setIfInBounds_toArray, List.set_cons_zero, List.set_cons_succ])
                    refine tk (v := ?_) 13 ?_ ?_
                    rotate_left
                    · intro w hSw
                      go_simp
                      (try with_reducible rfl)
                    (try simp only [Act.put, List.setIfInBounds_toArray, List.set_cons_zero, List.set_cons_succ])
                    refine tk (v := ?_) 14 ?_ ?_
                    rotate_left
                    · intro w hSw
                      go_simp
                      (try with_reducible rfl)
                    (try simp only [Act.put, List.setIfInBounds_toArray, List.set_cons_zero, List.set_cons_succ])
                    refine wpAnyH_ready (rs := [15]) (by kernel_rfl) (by simp) ?_
                    refine anyH_one rfl (fun K hK => ?_) ?_
                    · go_simp
                      generalize hq9 : w13.alloc _ = w14
                      have H14 := Lib.hid ((H13.out.new (b := w13.heap.size) rfl _ _).world hq9)
                      clear hq9 H13
                      generalize w13.heap.size = b11 at H14 ⊢
                      refine hK.out _ _ (⟨H14.out.below0, H14.out.at_ 2 rfl⟩) (fun hHeld => ?_)
                      clear hK K
                      (try simp only [Act.put, List.setIfInBounds_toArray, List.set_cons_zero, List.set_cons_succ])
                      refine wpAnyH_ready (rs := [16]) (by kernel_rfl) (by simp) ?_
                      refine anyH_one rfl (fun K hK => ?_) ?_
                      · obtain ⟨r0, r1, r2, r3, r4⟩ := (H14.out.at_ 0 rfl).five
                        have g0 := (H14.out.at_ 0 rfl).fz 0; have g1 := (H14.out.at_ 0 rfl).fz 1; have g2 := (H14.out.at_ 0 rfl).fz 2; have g3 := (H14.out.at_ 0 rfl).fz 3; have g4 := (H14.out.at_ 0 rfl).fz 4
                        go_simp
                        generalize hq9 : ((((w14.setCell _ _).setCell _ _).setCell _ _).setCell _ _).setCell _ _ = w15
                        have H15 := Lib.hid ((H14.out.put 0 rfl (turnB5 _ _ _ _ _ _ _) (setB5 (H14.out.at_ 0 rfl) _ _ _ _ _)).world hq9)
                        clear hq9 H14 r0 r1 r2 r3 r4 g0 g1 g2 g3 g4
                        refine hK.out _ _ (⟨H15.out.below0, H15.out.at_ 2 rfl⟩) (fun hHeld => ?_)
                        clear hK K
                        (try simp only [Act.put, List.setIfInBounds_toArray, List.set_cons_zero, List.set_cons_succ])
                        refine tk (v := ?_) 17 ?_ ?_
                        rotate_left
                        · intro w hSw
                          go_simp
                          (try with_reducible rfl)
                        (try simp only [Act.put, List.setIfInBounds_toArray, List.set_cons_zero, List.set_cons_succ])
                        refine wpAnyH_done (by kernel_rfl) ?_ _
                        clear hHeld
                        go_upto_region 12 with fail
                        have HLN4 : Hid (lenF L2 4 = (z0 : Int)) := Lib.hid (by rw [own_len3 (H15.out.of_ 0 rfl)]; rfl)
                        have HLN3 : Hid (lenF L2 3 = (z1 : Int)) := Lib.hid (by rw [own_len3 (H15.out.of_ 1 rfl)]; rfl)
                        have HLN2 : Hid (lenF L2 2 = (z2 : Int)) := Lib.hid (by rw [own_len3 (H15.out.of_ 2 rfl)]; rfl)
                        have H16 := Lib.hid (H15.out.quiet (Kept.drew0 w15))
                        clear H15
                        refine wp_region_held_drew (S := (fun w' => Blk w' b9 #[.int .i64 l1, .int .u64 t1, .bool V1, .bool V2, .bool V3] 41 ∧ Blk w' b11 #[.int .i64 l1, .int .u64 t1, .bool V1, .bool V2, .bool V3] 49 ∧ Blk w' bx #[(.slice Z0 z0 y0), .int .i64 (R : Int), (.slice Z1 z1 y1), .int .i64 (R : Int), (.slice Z2 z2 y2), .int .i64 (R : Int)] 31)) (by kernel_rfl) ⟨H16.out.at_ 1 rfl, H16.out.at_ 0 rfl, H16.out.at_ 2 rfl⟩ (fun hHeld => ?_)
                        generalize w15.drew = w16 at *
                        refine tk (v := ?_) 0 ?_ ?_
                        rotate_left
                        · intro w hSw
                          obtain ⟨s0, s1, s2, s3, s4⟩ := hSw.1.five
                          go_simp
                          (try with_reducible rfl)
                        (try simp only [Act.put, List.setIfInBounds_toArray, List.set_cons_zero, List.set_cons_succ])
                        refine tk (v := ?_) 2 ?_ ?_
                        rotate_left
                        · intro w hSw
                          obtain ⟨s0, s1, s2, s3, s4⟩ := hSw.2.1.five
                          go_simp
                          (try with_reducible rfl)
                        (try simp only [Act.put, List.setIfInBounds_toArray, List.set_cons_zero, List.set_cons_succ])
                        refine wpAnyH_ready (rs := [1]) (by kernel_rfl) (by simp) ?_
                        refine anyH_one rfl (fun K hK => ?_) ?_
                        · go_simp
                          refine (place11_any l1 t1 V1 V2 V3 _).mono ?_
                          rintro e w17 ⟨rfl, hb⟩
                          have H17 := Lib.hid (H16.out.quiet hb)
                          clear hb H16
                          refine hK.out _ _ (⟨H17.out.at_ 1 rfl, H17.out.at_ 0 rfl, H17.out.at_ 2 rfl⟩) (fun hHeld => ?_)
                          clear hK K
                          (try simp only [Act.put, List.setIfInBounds_toArray, List.set_cons_zero, List.set_cons_succ])
                          refine tk (v := ?_) 3 ?_ ?_
                          rotate_left
                          · intro w hSw
                            go_simp
                            (try with_reducible rfl)
                          (try simp only [Act.put, List.setIfInBounds_toArray, List.set_cons_zero, List.set_cons_succ])
                          refine tk (v := ?_) 4 ?_ ?_
                          rotate_left
                          · intro w hSw
                            go_simp
                            (try with_reducible rfl)
                          (try simp only [Act.put, List.setIfInBounds_toArray, List.set_cons_zero, List.set_cons_succ])
                          refine tk (v := ?_) 5 ?_ ?_
                          rotate_left
                          · intro w hSw
                            go_simp
                            (try with_reducible rfl)
                          (try simp only [Act.put, List.setIfInBounds_toArray, List.set_cons_zero, List.set_cons_succ])
                          refine tk (v := ?_) 6 ?_ ?_
                          rotate_left
                          · intro w hSw
                            go_simp
                            (try with_reducible rfl)
                          (try simp only [Act.put, List.setIfInBounds_toArray, List.set_cons_zero, List.set_cons_succ])
                          refine tk (v := ?_) 7 ?_ ?_
                          rotate_left
                          · intro w hSw
                            go_simp
                            (try with_reducible rfl)
                          (try simp only [Act.put, List.setIfInBounds_toArray, List.set_cons_zero, List.set_cons_succ])
                          refine tk (v := ?_) 8 ?_ ?_
                          rotate_left
                          · intro w hSw
                            go_simp
                            (try with_reducible rfl)
                          (try simp only [Act.put, List.setIfInBounds_toArray, List.set_cons_zero, List.set_cons_succ])
                          refine tk (v := ?_) 9 ?_ ?_
                          rotate_left
                          · intro w hSw
                            go_simp
                            (try with_reducible rfl)
                          (try simp only [Act.put, List.setIfInBounds_toArray, List.set_cons_zero, List.set_cons_succ])
                          refine tk (v := ?_) 10 ?_ ?_
                          rotate_left
                          · intro w hSw
                            go_simp
                            (try with_reducible rfl)
                          (try simp only [Act.put, List.setIfInBounds_toArray, List.set_cons_zero, List.set_cons_succ])
                          refine tk (v := ?_) 12 ?_ ?_
                          rotate_left
                          · intro w hSw
                            go_simp
                            (try with_reducible rfl)
                          (try simp only [Act.put, List.setIfInBounds_toArray, List.set_cons_zero, List.set_cons_succ])
                          refine tk (v := ?_) 13 ?_ ?_
                          rotate_left
                          · intro w hSw
                            go_simp
                            (try with_reducible rfl)
                          (try simp only [Act.put, List.setIfInBounds_toArray, List.set_cons_zero, List.set_cons_succ])
                          refine tk (v := ?_) 14 ?_ ?_
                          rotate_left
                          · intro w hSw
                            go_simp
                            (try with_reducible rfl)
                          (try simp only [Act.put, List.setIfInBounds_toArray, List.set_cons_zero, List.set_cons_succ])
                          refine tk (v := ?_) 15 ?_ ?_
                          rotate_left
                          · intro w hSw
                            obtain ⟨a0, a1, a2, a3, a4, a5⟩ := hSw.2.2.c6
                            go_simp
                            (try with_reducible rfl)
                          (try simp only [Act.put, List.setIfInBounds_toArray, List.set_cons_zero, List.set_cons_succ])
                          refine tk (v := ?_) 16 ?_ ?_
                          rotate_left
                          · intro w hSw
                            go_simp
                            (try with_reducible rfl)
                          (try simp only [Act.put, List.setIfInBounds_toArray, List.set_cons_zero, List.set_cons_succ])
                          refine wpAnyH_ready (rs := [11]) (by kernel_rfl) (by simp) ?_
                          refine anyH_one rfl (fun K hK => ?_) ?_
                          · go_simp
                            refine (lenP_any (H17.out.the 0 rfl) 4).mono ?_
                            rw [HLN4.out]
                            rintro e w18 ⟨rfl, hb⟩
                            have H18 := Lib.hid (H17.out.quiet hb)
                            clear hb H17
                            refine hK.out _ _ (⟨H18.out.at_ 1 rfl, H18.out.at_ 0 rfl, H18.out.at_ 2 rfl⟩) (fun hHeld => ?_)
                            clear hK K
                            (try simp only [Act.put, List.setIfInBounds_toArray, List.set_cons_zero, List.set_cons_succ])
                            refine tk (v := ?_) 17 ?_ ?_
                            rotate_left
                            · intro w hSw
                              go_simp
                              (try with_reducible rfl)
                            (try simp only [Act.put, List.setIfInBounds_toArray, List.set_cons_zero, List.set_cons_succ])
                            refine tk (v := ?_) 18 ?_ ?_
                            rotate_left
                            · intro w hSw
                              go_simp
                              (try with_reducible rfl)
                            (try simp only [Act.put, List.setIfInBounds_toArray, List.set_cons_zero, List.set_cons_succ])
                            refine tk (v := ?_) 19 ?_ ?_
                            rotate_left
                            · intro w hSw
                              go_simp
                              (try with_reducible rfl)
                            (try simp only [Act.put, List.setIfInBounds_toArray, List.set_cons_zero, List.set_cons_succ])
                            refine tk (v := ?_) 20 ?_ ?_
                            rotate_left
                            · intro w hSw
                              go_simp
                              (try with_reducible rfl)
                            (try simp only [Act.put, List.setIfInBounds_toArray, List.set_cons_zero, List.set_cons_succ])
                            refine tk (v := ?_) 22 ?_ ?_
                            rotate_left
                            · intro w hSw
                              go_simp
                              (try with_reducible rfl)
                            (try simp only [Act.put, List.setIfInBounds_toArray, List.set_cons_zero, List.set_cons_succ])
                            refine tk (v := ?_) 23 ?_ ?_
                            rotate_left
                            · intro w hSw
                              go_simp
                              (try with_reducible rfl)
                            (try simp only [Act.put, List.setIfInBounds_toArray, List.set_cons_zero, List.set_cons_succ])
                            refine tk (v := ?_) 24 ?_ ?_
                            rotate_left
                            · intro w hSw
                              go_simp
                              (try with_reducible rfl)
                            (try simp only [Act.put, List.setIfInBounds_toArray, List.set_cons_zero, List.set_cons_succ])
                            refine tk (v := ?_) 25 ?_ ?_
                            rotate_left
                            · intro w hSw
                              obtain ⟨a0, a1, a2, a3, a4, a5⟩ := hSw.2.2.c6
                              go_simp
                              (try with_reducible rfl)
                            (try simp only [Act.put, List.setIfInBounds_toArray, List.set_cons_zero, List.set_cons_succ])
                            refine tk (v := ?_) 26 ?_ ?_
                            rotate_left
                            · intro w hSw
                              go_simp
                              (try with_reducible rfl)
                            (try simp only [Act.put, List.setIfInBounds_toArray, List.set_cons_zero, List.set_cons_succ])
                            refine wpAnyH_ready (rs := [21]) (by kernel_rfl) (by simp) ?_
                            refine anyH_one rfl (fun K hK => ?_) ?_
                            · go_simp
                              refine (lenP_any (H18.out.the 0 rfl) 3).mono ?_
                              rw [HLN3.out]
                              rintro e w19 ⟨rfl, hb⟩
                              have H19 := Lib.hid (H18.out.quiet hb)
                              clear hb H18
                              refine hK.out _ _ (⟨H19.out.at_ 1 rfl, H19.out.at_ 0 rfl, H19.out.at_ 2 rfl⟩) (fun hHeld => ?_)
                              clear hK K
                              (try simp only [Act.put, List.setIfInBounds_toArray, List.set_cons_zero, List.set_cons_succ])
                              refine tk (v := ?_) 27 ?_ ?_
                              rotate_left
                              · intro w hSw
                                go_simp
                                (try with_reducible rfl)
                              (try simp only [Act.put, List.setIfInBounds_toArray, List.set_cons_zero, List.set_cons_succ])
                              refine tk (v := ?_) 28 ?_ ?_
                              rotate_left
                              · intro w hSw
                                go_simp
                                (try with_reducible rfl)
                              (try simp only [Act.put, List.setIfInBounds_toArray, List.set_cons_zero, List.set_cons_succ])
                              refine tk (v := ?_) 29 ?_ ?_
                              rotate_left
                              · intro w hSw
                                go_simp
                                (try with_reducible rfl)
                              (try simp only [Act.put, List.setIfInBounds_toArray, List.set_cons_zero, List.set_cons_succ])
                              refine tk (v := ?_) 30 ?_ ?_
                              rotate_left
                              · intro w hSw
                                go_simp
                                (try with_reducible rfl)
                              (try simp only [Act.put, List.setIfInBounds_toArray, List.set_cons_zero, List.set_cons_succ])
                              refine tk (v := ?_) 32 ?_ ?_
                              rotate_left
                              · intro w hSw
                                go_simp
                                (try with_reducible rfl)
                              (try simp only [Act.put, List.setIfInBounds_toArray, List.set_cons_zero, List.set_cons_succ])
                              refine tk (v := ?_) 33 ?_ ?_
                              rotate_left
                              · intro w hSw
                                go_simp
                                (try with_reducible rfl)
                              (try simp only [Act.put, List.setIfInBounds_toArray, List.set_cons_zero, List.set_cons_succ])
                              refine tk (v := ?_) 34 ?_ ?_
                              rotate_left
                              · intro w hSw
                                go_simp
                                (try with_reducible rfl)
                              (try simp only [Act.put, List.setIfInBounds_toArray, List.set_cons_zero, List.set_cons_succ])
                              refine tk (v := ?_) 35 ?_ ?_
                              rotate_left
                              · intro w hSw
                                obtain ⟨a0, a1, a2, a3, a4, a5⟩ := hSw.2.2.c6
                                go_simp
                                (try with_reducible rfl)
                              (try simp only [Act.put, List.setIfInBounds_toArray, List.set_cons_zero, List.set_cons_succ])
                              refine tk (v := ?_) 36 ?_ ?_
                              rotate_left
                              · intro w hSw
                                go_simp
                                (try with_reducible rfl)
                              (try simp only [Act.put, List.setIfInBounds_toArray, List.set_cons_zero, List.set_cons_succ])
                              refine wpAnyH_ready (rs := [31]) (by kernel_rfl) (by simp) ?_
                              refine anyH_one rfl (fun K hK => ?_) ?_
                              · go_simp
                                refine (lenP_any (H19.out.the 0 rfl) 2).mono ?_
                                rw [HLN2.out]
                                rintro e w20 ⟨rfl, hb⟩
                                have H20 := Lib.hid (H19.out.quiet hb)
                                clear hb H19
                                refine hK.out _ _ (⟨H20.out.at_ 1 rfl, H20.out.at_ 0 rfl, H20.out.at_ 2 rfl⟩) (fun hHeld => ?_)
                                clear hK K
                                (try simp only [Act.put, List.setIfInBounds_toArray, List.set_cons_zero, List.set_cons_succ])
                                refine tk (v := ?_) 37 ?_ ?_
                                rotate_left
                                · intro w hSw
                                  go_simp
                                  (try with_reducible rfl)
                                (try simp only [Act.put, List.setIfInBounds_toArray, List.set_cons_zero, List.set_cons_succ])
                                refine tk (v := ?_) 38 ?_ ?_
                                rotate_left
                                · intro w hSw
                                  go_simp
                                  (try with_reducible rfl)
                                (try simp only [Act.put, List.setIfInBounds_toArray, List.set_cons_zero, List.set_cons_succ])
                                refine wpAnyH_done (by kernel_rfl) ?_ _
                                clear hHeld
                                have HN9 := Lib.hid (H20.out.pick [2] [0, 1, 2])
                                clear H20
                                go_wp2
                                go_roundw
                                case rel => exact ⟨k + 1, _, Z0, z0, y0, Z1, z1, y1, Z2, z2, y2, by omega, by go_num, by rw [HNX2.out]; exact HN9⟩
                                case measure => simp [intOf]; omega
                              exact AllReadyH.nil
                            exact AllReadyH.nil
                          exact AllReadyH.nil
                        exact AllReadyH.nil
                      exact AllReadyH.nil
                    exact AllReadyH.nil
                  refine anyH_one rfl (fun K hK => ?_) ?_
                  · go_simp
                    generalize hq9 : w12.alloc _ = w13
                    have H13 := Lib.hid ((H12.out.new (b := w12.heap.size) rfl _ _).world hq9)
                    clear hq9 H12
                    generalize w12.heap.size = b11 at H13 ⊢
                    refine hK.out _ _ (⟨H13.out.below0, H13.out.at_ 2 rfl⟩) (fun hHeld => ?_)
                    clear hK K
                    (try simp only [Act.put, List.setIfInBounds_toArray, List.set_cons_zero, List.set_cons_succ])
                    refine wpAnyH_ready (rs := [11]) (by kernel_rfl) (by simp) ?_
                    refine anyH_one rfl (fun K hK => ?_) ?_
                    · go_simp
                      refine (rdeepX_any _ _ _ _ L2 R H13.out.doc (fun k hk => Nat.le_trans ((H13.out.the 0 rfl).len hk).1 HR64.out) p a HDa.out).mono ?_
                      rw [HO.out, deepV_z HV1.out]
                      rintro e w14 ⟨rfl, hb⟩
                      have H14 := Lib.hid (H13.out.quiet hb)
                      clear hb H13
                      refine hK.out _ _ (⟨H14.out.below0, H14.out.at_ 2 rfl⟩) (fun hHeld => ?_)
                      clear hK K
                      (try simp only [Act.put, List.setIfInBounds_toArray, List.set_cons_zero, List.set_cons_succ])
                      refine tk (v := ?_) 12 ?_ ?_
                      rotate_left
                      · intro w hSw
                        go_simp
                        (try with_reducible rfl)
                      (try simp only [Act.put, List.setIfInBounds_toArray, List.set_cons_zero, List.set_cons_succ])
                      refine tk (v := ?_) 13 ?_ ?_
                      rotate_left
                      · intro w hSw
                        go_simp
                        (try with_reducible rfl)
                      (try simp only [Act.put, List.setIfInBounds_toArray, List.set_cons_zero, List.set_cons_succ])
                      refine tk (v := ?_) 14 ?_ ?_
                      rotate_left
                      · intro w hSw
                        go_simp
                        (try with_reducible rfl)
                      (try simp only [Act.put, List.setIfInBounds_toArray, List.set_cons_zero, List.set_cons_succ])
                      refine wpAnyH_ready (rs := [16]) (by kernel_rfl) (by simp) ?_
                      refine anyH_one rfl (fun K hK => ?_) ?_
                      · obtain ⟨r0, r1, r2, r3, r4⟩ := (H14.out.at_ 0 rfl).five
                        have g0 := (H14.out.at_ 0 rfl).fz 0; have g1 := (H14.out.at_ 0 rfl).fz 1; have g2 := (H14.out.at_ 0 rfl).fz 2; have g3 := (H14.out.at_ 0 rfl).fz 3; have g4 := (H14.out.at_ 0 rfl).fz 4
                        go_simp
                        generalize hq9 : ((((w14.setCell _ _).setCell _ _).setCell _ _).setCell _ _).setCell _ _ = w15
                        have H15 := Lib.hid ((H14.out.put 0 rfl (turnB5 _ _ _ _ _ _ _) (setB5 (H14.out.at_ 0 rfl) _ _ _ _ _)).world hq9)
                        clear hq9 H14 r0 r1 r2 r3 r4 g0 g1 g2 g3 g4
                        refine hK.out _ _ (⟨H15.out.below0, H15.out.at_ 2 rfl⟩) (fun hHeld => ?_)
                        clear hK K
                        (try simp only [Act.put, List.setIfInBounds_toArray, List.set_cons_zero, List.set_cons_succ])
                        refine tk (v := ?_) 17 ?_ ?_
                        rotate_left
                        · intro w hSw
                          go_simp
                          (try with_reducible rfl)
                        (try simp only [Act.put, List.setIfInBounds_toArray, List.set_cons_zero, List.set_cons_succ])
                        refine wpAnyH_done (by kernel_rfl) ?_ _
                        clear hHeld
                        go_upto_region 12 with fail
                        have HLN4 : Hid (lenF L2 4 = (z0 : Int)) := Lib.hid (by rw [own_len3 (H15.out.of_ 0 rfl)]; rfl)
                        have HLN3 : Hid (lenF L2 3 = (z1 : Int)) := Lib.hid (by rw [own_len3 (H15.out.of_ 1 rfl)]; rfl)
                        have HLN2 : Hid (lenF L2 2 = (z2 : Int)) := Lib.hid (by rw [own_len3 (H15.out.of_ 2 rfl)]; rfl)
                        have H16 := Lib.hid (H15.out.quiet (Kept.drew0 w15))
                        clear H15
                        refine wp_region_held_drew (S := (fun w' => Blk w' b9 #[.int .i64 l1, .int .u64 t1, .bool V1, .bool V2, .bool V3] 41 ∧ Blk w' b11 #[.int .i64 l1, .int .u64 t1, .bool V1, .bool V2, .bool V3] 49 ∧ Blk w' bx #[(.slice Z0 z0 y0), .int .i64 (R : Int), (.slice Z1 z1 y1), .int .i64 (R : Int), (.slice Z2 z2 y2), .int .i64 (R : Int)] 31)) (by kernel_rfl) ⟨H16.out.at_ 1 rfl, H16.out.at_ 0 rfl, H16.out.at_ 2 rfl⟩ (fun hHeld => ?_)
                        generalize w15.drew = w16 at *
                        refine tk (v := ?_) 0 ?_ ?_
                        rotate_left
                        · intro w hSw
                          obtain ⟨s0, s1, s2, s3, s4⟩ := hSw.1.five
                          go_simp
                          (try with_reducible rfl)
                        (try simp only [Act.put, List.setIfInBounds_toArray, List.set_cons_zero, List.set_cons_succ])
                        refine tk (v := ?_) 2 ?_ ?_
                        rotate_left
                        · intro w hSw
                          obtain ⟨s0, s1, s2, s3, s4⟩ := hSw.2.1.five
                          go_simp
                          (try with_reducible rfl)
                        (try simp only [Act.put, List.setIfInBounds_toArray, List.set_cons_zero, List.set_cons_succ])
                        refine wpAnyH_ready (rs := [1]) (by kernel_rfl) (by simp) ?_
                        refine anyH_one rfl (fun K hK => ?_) ?_
                        · go_simp
                          refine (place11_any l1 t1 V1 V2 V3 _).mono ?_
                          rintro e w17 ⟨rfl, hb⟩
                          have H17 := Lib.hid (H16.out.quiet hb)
                          clear hb H16
                          refine hK.out _ _ (⟨H17.out.at_ 1 rfl, H17.out.at_ 0 rfl, H17.out.at_ 2 rfl⟩) (fun hHeld => ?_)
                          clear hK K
                          (try simp only [Act.put, List.setIfInBounds_toArray, List.set_cons_zero, List.set_cons_succ])
                          refine tk (v := ?_) 3 ?_ ?_
                          rotate_left
                          · intro w hSw
                            go_simp
                            (try with_reducible rfl)
                          (try simp only [Act.put, List.setIfInBounds_toArray, List.set_cons_zero, List.set_cons_succ])
                          refine tk (v := ?_) 4 ?_ ?_
                          rotate_left
                          · intro w hSw
                            go_simp
                            (try with_reducible rfl)
                          (try simp only [Act.put, List.setIfInBounds_toArray, List.set_cons_zero, List.set_cons_succ])
                          refine tk (v := ?_) 5 ?_ ?_
                          rotate_left
                          · intro w hSw
                            go_simp
                            (try with_reducible rfl)
                          (try simp only [Act.put, List.setIfInBounds_toArray, List.set_cons_zero, List.set_cons_succ])
                          refine tk (v := ?_) 6 ?_ ?_
                          rotate_left
                          · intro w hSw
                            go_simp
                            (try with_reducible rfl)
                          (try simp only [Act.put, List.setIfInBounds_toArray, List.set_cons_zero, List.set_cons_succ])
                          refine tk (v := ?_) 7 ?_ ?_
                          rotate_left
                          · intro w hSw
                            go_simp
                            (try with_reducible rfl)
                          (try simp only [Act.put, List.setIfInBounds_toArray, List.set_cons_zero, List.set_cons_succ])
                          refine tk (v := ?_) 8 ?_ ?_
                          rotate_left
                          · intro w hSw
                            go_simp
                            (try with_reducible rfl)
                          (try simp only [Act.put, List.setIfInBounds_toArray, List.set_cons_zero, List.set_cons_succ])
                          refine tk (v := ?_) 9 ?_ ?_
                          rotate_left
                          · intro w hSw
                            go_simp
                            (try with_reducible rfl)
                          (try simp only [Act.put, List.setIfInBounds_toArray, List.set_cons_zero, List.set_cons_succ])
                          refine tk (v := ?_) 10 ?_ ?_
                          rotate_left
                          · intro w hSw
                            go_simp
                            (try with_reducible rfl)
                          (try simp only [Act.put, List.setIfInBounds_toArray, List.set_cons_zero, List.set_cons_succ])
                          refine tk (v := ?_) 12 ?_ ?_
                          rotate_left
                          · intro w hSw
                            go_simp
                            (try with_reducible rfl)
                          (try simp only [Act.put, List.setIfInBounds_toArray, List.set_cons_zero, List.set_cons_succ])
                          refine tk (v := ?_) 13 ?_ ?_
                          rotate_left
                          · intro w hSw
                            go_simp
                            (try with_reducible rfl)
                          (try simp only [Act.put, List.setIfInBounds_toArray, List.set_cons_zero, List.set_cons_succ])
                          refine tk (v := ?_) 14 ?_ ?_
                          rotate_left
                          · intro w hSw
                            go_simp
                            (try with_reducible rfl)
                          (try simp only [Act.put, List.setIfInBounds_toArray, List.set_cons_zero, List.set_cons_succ])
                          refine tk (v := ?_) 15 ?_ ?_
                          rotate_left
                          · intro w hSw
                            obtain ⟨a0, a1, a2, a3, a4, a5⟩ := hSw.2.2.c6
                            go_simp
                            (try with_reducible rfl)
                          (try simp only [Act.put, List.setIfInBounds_toArray, List.set_cons_zero, List.set_cons_succ])
                          refine tk (v := ?_) 16 ?_ ?_
                          rotate_left
                          · intro w hSw
                            go_simp
                            (try with_reducible rfl)
                          (try simp only [Act.put, List.setIfInBounds_toArray, List.set_cons_zero, List.set_cons_succ])
                          refine wpAnyH_ready (rs := [11]) (by kernel_rfl) (by simp) ?_
                          refine anyH_one rfl (fun K hK => ?_) ?_
                          · go_simp
                            refine (lenP_any (H17.out.the 0 rfl) 4).mono ?_
                            rw [HLN4.out]
                            rintro e w18 ⟨rfl, hb⟩
                            have H18 := Lib.hid (H17.out.quiet hb)
                            clear hb H17
                            refine hK.out _ _ (⟨H18.out.at_ 1 rfl, H18.out.at_ 0 rfl, H18.out.at_ 2 rfl⟩) (fun hHeld => ?_)
                            clear hK K
                            (try simp only [Act.put, List.setIfInBounds_toArray, List.set_cons_zero, List.set_cons_succ])
                            refine tk (v := ?_) 17 ?_ ?_
                            rotate_left
                            · intro w hSw
                              go_simp
                              (try with_reducible rfl)
                            (try simp only [Act.put, List.setIfInBounds_toArray, List.set_cons_zero, List.set_cons_succ])
                            refine tk (v := ?_) 18 ?_ ?_
                            rotate_left
                            · intro w hSw
                              go_simp
                              (try with_reducible rfl)
                            (try simp only [Act.put, List.setIfInBounds_toArray, List.set_cons_zero, List.set_cons_succ])
                            refine tk (v := ?_) 19 ?_ ?_
                            rotate_left
                            · intro w hSw
                              go_simp
                              (try with_reducible rfl)
                            (try simp only [Act.put, List.setIfInBounds_toArray, List.set_cons_zero, List.set_cons_succ])
                            refine tk (v := ?_) 20 ?_ ?_
                            rotate_left
                            · intro w hSw
                              go_simp
                              (try with_reducible rfl)
                            (try simp only [Act.put, List.setIfInBounds_toArray, List.set_cons_zero, List.set_cons_succ])
                            refine tk (v := ?_) 22 ?_ ?_
                            rotate_left
                            · intro w hSw
                              go_simp
                              (try with_reducible rfl)
                            (try simp only [Act.put, List.setIfInBounds_toArray, List.set_cons_zero, List.set_cons_succ])
                            refine tk (v := ?_) 23 ?_ ?_
                            rotate_left
                            · intro w hSw
                              go_simp
                              (try with_reducible rfl)
                            (try simp only [Act.put, List.setIfInBounds_toArray, List.set_cons_zero, List.set_cons_succ])
                            refine tk (v := ?_) 24 ?_ ?_
                            rotate_left
                            · intro w hSw
                              go_simp
                              (try with_reducible rfl)
                            (try simp only [Act.put, List.setIfInBounds_toArray, List.set_cons_zero, List.set_cons_succ])
                            refine tk (v := ?_) 25 ?_ ?_
                            rotate_left
                            · intro w hSw
                              obtain ⟨a0, a1, a2, a3, a4, a5⟩ := hSw.2.2.c6
                              go_simp
                              (try with_reducible rfl)
                            (try simp only [Act.put, List.setIfInBounds_toArray, List.set_cons_zero, List.set_cons_succ])
                            refine tk (v := ?_) 26 ?_ ?_
                            rotate_left
                            · intro w hSw
                              go_simp
                              (try with_reducible rfl)
                            (try simp only [Act.put, List.setIfInBounds_toArray, List.set_cons_zero, List.set_cons_succ])
                            refine wpAnyH_ready (rs := [21]) (by kernel_rfl) (by simp) ?_
                            refine anyH_one rfl (fun K hK => ?_) ?_
                            · go_simp
                              refine (lenP_any (H18.out.the 0 rfl) 3).mono ?_
                              rw [HLN3.out]
                              rintro e w19 ⟨rfl, hb⟩
                              have H19 := Lib.hid (H18.out.quiet hb)
                              clear hb H18
                              refine hK.out _ _ (⟨H19.out.at_ 1 rfl, H19.out.at_ 0 rfl, H19.out.at_ 2 rfl⟩) (fun hHeld => ?_)
                              clear hK K
                              (try simp only [Act.put, List.setIfInBounds_toArray, List.set_cons_zero, List.set_cons_succ])
                              refine tk (v := ?_) 27 ?_ ?_
                              rotate_left
                              · intro w hSw
                                go_simp
                                (try with_reducible rfl)
                              (try simp only [Act.put, List.setIfInBounds_toArray, List.set_cons_zero, List.set_cons_succ])
                              refine tk (v := ?_) 28 ?_ ?_
                              rotate_left
                              · intro w hSw
                                go_simp
                                (try with_reducible rfl)
                              (try simp only [Act.put, List.setIfInBounds_toArray, List.set_cons_zero, List.set_cons_succ])
                              refine tk (v := ?_) 29 ?_ ?_
                              rotate_left
                              · intro w hSw
                                go_simp
                                (try with_reducible rfl)
                              (try simp only [Act.put, List.setIfInBounds_toArray, List.set_cons_zero, List.set_cons_succ])
                              refine tk (v := ?_) 30 ?_ ?_
                              rotate_left
                              · intro w hSw
                                go_simp
                                (try with_reducible rfl)
                              (try simp only [Act.put, List.setIfInBounds_toArray, List.set_cons_zero, List.set_cons_succ])
                              refine tk (v := ?_) 32 ?_ ?_
                              rotate_left
                              · intro w hSw
                                go_simp
                                (try with_reducible rfl)
                              (try simp only [Act.put, List.setIfInBounds_toArray, List.set_cons_zero, List.set_cons_succ])
                              refine tk (v := ?_) 33 ?_ ?_
                              rotate_left
                              · intro w hSw
                                go_simp
                                (try with_reducible rfl)
                              (try simp only [Act.put, List.setIfInBounds_toArray, List.set_cons_zero, List.set_cons_succ])
                              refine tk (v := ?_) 34 ?_ ?_
                              rotate_left
                              · intro w hSw
                                go_simp
                                (try with_reducible rfl)
                              (try simp only [Act.put, List.setIfInBounds_toArray, List.set_cons_zero, List.set_cons_succ])
                              refine tk (v := ?_) 35 ?_ ?_
                              rotate_left
                              · intro w hSw
                                obtain ⟨a0, a1, a2, a3, a4, a5⟩ := hSw.2.2.c6
                                go_simp
                                (try with_reducible rfl)
                              (try simp only [Act.put, List.setIfInBounds_toArray, List.set_cons_zero, List.set_cons_succ])
                              refine tk (v := ?_) 36 ?_ ?_
                              rotate_left
                              · intro w hSw
                                go_simp
                                (try with_reducible rfl)
                              (try simp only [Act.put, List.setIfInBounds_toArray, List.set_cons_zero, List.set_cons_succ])
                              refine wpAnyH_ready (rs := [31]) (by kernel_rfl) (by simp) ?_
                              refine anyH_one rfl (fun K hK => ?_) ?_
                              · go_simp
                                refine (lenP_any (H19.out.the 0 rfl) 2).mono ?_
                                rw [HLN2.out]
                                rintro e w20 ⟨rfl, hb⟩
                                have H20 := Lib.hid (H19.out.quiet hb)
                                clear hb H19
                                refine hK.out _ _ (⟨H20.out.at_ 1 rfl, H20.out.at_ 0 rfl, H20.out.at_ 2 rfl⟩) (fun hHeld => ?_)
                                clear hK K
                                (try simp only [Act.put, List.setIfInBounds_toArray, List.set_cons_zero, List.set_cons_succ])
                                refine tk (v := ?_) 37 ?_ ?_
                                rotate_left
                                · intro w hSw
                                  go_simp
                                  (try with_reducible rfl)
                                (try simp only [Act.put, List.setIfInBounds_toArray, List.set_cons_zero, List.set_cons_succ])
                                refine tk (v := ?_) 38 ?_ ?_
                                rotate_left
                                · intro w hSw
                                  go_simp
                                  (try with_reducible rfl)
                                (try simp only [Act.put, List.setIfInBounds_toArray, List.set_cons_zero, List.set_cons_succ])
                                refine wpAnyH_done (by kernel_rfl) ?_ _
                                clear hHeld
                                have HN9 := Lib.hid (H20.out.pick [2] [0, 1, 2])
                                clear H20
                                go_wp2
                                go_roundw
                                case rel => exact ⟨k + 1, _, Z0, z0, y0, Z1, z1, y1, Z2, z2, y2, by omega, by go_num, by rw [HNX2.out]; exact HN9⟩
                                case measure => simp [intOf]; omega
                              exact AllReadyH.nil
                            exact AllReadyH.nil
                          exact AllReadyH.nil
                        exact AllReadyH.nil
                      exact AllReadyH.nil
                    exact AllReadyH.nil
                  exact AllReadyH.nil
                exact AllReadyH.nil
              exact AllReadyH.nil
            refine anyH_one rfl (fun K hK => ?_) ?_
            · go_simp
              generalize hq9 : w8.alloc _ = w9
              have H9 := Lib.hid ((H8.out.new (b := w8.heap.size) rfl _ _).world hq9)
              clear hq9 H8
              generalize w8.heap.size = b9 at H9 ⊢
              refine hK.out _ _ (H9.out.below0) (fun hHeld => ?_)
              clear hK K
              (try simp only [Act.put, List.setIfInBounds_toArray, List.set_cons_zero, List.set_cons_succ])
              refine wpAnyH_ready (rs := [11]) (by kernel_rfl) (by simp) ?_
              refine anyH_one rfl (fun K hK => ?_) ?_
              · go_simp
                refine (deepP_any (H9.out.the 0 rfl) (H9.out.shifts HS.out (fun h => h)) p a HDp.out HDa.out).mono ?_
                rw [HO.out, deepV_z HV1.out]
                rintro e w10 ⟨rfl, hb⟩
                have H10 := Lib.hid (H9.out.quiet hb)
                clear hb H9
                refine hK.out _ _ (H10.out.below0) (fun hHeld => ?_)
                clear hK K
                (try simp only [Act.put, List.setIfInBounds_toArray, List.set_cons_zero, List.set_cons_succ])
                refine tk (v := ?_) 12 ?_ ?_
                rotate_left
                · intro w hSw
                  go_simp
                  (try with_reducible rfl)
                (try simp only [Act.put, List.setIfInBounds_toArray, List.set_cons_zero, List.set_cons_succ])
                refine tk (v := ?_) 13 ?_ ?_
                rotate_left
                · intro w hSw
                  go_simp
                  (try with_reducible rfl)
                (try simp only [Act.put, List.setIfInBounds_toArray, List.set_cons_zero, List.set_cons_succ])
                refine tk (v := ?_) 14 ?_ ?_
                rotate_left
                · intro w hSw
                  go_simp
                  (try with_reducible rfl)
                (try simp only [Act.put, List.setIfInBounds_toArray, List.set_cons_zero, List.set_cons_succ])
                refine wpAnyH_ready (rs := [16]) (by kernel_rfl) (by simp) ?_
                refine anyH_one rfl (fun K hK => ?_) ?_
                · obtain ⟨r0, r1, r2, r3, r4⟩ := (H10.out.at_ 0 rfl).five
                  have g0 := (H10.out.at_ 0 rfl).fz 0; have g1 := (H10.out.at_ 0 rfl).fz 1; have g2 := (H10.out.at_ 0 rfl).fz 2; have g3 := (H10.out.at_ 0 rfl).fz 3; have g4 := (H10.out.at_ 0 rfl).fz 4
                  go_simp
                  generalize hq9 : ((((w10.setCell _ _).setCell _ _).setCell _ _).setCell _ _).setCell _ _ = w11
                  have H11 := Lib.hid ((H10.out.put 0 rfl (turnB5 _ _ _ _ _ _ _) (setB5 (H10.out.at_ 0 rfl) _ _ _ _ _)).world hq9)
                  clear hq9 H10 r0 r1 r2 r3 r4 g0 g1 g2 g3 g4
                  refine hK.out _ _ (H11.out.below0) (fun hHeld => ?_)
                  clear hK K
                  (try simp only [Act.put, List.setIfInBounds_toArray, List.set_cons_zero, List.set_cons_succ])
                  refine tk (v := ?_) 17 ?_ ?_
                  rotate_left
                  · intro w hSw
                    go_simp
                    (try with_reducible rfl)
                  (try simp only [Act.put, List.setIfInBounds_toArray, List.set_cons_zero, List.set_cons_succ])
                  refine wpAnyH_done (by kernel_rfl) ?_ _
                  clear hHeld
                  go_upto_region 11 with fail
                  have H12 := Lib.hid (H11.out.quiet (Kept.drew0 w11))
                  clear H11
                  refine wp_region_held_drew (S := (fun w' => Below w.heap.size w w' ∧ Blk w' bx #[(.slice Z0 z0 y0), .int .i64 (R : Int), (.slice Z1 z1 y1), .int .i64 (R : Int), (.slice Z2 z2 y2), .int .i64 (R : Int)] 31)) (by kernel_rfl) ⟨H12.out.below0, H12.out.at_ 1 rfl⟩ (fun hHeld => ?_)
                  generalize w11.drew = w12 at *
                  refine tk (v := ?_) 0 ?_ ?_
                  rotate_left
                  · intro w hSw
                    obtain ⟨a0, a1, a2, a3, a4, a5⟩ := hSw.2.c6
                    go_simp
                    (try with_reducible rfl)
                  (try simp only [Act.put, List.setIfInBounds_toArray, List.set_cons_zero, List.set_cons_succ])
                  refine tk (v := ?_) 1 ?_ ?_
                  rotate_left
                  · intro w hSw
                    go_simp
                    (try with_reducible rfl)
                  (try simp only [Act.put, List.setIfInBounds_toArray, List.set_cons_zero, List.set_cons_succ])
                  refine tk (v := ?_) 2 ?_ ?_
                  rotate_left
                  · intro w hSw
                    go_simp
                    (try with_reducible rfl)
                  (try simp only [Act.put, List.setIfInBounds_toArray, List.set_cons_zero, List.set_cons_succ])
                  refine tk (v := ?_) 3 ?_ ?_
                  rotate_left
                  · intro w hSw
                    go_simp
                    (try with_reducible rfl)
                  (try simp only [Act.put, List.setIfInBounds_toArray, List.set_cons_zero, List.set_cons_succ])
                  refine tk (v := ?_) 4 ?_ ?_
                  rotate_left
                  · intro w hSw
                    go_simp
                    (try with_reducible rfl)
                  (try simp only [Act.put, List.setIfInBounds_toArray, List.set_cons_zero, List.set_cons_succ])
                  refine tk (v := ?_) 5 ?_ ?_
                  rotate_left
                  · intro w hSw
                    obtain ⟨e0, e1, e2, e3, e4, e5, e6, e7, e8, e9, e10, e11, e12, e13, e14, e15, e16, e17, e18⟩ := HDE.out.below hSw.1
                    go_simp
                    (try with_reducible rfl)
                  (try simp only [Act.put, List.setIfInBounds_toArray, List.set_cons_zero, List.set_cons_succ])
                  refine tk (v := ?_) 6 ?_ ?_
                  rotate_left
                  · intro w hSw
                    go_simp
                    (try with_reducible rfl)
                  (try simp only [Act.put, List.setIfInBounds_toArray, List.set_cons_zero, List.set_cons_succ])
                  refine tk (v := ?_) 7 ?_ ?_
                  rotate_left
                  · intro w hSw
                    go_simp
                    (try with_reducible rfl)
                  (try simp only [Act.put, List.setIfInBounds_toArray, List.set_cons_zero, List.set_cons_succ])
                  refine tk (v := ?_) 8 ?_ ?_
                  rotate_left
                  · intro w hSw
                    go_simp
                    (try with_reducible rfl)
                  (try simp only [Act.put, List.setIfInBounds_toArray, List.set_cons_zero, List.set_cons_succ])
                  refine tk (v := ?_) 9 ?_ ?_
                  rotate_left
                  · intro w hSw
                    go_simp
                    (try with_reducible rfl)
                  (try simp only [Act.put, List.setIfInBounds_toArray, List.set_cons_zero, List.set_cons_succ])
                  refine tk (v := ?_) 10 ?_ ?_
                  rotate_left
                  · intro w hSw
                    obtain ⟨e0, e1, e2, e3, e4, e5, e6, e7, e8, e9, e10, e11, e12, e13, e14, e15, e16, e17, e18⟩ := HDE.out.below hSw.1
                    go_simp
                    (try with_reducible rfl)
                  (try simp only [Act.put, List.setIfInBounds_toArray, List.set_cons_zero, List.set_cons_succ])
                  refine wpAnyH_ready (rs := [11, 15]) (by kernel_rfl) (by simp) ?_
                  refine anyH_one rfl (fun K hK => ?_) ?_
                  · go_simp
                    refine (rdeepX_any _ _ _ _ L2 R H12.out.doc (fun k hk => Nat.le_trans ((H12.out.the 0 rfl).len hk).1 HR64.out) p a HDa.out).mono ?_
                    rw [HO.out, deepV_z HV1.out]
                    rintro e w13 ⟨rfl, hb⟩
                    have H13 := Lib.hid (H12.out.quiet hb)
                    clear hb H12
                    refine hK.out _ _ (⟨H13.out.below0, H13.out.at_ 1 rfl⟩) (fun hHeld => ?_)
                    clear hK K
                    (try simp only [Act.put, List.setIfInBounds_toArray, List.set_cons_zero, List.set_cons_succ])
                    refine tk (v := ?_) 12 ?_ ?_
                    rotate_left
                    · intro w hSw
                      go_simp
                      (try with_reducible rfl)
                    (try simp only [Act.put, List.setIfInBounds_toArray, List.set_cons_zero, List.set_cons_succ])
                    refine tk (v := ?_) 13 ?_ ?_
                    rotate_left
                    · intro w hSw
                      go_simp
                      (try with_reducible rfl)
                    (try simp only [Act.put, List.setIfInBounds_toArray, List.set_cons_zero, List.set_cons_succ])
                    refine tk (v := ?_) 14 ?_ ?_
                    rotate_left
                    · intro w hSw
                      go_simp
                      (try with_reducible rfl)
                    (try simp only [Act.put, List.setIfInBounds_toArray, List.set_cons_zero, List.set_cons_succ])
                    refine wpAnyH_ready (rs := [15]) (by kernel_rfl) (by simp) ?_
                    refine anyH_one rfl (fun K hK => ?_) ?_
                    · go_simp
                      generalize hq9 : w13.alloc _ = w14
                      have H14 := Lib.hid ((H13.out.new (b := w13.heap.size) rfl _ _).world hq9)
                      clear hq9 H13
                      generalize w13.heap.size = b11 at H14 ⊢
                      refine hK.out _ _ (⟨H14.out.below0, H14.out.at_ 2 rfl⟩) (fun hHeld => ?_)
                      clear hK K
                      (try simp only [Act.put, List.setIfInBounds_toArray, List.set_cons_zero, List.set_cons_succ])
                      refine wpAnyH_ready (rs := [16]) (by kernel_rfl) (by simp) ?_
                      refine anyH_one rfl (fun K hK => ?_) ?_
                      · obtain ⟨r0, r1, r2, r3, r4⟩ := (H14.out.at_ 0 rfl).five
                        have g0 := (H14.out.at_ 0 rfl).fz 0; have g1 := (H14.out.at_ 0 rfl).fz 1; have g2 := (H14.out.at_ 0 rfl).fz 2; have g3 := (H14.out.at_ 0 rfl).fz 3; have g4 := (H14.out.at_ 0 rfl).fz 4
                        go_simp
                        generalize hq9 : ((((w14.setCell _ _).setCell _ _).setCell _ _).setCell _ _).setCell _ _ = w15
                        have H15 := Lib.hid ((H14.out.put 0 rfl (turnB5 _ _ _ _ _ _ _) (setB5 (H14.out.at_ 0 rfl) _ _ _ _ _)).world hq9)
                        clear hq9 H14 r0 r1 r2 r3 r4 g0 g1 g2 g3 g4
                        refine hK.out _ _ (⟨H15.out.below0, H15.out.at_ 2 rfl⟩) (fun hHeld => ?_)
                        clear hK K
                        (try simp only [Act.put, List.setIfInBounds_toArray, List.set_cons_zero, List.set_cons_succ])
                        refine tk (v := ?_) 17 ?_ ?_
                        rotate_left
                        · intro w hSw
                          go_simp
                          (try with_reducible rfl)
                        (try simp only [Act.put, List.setIfInBounds_toArray, List.set_cons_zero, List.set_cons_succ])
                        refine wpAnyH_done (by kernel_rfl) ?_ _
                        clear hHeld
                        go_upto_region 12 with fail
                        have HLN4 : Hid (lenF L2 4 = (z0 : Int)) := Lib.hid (by rw [own_len3 (H15.out.of_ 0 rfl)]; rfl)
                        have HLN3 : Hid (lenF L2 3 = (z1 : Int)) := Lib.hid (by rw [own_len3 (H15.out.of_ 1 rfl)]; rfl)
                        have HLN2 : Hid (lenF L2 2 = (z2 : Int)) := Lib.hid (by rw [own_len3 (H15.out.of_ 2 rfl)]; rfl)
                        have H16 := Lib.hid (H15.out.quiet (Kept.drew0 w15))
                        clear H15
                        refine wp_region_held_drew (S := (fun w' => Blk w' b9 #[.int .i64 l1, .int .u64 t1, .bool V1, .bool V2, .bool V3] 41 ∧ Blk w' b11 #[.int .i64 l1, .int .u64 t1, .bool V1, .bool V2, .bool V3] 49 ∧ Blk w' bx #[(.slice Z0 z0 y0), .int .i64 (R : Int), (.slice Z1 z1 y1), .int .i64 (R : Int), (.slice Z2 z2 y2), .int .i64 (R : Int)] 31)) (by kernel_rfl) ⟨H16.out.at_ 1 rfl, H16.out.at_ 0 rfl, H16.out.at_ 2 rfl⟩ (fun hHeld => ?_)
                        generalize w15.drew = w16 at *
                        refine tk (v := ?_) 0 ?_ ?_
                        rotate_left
                        · intro w hSw
                          obtain ⟨s0, s1, s2, s3, s4⟩ := hSw.1.five
                          go_simp
                          (try with_reducible rfl)
                        (try simp only [Act.put, List.setIfInBounds_toArray, List.set_cons_zero, List.set_cons_succ])
                        refine tk (v := ?_) 2 ?_ ?_
                        rotate_left
                        · intro w hSw
                          obtain ⟨s0, s1, s2, s3, s4⟩ := hSw.2.1.five
                          go_simp
                          (try with_reducible rfl)
                        (try simp only [Act.put, List.setIfInBounds_toArray, List.set_cons_zero, List.set_cons_succ])
                        refine wpAnyH_ready (rs := [1]) (by kernel_rfl) (by simp) ?_
                        refine anyH_one rfl (fun K hK => ?_) ?_
                        · go_simp
                          refine (place11_any l1 t1 V1 V2 V3 _).mono ?_
                          rintro e w17 ⟨rfl, hb⟩
                          have H17 := Lib.hid (H16.out.quiet hb)
                          clear hb H16
                          refine hK.out _ _ (⟨H17.out.at_ 1 rfl, H17.out.at_ 0 rfl, H17.out.at_ 2 rfl⟩) (fun hHeld => ?_)
                          clear hK K
                          (try simp only [Act.put, List.setIfInBounds_toArray, List.set_cons_zero, List.set_cons_succ])
                          refine tk (v := ?_) 3 ?_ ?_
                          rotate_left
                          · intro w hSw
                            go_simp
                            (try with_reducible rfl)
                          (try simp only [Act.put, List.setIfInBounds_toArray, List.set_cons_zero, List.set_cons_succ])
                          refine tk (v := ?_) 4 ?_ ?_
                          rotate_left
                          · intro w hSw
                            go_simp
                            (try with_reducible rfl)
                          (try simp only [Act.put, List.setIfInBounds_toArray, List.set_cons_zero, List.set_cons_succ])
                          refine tk (v := ?_) 5 ?_ ?_
                          rotate_left
                          · intro w hSw
                            go_simp
                            (try with_reducible rfl)
                          (try simp only [Act.put, List.setIfInBounds_toArray, List.set_cons_zero, List.set_cons_succ])
                          refine tk (v := ?_) 6 ?_ ?_
                          rotate_left
                          · intro w hSw
                            go_simp
                            (try with_reducible rfl)
                          (try simp only [Act.put, List.setIfInBounds_toArray, List.set_cons_zero, List.set_cons_succ])
                          refine tk (v := ?_) 7 ?_ ?_
                          rotate_left
                          · intro w hSw
                            go_simp
                            (try with_reducible rfl)
                          (try simp only [Act.put, List.setIfInBounds_toArray, List.set_cons_zero, List.set_cons_succ])
                          refine tk (v := ?_) 8 ?_ ?_
                          rotate_left
                          · intro w hSw
                            go_simp
                            (try with_reducible rfl)
                          (try simp only [Act.put, List.setIfInBounds_toArray, List.set_cons_zero, List.set_cons_succ])
                          refine tk (v := ?_) 9 ?_ ?_
                          rotate_left
                          · intro w hSw
                            go_simp
                            (try with_reducible rfl)
                          (try simp only [Act.put, List.setIfInBounds_toArray, List.set_cons_zero, List.set_cons_succ])
                          refine tk (v := ?_) 10 ?_ ?_
                          rotate_left
                          · intro w hSw
                            go_simp
                            (try with_reducible rfl)
                          (try simp only [Act.put, List.setIfInBounds_toArray, List.set_cons_zero, List.set_cons_succ])
                          refine tk (v := ?_) 12 ?_ ?_
                          rotate_left
                          · intro w hSw
                            go_simp
                            (try with_reducible rfl)
                          (try simp only [Act.put, List.setIfInBounds_toArray, List.set_cons_zero, List.set_cons_succ])
                          refine tk (v := ?_) 13 ?_ ?_
                          rotate_left
                          · intro w hSw
                            go_simp
                            (try with_reducible rfl)
                          (try simp only [Act.put, List.setIfInBounds_toArray, List.set_cons_zero, List.set_cons_succ])
                          refine tk (v := ?_) 14 ?_ ?_
                          rotate_left
                          · intro w hSw
                            go_simp
                            (try with_reducible rfl)
                          (try simp only [Act.put, List.setIfInBounds_toArray, List.set_cons_zero, List.set_cons_succ])
                          refine tk (v := ?_) 15 ?_ ?_
                          rotate_left
                          · intro w hSw
                            obtain ⟨a0, a1, a2, a3, a4, a5⟩ := hSw.2.2.c6
                            go_simp
                            (try with_reducible rfl)
                          (try simp only [Act.put, List.setIfInBounds_toArray, List.set_cons_zero, List.set_cons_succ])
                          refine tk (v := ?_) 16 ?_ ?_
                          rotate_left
                          · intro w hSw
                            go_simp
                            (try with_reducible rfl)
                          (try simp only [Act.put, List.setIfInBounds_toArray, List.set_cons_zero, List.set_cons_succ])
                          refine wpAnyH_ready (rs := [11]) (by kernel_rfl) (by simp) ?_
                          refine anyH_one rfl (fun K hK => ?_) ?_
                          · go_simp
                            refine (lenP_any (H17.out.the 0 rfl) 4).mono ?_
                            rw [HLN4.out]
                            rintro e w18 ⟨rfl, hb⟩
                            have H18 := Lib.hid (H17.out.quiet hb)
                            clear hb H17
                            refine hK.out _ _ (⟨H18.out.at_ 1 rfl, H18.out.at_ 0 rfl, H18.out.at_ 2 rfl⟩) (fun hHeld => ?_)
                            clear hK K
                            (try simp only [Act.put, List.setIfInBounds_toArray, List.set_cons_zero, List.set_cons_succ])
                            refine tk (v := ?_) 17 ?_ ?_
                            rotate_left
                            · intro w hSw
                              go_simp
                              (try with_reducible rfl)
                            (try simp only [Act.put, List.setIfInBounds_toArray, List.set_cons_zero, List.set_cons_succ])
                            refine tk (v := ?_) 18 ?_ ?_
                            rotate_left
                            · intro w hSw
                              go_simp
                              (try with_reducible rfl)
                            (try simp only [Act.put, List.setIfInBounds_toArray, List.set_cons_zero, List.set_cons_succ])
                            refine tk (v := ?_) 19 ?_ ?_
                            rotate_left
                            · intro w hSw
                              go_simp
                              (try with_reducible rfl)
                            (try simp only [Act.put, List.setIfInBounds_toArray, List.set_cons_zero, List.set_cons_succ])
                            refine tk (v := ?_) 20 ?_ ?_
                            rotate_left
                            · intro w hSw
                              go_simp
                              (try with_reducible rfl)
                            (try simp only [Act.put, List.setIfInBounds_toArray, List.set_cons_zero, List.set_cons_succ])
                            refine tk (v := ?_) 22 ?_ ?_
                            rotate_left
                            · intro w hSw
                              go_simp
                              (try with_reducible rfl)
                            (try simp only [Act.put, List.setIfInBounds_toArray, List.set_cons_zero, List.set_cons_succ])
                            refine tk (v := ?_) 23 ?_ ?_
                            rotate_left
                            · intro w hSw
                              go_simp
                              (try with_reducible rfl)
                            (try simp only [Act.put, List.setIfInBounds_toArray, List.set_cons_zero, List.set_cons_succ])
                            refine tk (v := ?_) 24 ?_ ?_
                            rotate_left
                            · intro w hSw
                              go_simp
                              (try with_reducible rfl)
                            (try simp only [Act.put, List.setIfInBounds_toArray, List.set_cons_zero, List.set_cons_succ])
                            refine tk (v := ?_) 25 ?_ ?_
                            rotate_left
                            · intro w hSw
                              obtain ⟨a0, a1, a2, a3, a4, a5⟩ := hSw.2.2.c6
                              go_simp
                              (try with_reducible rfl)
                            (try simp only [Act.put, List.setIfInBounds_toArray, List.set_cons_zero, List.set_cons_succ])
                            refine tk (v := ?_) 26 ?_ ?_
                            rotate_left
                            · intro w hSw
                              go_simp
                              (try with_reducible rfl)
                            (try simp only [Act.put, List.setIfInBounds_toArray, List.set_cons_zero, List.set_cons_succ])
                            refine wpAnyH_ready (rs := [21]) (by kernel_rfl) (by simp) ?_
                            refine anyH_one rfl (fun K hK => ?_) ?_
                            · go_simp
                              refine (lenP_any (H18.out.the 0 rfl) 3).mono ?_
                              rw [HLN3.out]
                              rintro e w19 ⟨rfl, hb⟩
                              have H19 := Lib.hid (H18.out.quiet hb)
                              clear hb H18
                              refine hK.out _ _ (⟨H19.out.at_ 1 rfl, H19.out.at_ 0 rfl, H19.out.at_ 2 rfl⟩) (fun hHeld => ?_)
                              clear hK K
                              (try simp only [Act.put, List.setIfInBounds_toArray, List.set_cons_zero, List.set_cons_succ])
                              refine tk (v := ?_) 27 ?_ ?_
                              rotate_left
                              · intro w hSw
                                go_simp
                                (try with_reducible rfl)
                              (try simp only [Act.put, List.setIfInBounds_toArray, List.set_cons_zero, List.set_cons_succ])
                              refine tk (v := ?_) 28 ?_ ?_
                              rotate_left
                              · intro w hSw
                                go_simp
                                (try with_reducible rfl)
                              (try simp only [Act.put, List.setIfInBounds_toArray, List.set_cons_zero, List.set_cons_succ])
                              refine tk (v := ?_) 29 ?_ ?_
                              rotate_left
                              · intro w hSw
                                go_simp
                                (try with_reducible rfl)
                              (try simp only [Act.put, List.setIfInBounds_toArray, List.set_cons_zero, List.set_cons_succ])
                              refine tk (v := ?_) 30 ?_ ?_
                              rotate_left
                              · intro w hSw
                                go_simp
                                (try with_reducible rfl)
                              (try simp only [Act.put, List.setIfInBounds_toArray, List.set_cons_zero, List.set_cons_succ])
                              refine tk (v := ?_) 32 ?_ ?_
                              rotate_left
                              · intro w hSw
                                go_simp
                                (try with_reducible rfl)
                              (try simp only [Act.put, List.setIfInBounds_toArray, List.set_cons_zero, List.set_cons_succ])
                              refine tk (v := ?_) 33 ?_ ?_
                              rotate_left
                              · intro w hSw
                                go_simp
                                (try with_reducible rfl)
                              (try simp only [Act.put, List.setIfInBounds_toArray, List.set_cons_zero, List.set_cons_succ])
                              refine tk (v := ?_) 34 ?_ ?_
                              rotate_left
                              · intro w hSw
                                go_simp
                                (try with_reducible rfl)
                              (try simp only [Act.put, List.setIfInBounds_toArray, List.set_cons_zero, List.set_cons_succ])
                              refine tk (v := ?_) 35 ?_ ?_
                              rotate_left
                              · intro w hSw
                                obtain ⟨a0, a1, a2, a3, a4, a5⟩ := hSw.2.2.c6
                                go_simp
                                (try with_reducible rfl)
                              (try simp only [Act.put, List.setIfInBounds_toArray, List.set_cons_zero, List.set_cons_succ])
                              refine tk (v := ?_) 36 ?_ ?_
                              rotate_left
                              · intro w hSw
                                go_simp
                                (try with_reducible rfl)
                              (try simp only [Act.put, List.setIfInBounds_toArray, List.set_cons_zero, List.set_cons_succ])
                              refine wpAnyH_ready (rs := [31]) (by kernel_rfl) (by simp) ?_
                              refine anyH_one rfl (fun K hK => ?_) ?_
                              · go_simp
                                refine (lenP_any (H19.out.the 0 rfl) 2).mono ?_
                                rw [HLN2.out]
                                rintro e w20 ⟨rfl, hb⟩
                                have H20 := Lib.hid (H19.out.quiet hb)
                                clear hb H19
                                refine hK.out _ _ (⟨H20.out.at_ 1 rfl, H20.out.at_ 0 rfl, H20.out.at_ 2 rfl⟩) (fun hHeld => ?_)
                                clear hK K
                                (try simp only [Act.put, List.setIfInBounds_toArray, List.set_cons_zero, List.set_cons_succ])
                                refine tk (v := ?_) 37 ?_ ?_
                                rotate_left
                                · intro w hSw
                                  go_simp
                                  (try with_reducible rfl)
                                (try simp only [Act.put, List.setIfInBounds_toArray, List.set_cons_zero, List.set_cons_succ])
                                refine tk (v := ?_) 38 ?_ ?_
                                rotate_left
                                · intro w hSw
                                  go_simp
                                  (try with_reducible rfl)
                                (try simp only [Act.put, List.setIfInBounds_toArray, List.set_cons_zero, List.set_cons_succ])
                                refine wpAnyH_done (by kernel_rfl) ?_ _
                                clear hHeld
                                have HN9 := Lib.hid (H20.out.pick [2] [0, 1, 2])
                                clear H20
                                go_wp2
                                go_roundw
                                case rel => exact ⟨k + 1, _, Z0, z0, y0, Z1, z1, y1, Z2, z2, y2, by omega, by go_num, by rw [HNX2.out]; exact HN9⟩
                                case measure => simp [intOf]; omega
                              exact AllReadyH.nil
                            exact AllReadyH.nil
                          exact AllReadyH.nil
                        exact AllReadyH.nil
                      exact AllReadyH.nil
                    exact AllReadyH.nil
                  refine anyH_one rfl (fun K hK => ?_) ?_
                  · go_simp
                    generalize hq9 : w12.alloc _ = w13
                    have H13 := Lib.hid ((H12.out.new (b := w12.heap.size) rfl _ _).world hq9)
                    clear hq9 H12
                    generalize w12.heap.size = b11 at H13 ⊢
                    refine hK.out _ _ (⟨H13.out.below0, H13.out.at_ 2 rfl⟩) (fun hHeld => ?_)
                    clear hK K
                    (try simp only [Act.put, List.setIfInBounds_toArray, List.set_cons_zero, List.set_cons_succ])
                    refine wpAnyH_ready (rs := [11]) (by kernel_rfl) (by simp) ?_
                    refine anyH_one rfl (fun K hK => ?_) ?_
                    · go_simp
                      refine (rdeepX_any _ _ _ _ L2 R H13.out.doc (fun k hk => Nat.le_trans ((H13.out.the 0 rfl).len hk).1 HR64.out) p a HDa.out).mono ?_
                      rw [HO.out, deepV_z HV1.out]
                      rintro e w14 ⟨rfl, hb⟩
                      have H14 := Lib.hid (H13.out.quiet hb)
                      clear hb H13
                      refine hK.out _ _ (⟨H14.out.below0, H14.out.at_ 2 rfl⟩) (fun hHeld => ?_)
                      clear hK K
                      (try simp only [Act.put, List.setIfInBounds_toArray, List.set_cons_zero, List.set_cons_succ])
                      refine tk (v := ?_) 12 ?_ ?_
                      rotate_left
                      · intro w hSw
                        go_simp
                        (try with_reducible rfl)
                      (try simp only [Act.put, List.setIfInBounds_toArray, List.set_cons_zero, List.set_cons_succ])
                      refine tk (v := ?_) 13 ?_ ?_
                      rotate_left
                      · intro w hSw
                        go_simp
                        (try with_reducible rfl)
                      (try simp only [Act.put, List.setIfInBounds_toArray, List.set_cons_zero, List.set_cons_succ])
                      refine tk (v := ?_) 14 ?_ ?_
                      rotate_left
                      · intro w hSw
                        go_simp
                        (try with_reducible rfl)
                      (try simp only [Act.put, List.setIfInBounds_toArray, List.set_cons_zero, List.set_cons_succ])
                      refine wpAnyH_ready (rs := [16]) (by kernel_rfl) (by simp) ?_
                      refine anyH_one rfl (fun K hK => ?_) ?_
                      · obtain ⟨r0, r1, r2, r3, r4⟩ := (H14.out.at_ 0 rfl).five
                        have g0 := (H14.out.at_ 0 rfl).fz 0; have g1 := (H14.out.at_ 0 rfl).fz 1; have g2 := (H14.out.at_ 0 rfl).fz 2; have g3 := (H14.out.at_ 0 rfl).fz 3; have g4 := (H14.out.at_ 0 rfl).fz 4
                        go_simp
                        generalize hq9 : ((((w14.setCell _ _).setCell _ _).setCell _ _).setCell _ _).setCell _ _ = w15
                        have H15 := Lib.hid ((H14.out.put 0 rfl (turnB5 _ _ _ _ _ _ _) (setB5 (H14.out.at_ 0 rfl) _ _ _ _ _)).world hq9)
                        clear hq9 H14 r0 r1 r2 r3 r4 g0 g1 g2 g3 g4
                        refine hK.out _ _ (⟨H15.out.below0, H15.out.at_ 2 rfl⟩) (fun hHeld => ?_)
                        clear hK K
                        (try simp only [Act.put, List.setIfInBounds_toArray, List.set_cons_zero, List.set_cons_succ])
                        refine tk (v := ?_) 17 ?_ ?_
                        rotate_left
                        · intro w hSw
                          go_simp
                          (try with_reducible rfl)
                        (try simp only [Act.put, List.setIfInBounds_toArray, List.set_cons_zero, List.set_cons_succ])
                        refine wpAnyH_done (by kernel_rfl) ?_ _
                        clear hHeld
                        go_upto_region 12 with fail
                        have HLN4 : Hid (lenF L2 4 = (z0 : Int)) := Lib.hid (by rw [own_len3 (H15.out.of_ 0 rfl)]; rfl)
                        have HLN3 : Hid (lenF L2 3 = (z1 : Int)) := Lib.hid (by rw [own_len3 (H15.out.of_ 1 rfl)]; rfl)
                        have HLN2 : Hid (lenF L2 2 = (z2 : Int)) := Lib.hid (by rw [own_len3 (H15.out.of_ 2 rfl)]; rfl)
                        have H16 := Lib.hid (H15.out.quiet (Kept.drew0 w15))
                        clear H15
                        refine wp_region_held_drew (S := (fun w' => Blk w' b9 #[.int .i64 l1, .int .u64 t1, .bool V1, .bool V2, .bool V3] 41 ∧ Blk w' b11 #[.int .i64 l1, .int .u64 t1, .bool V1, .bool V2, .bool V3] 49 ∧ Blk w' bx #[(.slice Z0 z0 y0), .int .i64 (R : Int), (.slice Z1 z1 y1), .int .i64 (R : Int), (.slice Z2 z2 y2), .int .i64 (R : Int)] 31)) (by kernel_rfl) ⟨H16.out.at_ 1 rfl, H16.out.at_ 0 rfl, H16.out.at_ 2 rfl⟩ (fun hHeld => ?_)
                        generalize w15.drew = w16 at *
                        refine tk (v := ?_) 0 ?_ ?_
                        rotate_left
                        · intro w hSw
                          obtain ⟨s0, s1, s2, s3, s4⟩ := hSw.1.five
                          go_simp
                          (try with_reducible rfl)
                        (try simp only [Act.put, List.setIfInBounds_toArray, List.set_cons_zero, List.set_cons_succ])
                        refine tk (v := ?_) 2 ?_ ?_
                        rotate_left
                        · intro w hSw
                          obtain ⟨s0, s1, s2, s3, s4⟩ := hSw.2.1.five
                          go_simp
                          (try with_reducible rfl)
                        (try simp only [Act.put, List.setIfInBounds_toArray, List.set_cons_zero, List.set_cons_succ])
                        refine wpAnyH_ready (rs := [1]) (by kernel_rfl) (by simp) ?_
                        refine anyH_one rfl (fun K hK => ?_) ?_
                        · go_simp
                          refine (place11_any l1 t1 V1 V2 V3 _).mono ?_
                          rintro e w17 ⟨rfl, hb⟩
                          have H17 := Lib.hid (H16.out.quiet hb)
                          clear hb H16
                          refine hK.out _ _ (⟨H17.out.at_ 1 rfl, H17.out.at_ 0 rfl, H17.out.at_ 2 rfl⟩) (fun hHeld => ?_)
                          clear hK K
                          (try simp only [Act.put, List.setIfInBounds_toArray, List.set_cons_zero, List.set_cons_succ])
                          refine tk (v := ?_) 3 ?_ ?_
                          rotate_left
                          · intro w hSw
                            go_simp
                            (try with_reducible rfl)
                          (try simp only [Act.put, List.setIfInBounds_toArray, List.set_cons_zero, List.set_cons_succ])
                          refine tk (v := ?_) 4 ?_ ?_
                          rotate_left
                          · intro w hSw
                            go_simp
                            (try with_reducible rfl)
                          (try simp only [Act.put, List.setIfInBounds_toArray, List.set_cons_zero, List.set_cons_succ])
                          refine tk (v := ?_) 5 ?_ ?_
                          rotate_left
                          · intro w hSw
                            go_simp
                            (try with_reducible rfl)
                          (try simp only [Act.put, List.setIfInBounds_toArray, List.set_cons_zero, List.set_cons_succ])
                          refine tk (v := ?_) 6 ?_ ?_
                          rotate_left
                          · intro w hSw
                            go_simp
                            (try with_reducible rfl)
                          (try simp only [Act.put, List.setIfInBounds_toArray, List.set_cons_zero, List.set_cons_succ])
                          refine tk (v := ?_) 7 ?_ ?_
                          rotate_left
                          · intro w hSw
                            go_simp
                            (try with_reducible rfl)
                          (try simp only [Act.put, List.setIfInBounds_toArray, List.set_cons_zero, List.set_cons_succ])
                          refine tk (v := ?_) 8 ?_ ?_
                          rotate_left
                          · intro w hSw
                            go_simp
                            (try with_reducible rfl)
                          (try simp only [Act.put, List.setIfInBounds_toArray, List.set_cons_zero, List.set_cons_succ])
                          refine tk (v := ?_) 9 ?_ ?_
                          rotate_left
                          · intro w hSw
                            go_simp
                            (try with_reducible rfl)
                          (try simp only [Act.put, List.setIfInBounds_toArray, List.set_cons_zero, List.set_cons_succ])
                          refine tk (v := ?_) 10 ?_ ?_
                          rotate_left
                          · intro w hSw
                            go_simp
                            (try with_reducible rfl)
                          (try simp only [Act.put, List.setIfInBounds_toArray, List.set_cons_zero, List.set_cons_succ])
                          refine tk (v := ?_) 12 ?_ ?_
                          rotate_left
                          · intro w hSw
                            go_simp
                            (try with_reducible rfl)
                          (try simp only [Act.put, List.setIfInBounds_toArray, List.set_cons_zero, List.set_cons_succ])
                          refine tk (v := ?_) 13 ?_ ?_
                          rotate_left
                          · intro w hSw
                            go_simp
                            (try with_reducible rfl)
                          (try simp only [Act.put, List.setIfInBounds_toArray, List.set_cons_zero, List.set_cons_succ])
                          refine tk (v := ?_) 14 ?_ ?_
                          rotate_left
                          · intro w hSw
                            go_simp
                            (try with_reducible rfl)
                          (try simp only [Act.put, List.setIfInBounds_toArray, List.set_cons_zero, List.set_cons_succ])
                          refine tk (v := ?_) 15 ?_ ?_
                          rotate_left
                          · intro w hSw
                            obtain ⟨a0, a1, a2, a3, a4, a5⟩ := hSw.2.2.c6
                            go_simp
                            (try with_reducible rfl)
                          (try simp only [Act.put, List.setIfInBounds_toArray, List.set_cons_zero, List.set_cons_succ])
                          refine tk (v := ?_) 16 ?_ ?_
                          rotate_left
                          · intro w hSw
                            go_simp
                            (try with_reducible rfl)
                          (try simp only [Act.put, List.setIfInBounds_toArray, List.set_cons_zero, List.set_cons_succ])
                          refine wpAnyH_ready (rs := [11]) (by kernel_rfl) (by simp) ?_
                          refine anyH_one rfl (fun K hK => ?_) ?_
                          · go_simp
                            refine (lenP_any (H17.out.the 0 rfl) 4).mono ?_
                            rw [HLN4.out]
                            rintro e w18 ⟨rfl, hb⟩
                            have H18 := Lib.hid (H17.out.quiet hb)
                            clear hb H17
                            refine hK.out _ _ (⟨H18.out.at_ 1 rfl, H18.out.at_ 0 rfl, H18.out.at_ 2 rfl⟩) (fun hHeld => ?_)
                            clear hK K
                            (try simp only [Act.put, List.setIfInBounds_toArray, List.set_cons_zero, List.set_cons_succ])
                            refine tk (v := ?_) 17 ?_ ?_
                            rotate_left
                            · intro w hSw
                              go_simp
                              (try with_reducible rfl)
                            (try simp only [Act.put, List.setIfInBounds_toArray, List.set_cons_zero, List.set_cons_succ])
                            refine tk (v := ?_) 18 ?_ ?_
                            rotate_left
                            · intro w hSw
                              go_simp
                              (try with_reducible rfl)
                            (try simp only [Act.put, List.setIfInBounds_toArray, List.set_cons_zero, List.set_cons_succ])
                            refine tk (v := ?_) 19 ?_ ?_
                            rotate_left
                            · intro w hSw
                              go_simp
                              (try with_reducible rfl)
                            (try simp only [Act.put, List.setIfInBounds_toArray, List.set_cons_zero, List.set_cons_succ])
                            refine tk (v := ?_) 20 ?_ ?_
                            rotate_left
                            · intro w hSw
                              go_simp
                              (try with_reducible rfl)
                            (try simp only [Act.put, List.setIfInBounds_toArray, List.set_cons_zero, List.set_cons_succ])
                            refine tk (v := ?_) 22 ?_ ?_
                            rotate_left
                            · intro w hSw
                              go_simp
                              (try with_reducible rfl)
                            (try simp only [Act.put, List.setIfInBounds_toArray, List.set_cons_zero, List.set_cons_succ])
                            refine tk (v := ?_) 23 ?_ ?_
                            rotate_left
                            · intro w hSw
                              go_simp
                              (try with_reducible rfl)
                            (try simp only [Act.put, List.setIfInBounds_toArray, List.set_cons_zero, List.set_cons_succ])
                            refine tk (v := ?_) 24 ?_ ?_
                            rotate_left
                            · intro w hSw
                              go_simp
                              (try with_reducible rfl)
                            (try simp only [Act.put, List.setIfInBounds_toArray, List.set_cons_zero, List.set_cons_succ])
                            refine tk (v := ?_) 25 ?_ ?_
                            rotate_left
                            · intro w hSw
                              obtain ⟨a0, a1, a2, a3, a4, a5⟩ := hSw.2.2.c6
                              go_simp
                              (try with_reducible rfl)
                            (try simp only [Act.put, List.setIfInBounds_toArray, List.set_cons_zero, List.set_cons_succ])
                            refine tk (v := ?_) 26 ?_ ?_
                            rotate_left
                            · intro w hSw
                              go_simp
                              (try with_reducible rfl)
                            (try simp only [Act.put, List.setIfInBounds_toArray, List.set_cons_zero, List.set_cons_succ])
                            refine wpAnyH_ready (rs := [21]) (by kernel_rfl) (by simp) ?_
                            refine anyH_one rfl (fun K hK => ?_) ?_
                            · go_simp
                              refine (lenP_any (H18.out.the 0 rfl) 3).mono ?_
                              rw [HLN3.out]
                              rintro e w19 ⟨rfl, hb⟩
                              have H19 := Lib.hid (H18.out.quiet hb)
                              clear hb H18
                              refine hK.out _ _ (⟨H19.out.at_ 1 rfl, H19.out.at_ 0 rfl, H19.out.at_ 2 rfl⟩) (fun hHeld => ?_)
                              clear hK K
                              (try simp only [Act.put, List.setIfInBounds_toArray, List.set_cons_zero, List.set_cons_succ])
                              refine tk (v := ?_) 27 ?_ ?_
                              rotate_left
                              · intro w hSw
                                go_simp
                                (try with_reducible rfl)
                              (try simp only [Act.put, List.setIfInBounds_toArray, List.set_cons_zero, List.set_cons_succ])
                              refine tk (v := ?_) 28 ?_ ?_
                              rotate_left
                              · intro w hSw
                                go_simp
                                (try with_reducible rfl)
                              (try simp only [Act.put, List.setIfInBounds_toArray, List.set_cons_zero, List.set_cons_succ])
                              refine tk (v := ?_) 29 ?_ ?_
                              rotate_left
                              · intro w hSw
                                go_simp
                                (try with_reducible rfl)
                              (try simp only [Act.put, List.setIfInBounds_toArray, List.set_cons_zero, List.set_cons_succ])
                              refine tk (v := ?_) 30 ?_ ?_
                              rotate_left
                              · intro w hSw
                                go_simp
                                (try with_reducible rfl)
                              (try simp only [Act.put, List.setIfInBounds_toArray, List.set_cons_zero, List.set_cons_succ])
                              refine tk (v := ?_) 32 ?_ ?_
                              rotate_left
                              · intro w hSw
                                go_simp
                                (try with_reducible rfl)
                              (try simp only [Act.put, List.setIfInBounds_toArray, List.set_cons_zero, List.set_cons_succ])
                              refine tk (v := ?_) 33 ?_ ?_
                              rotate_left
                              · intro w hSw
                                go_simp
                                (try with_reducible rfl)
                              (try simp only [Act.put, List.setIfInBounds_toArray, List.set_cons_zero, List.set_cons_succ])
                              refine tk (v := ?_) 34 ?_ ?_
                              rotate_left
                              · intro w hSw
                                go_simp
                                (try with_reducible rfl)
                              (try simp only [Act.put, List.setIfInBounds_toArray, List.set_cons_zero, List.set_cons_succ])
                              refine tk (v := ?_) 35 ?_ ?_
                              rotate_left
                              · intro w hSw
                                obtain ⟨a0, a1, a2, a3, a4, a5⟩ := hSw.2.2.c6
                                go_simp
                                (try with_reducible rfl)
                              (try simp only [Act.put, List.setIfInBounds_toArray, List.set_cons_zero, List.set_cons_succ])
                              refine tk (v := ?_) 36 ?_ ?_
                              rotate_left
                              · intro w hSw
                                go_simp
                                (try with_reducible rfl)
                              (try simp only [Act.put, List.setIfInBounds_toArray, List.set_cons_zero, List.set_cons_succ])
                              refine wpAnyH_ready (rs := [31]) (by kernel_rfl) (by simp) ?_
                              refine anyH_one rfl (fun K hK => ?_) ?_
                              · go_simp
                                refine (lenP_any (H19.out.the 0 rfl) 2).mono ?_
                                rw [HLN2.out]
                                rintro e w20 ⟨rfl, hb⟩
                                have H20 := Lib.hid (H19.out.quiet hb)
                                clear hb H19
                                refine hK.out _ _ (⟨H20.out.at_ 1 rfl, H20.out.at_ 0 rfl, H20.out.at_ 2 rfl⟩) (fun hHeld => ?_)
                                clear hK K
                                (try simp only [Act.put, List.setIfInBounds_toArray, List.set_cons_zero, List.set_cons_succ])
                                refine tk (v := ?_) 37 ?_ ?_
                                rotate_left
                                · intro w hSw
                                  go_simp
                                  (try with_reducible rfl)
                                (try simp only [Act.put, List.setIfInBounds_toArray, List.set_cons_zero, List.set_cons_succ])
                                refine tk (v := ?_) 38 ?_ ?_
                                rotate_left
                                · intro w hSw
                                  go_simp
                                  (try with_reducible rfl)
                                (try simp only [Act.put, List.setIfInBounds_toArray, List.set_cons_zero, List.set_cons_succ])
                                refine wpAnyH_done (by kernel_rfl) ?_ _
                                clear hHeld
                                have HN9 := Lib.hid (H20.out.pick [2] [0, 1, 2])
                                clear H20
                                go_wp2
                                go_roundw
                                case rel => exact ⟨k + 1, _, Z0, z0, y0, Z1, z1, y1, Z2, z2, y2, by omega, by go_num, by rw [HNX2.out]; exact HN9⟩
                                case measure => simp [intOf]; omega
                              exact AllReadyH.nil
                            exact AllReadyH.nil
                          exact AllReadyH.nil
                        exact AllReadyH.nil
                      exact AllReadyH.nil
                    exact AllReadyH.nil
                  exact AllReadyH.nil
                exact AllReadyH.nil
              exact AllReadyH.nil
            exact AllReadyH.nil
          exact AllReadyH.nil
        exact AllReadyH.nil
      exact AllReadyH.nil
    · have e : k = mn := by omega
      subst e
      by_cases h2 : k < ds.length
      · have h3 : decide ((k : Int) < 80) = false := by
          have := HM2.out
          exact decide_eq_false (by omega)
        go_wp2_with (go_at_call 16; first | (refine (lenP_any (HL.out.the 0 rfl) 1).mono ?_; rw [(len_out _).1]; rintro e w20 ⟨rfl, hb⟩; have H20 := Lib.hid (HL.out.quiet hb); clear hb HL) | (refine (lenP_any (H20.out.the 0 rfl) 5).mono ?_; rw [(len_out _).2]; rintro e w21 ⟨rfl, hb⟩; have H21 := Lib.hid (H20.out.quiet hb); clear hb H20))
        go_ret
        exact ⟨rfl, H21.out.below0⟩
      · skip
        go_wp2_with (go_at_call 16; first | (refine (lenP_any (HL.out.the 0 rfl) 1).mono ?_; rw [(len_out _).1]; rintro e w20 ⟨rfl, hb⟩; have H20 := Lib.hid (HL.out.quiet hb); clear hb HL) | (refine (lenP_any (H20.out.the 0 rfl) 5).mono ?_; rw [(len_out _).2]; rintro e w21 ⟨rfl, hb⟩; have H21 := Lib.hid (H20.out.quiet hb); clear hb H20))
        go_ret
        exact ⟨rfl, H21.out.below0⟩
end Go.Proofs.YtiihhlmddmicjaaDoor
/- A slice of puts that came in. -/
namespace Go.Proofs.YtiihhlmddmicjaaDoor
set_option linter.unusedVariables false
set_option linter.unusedSimpArgs false
open Go.ChangeShapes Go.WideShapes Go.ChangeAt Go.RowKit Go.Joins

section
variable {H : Type} {enc : TypeId × Value → H} {w : World} {base : Nat} {spare : Nat → Bool} {held : Bool}

end

end Go.Proofs.YtiihhlmddmicjaaDoor
/- A path, by value, as an argument: its steps lie in a slice of any length. -/
namespace Go.Proofs.YtiihhlmddmicjaaDoor
set_option linter.unusedVariables false
set_option linter.unusedSimpArgs false
open Go.ChangeShapes Go.WideShapes Go.ChangeAt Go.RowKit Go.Joins

theorem list5p {α : Type} {zs : List α} (h : zs.length = 5) : ∃ a b c d e, zs = [a, b, c, d, e] := by
  match zs, h with
  | [a, b, c, d, e], _ => exact ⟨a, b, c, d, e, rfl⟩
theorem list7p {α : Type} {zs : List α} (h : zs.length = 7) : ∃ a b c d e f g, zs = [a, b, c, d, e, f, g] := by
  match zs, h with
  | [a, b, c, d, e, f, g], _ => exact ⟨a, b, c, d, e, f, g, rfl⟩
theorem list3p {α : Type} {zs : List α} (h : zs.length = 3) : ∃ a b c, zs = [a, b, c] := by
  match zs, h with
  | [a, b, c], _ => exact ⟨a, b, c, rfl⟩

section
variable {H : Type} {enc : TypeId × Value → H} {w : World} {base : Nat} {spare : Nat → Bool} {held : Bool}

theorem cp_step : Tryd.prog.cellsOf 65 = 3 := by kernel_rfl
theorem cp_bool : Tryd.prog.cellsOf 4 = 1 := by kernel_rfl
theorem cp_int : Tryd.prog.cellsOf 3 = 1 := by kernel_rfl
theorem cp_u64 : Tryd.prog.cellsOf 34 = 1 := by kernel_rfl
theorem cp_steps : Tryd.prog.cellsOf 35 = 1 := by kernel_rfl
theorem cp_right : Tryd.prog.cellsOf 37 = 3 := by kernel_rfl
theorem cp_path : Tryd.prog.cellsOf 39 = 7 := by kernel_rfl
theorem by_step : Tryd.prog.bytesOf 65 = 24 := by kernel_rfl

set_option maxRecDepth 100000 in
theorem open_step {n : Nat} {cs : List Value} {x : DataW H × List MemPlace} (h : DataW.trod enc Tryd.prog w base spare held n 65 cs = some x) :
    ∃ y : Int × Int × Int, cs = [.int .i64 y.1, .int .u64 y.2.1, .int .u64 y.2.2] ∧ W64 y.2.2 := by
  obtain ⟨xs, m, _, _, hl, hxl, hel⟩ := DataW.trod_struct Tryd.underlying65 h
  rw [cp_step] at hl
  obtain ⟨a, b, c, rfl⟩ := list3p hl
  obtain ⟨y0, y1, y2, rfl⟩ := list3p (zs := xs) (by simpa using hxl)
  have e0 := hel 0 _ rfl
  have e1 := hel 1 _ rfl
  have e2 := hel 2 _ rfl
  simp [cp_int, cp_u64] at e0 e1 e2
  obtain ⟨k, h0, _, w0⟩ := DataW.trod_int Tryd.underlying3 e0
  obtain ⟨p, h1, _, w1⟩ := DataW.trod_int Tryd.underlying34 e1
  obtain ⟨q, h2, _, w2⟩ := DataW.trod_int Tryd.underlying34 e2
  simp at h0 h1 h2
  subst h0 h1 h2
  exact ⟨(k, p, q), rfl, w64_of w2⟩

set_option maxRecDepth 100000 in
theorem open_steps {n : Nat} {cs : List Value} {x : DataW H × List MemPlace} (h : DataW.trod enc Tryd.prog w base spare held n 35 cs = some x) :
    ∃ A S c, cs = [.slice A S.length c] ∧ StepsIn w (.slice A S.length c) S ∧ (∀ k, k < S.length → W64 (stepAt S k).2.2) ∧ ((∀ m ∈ x.1.weights Tryd.prog 35, m ≤ reachBytes) → S.length * 24 ≤ 140737488351232) := by
  rcases Deep.open_slice Tryd.underlying35 h with ⟨hcs, _⟩ | ⟨ad, len', cap', m, n, D, Pl, hcs, _, hl, hm, hmm, hx, hel⟩
  · exact ⟨none, [], 0, hcs, ⟨none, 0, rfl, fun k hk => absurd hk (by simp)⟩, fun k hk => absurd hk (by simp), fun _ => by simp⟩
  · rw [cp_step] at hel
    have hle : len' ≤ m := by rw [hmm]; split <;> omega
    obtain ⟨g, hg⟩ := Deep.choose_lt (α := Int × Int × Int) (n := len') (p := fun k y => (w.cell? (ad.add (k * 3)) = some (.int .i64 y.1) ∧ w.cell? ((ad.add (k * 3)).add 1) = some (.int .u64 y.2.1) ∧ w.cell? ((ad.add (k * 3)).add 2) = some (.int .u64 y.2.2)) ∧ W64 y.2.2) (fun k hk => by
      obtain ⟨cs', h1, h2⟩ := hel k (by omega)
      obtain ⟨y, rfl, w1⟩ := open_step h2
      obtain ⟨_, _, hc⟩ := World.cells?_some h1
      exact ⟨y, ⟨by simpa [Addr.add] using hc 0 (by omega), hc 1 (by omega), hc 2 (by omega)⟩, w1⟩)
    have hget : ∀ k, k < len' → ((List.range len').map g).getD k (0, 0, 0) = g k := fun k hk => by simp [List.getD, hk]
    refine ⟨some ad, (List.range len').map g, cap', by simpa using hcs, ⟨some ad, cap', by simp, fun k hk => ⟨ad, rfl, ?_⟩⟩, fun k hk => ?_, fun hw => ?_⟩
    · have hk' : k < len' := by simpa using hk
      rw [hget k hk']; exact (hg k hk').1
    · have hk' : k < len' := by simpa using hk
      show W64 (((List.range len').map g).getD k (0, 0, 0)).2.2
      rw [hget k hk']; exact (hg k hk').2
    · have := hw (((List.range len').length + (List.range (m - len')).length) * 24) (by rw [hx]; simp [DataW.weights, Tryd.underlying35, by_step])
      simp [reachBytes] at this ⊢
      omega

end

theorem weights_of {H : Type} {ts : List TypeId} {ds : List (DataW H)} (h : (DataW.weightsEach Tryd.prog ts ds).all (· ≤ reachBytes) = true) {j : Nat} {t : TypeId} {d : DataW H} (ht : ts[j]? = some t) (hd : ds[j]? = some d) : ∀ m ∈ d.weights Tryd.prog t, m ≤ reachBytes := fun m hm => by
  simpa using List.all_eq_true.1 h _ (DataW.weights_mem_each ht hd m hm)
end Go.Proofs.YtiihhlmddmicjaaDoor
