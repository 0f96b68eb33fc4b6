/- Several texts of ours in one: L10p, Oz, L10r. -/
import Derived.Test.YtefllfoilkbboaaGCxCyCz
import Derived.Test.YtefllfoilkbboaaGL10eL10uL10d
import Derived.Deep.CutRange
import Derived.Deep.DrawnRows
import Derived.BigQuiet
import Derived.Test.YtefllfoilkbboaaGCuCvCw
import Derived.Test.YtefllfoilkbboaaGEmVaFr
import Derived.Deep.Slices
import Derived.Deep.Strs
import Derived.Deep.FieldsWide
import Derived.ProofKit
import Derived.OpenShut
import Derived.ChangeArms
/- The walk of CachePlays. -/
namespace Go.Proofs.Ytefllfoilkbboaa
set_option linter.unusedVariables false
set_option linter.unusedSimpArgs false
open Go.ChangeShapes Go.WideShapes Go.ChangeAt Go.RowKit Go.Joins

theorem neqR (p q t : Int) (w : World) : (binOp .neq 45 (.agg #[.int .i64 p, .int .i64 q, .int .u64 t]) (.agg #[.int .i64 p, .int .i64 q, .int .u64 t])).run Try.prog w = .ok (.bool false) w := by
  have hs : Try.prog.stoodInHeld 45 = false := by kernel_rfl
  simp only [binOp]
  simp [Op.equal, Op.maxDepth, run_equalIn_struct w 9999 45 _ _ (by simp [Program.fieldsOf, Try.underlying45]) hs, Program.fieldsOf, Try.underlying45, Op.eqFields, go_sem]
theorem neqRL (f1 m1 : Int) (y1 y2 y3 y4 : Bool) (w : World) : (binOp .neq 49 (.agg #[.int .u64 f1, .bool y1, .bool y2, .bool y3, .bool y4, .int .u8 m1]) (.agg #[.int .u64 f1, .bool y1, .bool y2, .bool y3, .bool y4, .int .u8 m1])).run Try.prog w = .ok (.bool false) w := by
  have hs : Try.prog.stoodInHeld 49 = false := by kernel_rfl
  have hs2 : Try.prog.stoodInHeld 47 = false := by kernel_rfl
  simp only [binOp]
  simp [Op.equal, Op.maxDepth, run_equalIn_struct w 9999 49 _ _ (by simp [Program.fieldsOf, Try.underlying49]) hs, Program.fieldsOf, Try.underlying49, Op.eqFields, go_sem]
theorem pairAt2 {w : World} {g n cap k nn : Nat} {M : List Pr} {p q t f m : Int} {x1 x2 x3 x4 : Bool} (h : w.ownsRow 0 51 9 (.slice (some ⟨g, 0, none⟩) n cap) nn (pcs M)) (hn : M.length = n) (hk : k < n) (he : M.getD k zP = ((p, q, t), (f, x1, x2, x3, x4, m))) (hnn : nn = M.length := by rfl) : PairAt w g (k * 9) p q t f x1 x2 x3 x4 m := by
  subst hnn
  obtain ⟨g', cap', hv, h1, _⟩ := PairsOwn.at_ (B := 0) (v := .slice (some ⟨g, 0, none⟩) n cap) h (k := k) (by rw [hn]; exact hk) he
  simp only [Value.slice.injEq, Option.some.injEq, Addr.mk.injEq] at hv
  obtain ⟨⟨rfl, _⟩, _⟩ := hv
  exact h1
theorem getK_own {L : List Pr} (hn : (keysK L).Nodup) {j : Nat} (hj : j < L.length) {k : Ky} {l : Ln} (he : L.getD j zP = (k, l)) : getK L k = some l := by
  rw [getK_iff hn, ← he, List.getD, List.getElem?_eq_getElem hj]
  exact List.getElem_mem _

set_option maxRecDepth 100000 in
set_option maxHeartbeats 8000000 in
theorem cachePlays_walk (A : Option Addr) (cp : Nat) (ds : List Dd) (a : Int) (w : World) (hl : ds.length ≤ maxLen) (hd : DeedsC w A ds) (hok : DeedsOkC ds) :
    Calls Try.prog 3 #[.int .i64 a, .slice A ds.length cp] w fun e w' => e = .returned (.bool true) ∧ Below w.heap.size w w' := by
  unfold maxLen at hl
  have HD := Lib.hid hd
  have HOK := Lib.hid hok
  obtain ⟨R, hR⟩ : ∃ R, roomF a = R := ⟨_, rfl⟩
  have hR64 : R ≤ 64 := by rw [← hR]; exact roomF_le a
  have HF := Lib.hid hR
  obtain ⟨N, hN⟩ : ∃ N, ds.length = N := ⟨_, rfl⟩
  have HN := Lib.hid hN
  rw [hN] at hl ⊢
  have hm : manyC ds ≤ 120 ∧ manyC ds ≤ N ∧ (manyC ds = 120 ∨ manyC ds = N) := by unfold manyC; omega
  obtain ⟨mn, hmn⟩ : ∃ m, manyC ds = m := ⟨_, rfl⟩
  rw [hmn] at hm
  obtain ⟨hm0, hm1, hm2⟩ := hm
  have M0 := Lib.hid (Mine.start w)
  clear hd hok hN hmn hR
  go_enter Try.func3, Try.ntmps3
  go_upto_region 6 with (first | (go_at_call 9; refine (awake10_any _).mono ?_; rintro e w1 ⟨rfl, hb0⟩; have M1 := Lib.hid (M0.out.quiet hb0); clear hb0 M0) | (go_at_call 10; refine (newC_any _ _).mono ?_; rw [HF.out]; rintro e w2 ⟨rfl, hc1, hb1⟩; have H1 := Lib.hid (LawC.first M1.out hc1 hb1); clear hc1 hb1 M1) | (go_at_call 11; refine (rnewC_any _ _).mono ?_; rw [HF.out]; rintro e w3 ⟨rfl, hb2⟩; have H2 := Lib.hid (H1.out.quiet hb2); clear hb2 H1))
  obtain ⟨c, hc⟩ : ∃ c, w1.heap.size + 1 = c := ⟨_, rfl⟩
  rw [hc] at H2 ⊢
  generalize hw3 : w3.alloc _ = w4
  have H3 := Lib.hid (((H2.out.new (b := w3.heap.size) rfl #[.slice none 0 0, .int .i64 R] 28).got (PairsOwn.nil _ 0) (by simp [Value.ownBlock])).world hw3)
  clear hc hw3 H2 HF
  generalize w3.heap.size = bx at *
  go_wp2
  go_loopw [8] (fun i wr => ∃ (k nx : Nat) (Ax : Option Addr) (cx : Nat) (G : Nat → Prop), k ≤ mn ∧ i = .int .i64 k ∧ Hid (LawC w wr (From w.heap.size) c R (playC R ds k) G [⟨bx, #[.slice Ax nx cx, .int .i64 R], 28⟩] [⟨51, 9, .slice Ax nx cx, (playC R ds k).length, pcs (playC R ds k)⟩])) (fun i _ => (120 - intOf i).toNat)
  case atStart => exact ⟨0, 0, none, 0, _, by omega, rfl, H3⟩
  case round =>
    obtain ⟨k, nx, Ax, cx, G, hk, rfl, HL⟩ := hrel
    clear H3
    by_cases hlt : k < mn
    · have hlt2 := hlt
      have hks0 : k < N := by omega
      have h120 : (k : Int) < 120 := by omega
      have hks : k < ds.length := by rw [HN.out]; exact hks0
      obtain ⟨⟨kd, pk, ⟨p, q, t⟩, ⟨f, x1, x2, x3, x4, m⟩⟩, hkk⟩ : ∃ y : Dd, ds.getD k zD = y := ⟨_, rfl⟩
      have hk2 := HOK.out k hks
      rw [hkk] at hk2
      have HKK := Lib.hid hkk
      obtain ⟨L1, hL1⟩ : ∃ L1, playC R ds (k + 1) = L1 := ⟨_, rfl⟩
      obtain ⟨n2, hn2⟩ : ∃ n2, L1.length = n2 := ⟨_, rfl⟩
      obtain ⟨ans, hans⟩ : ∃ b, doA (playC R ds k) (playC R ds k) kd (p, q, t) = b := ⟨_, rfl⟩
      have HDO : Hid (∀ (w1 : World) (G : Nat → Prop), Cac w1 G c R (playC R ds k) → PairsOwn w1 0 (.slice Ax nx cx) (playC R ds k) → (∀ i, (Value.slice Ax nx cx).ownBlock = some i → ¬ G i) →
          Calls Try.prog 12 #[.pointer (some ⟨c, 0, none⟩), .agg #[.slice Ax nx cx, .int .i64 R], .agg #[.int .i64 kd, .int .i64 pk, .int .i64 p, .int .i64 q, .int .u64 t, .int .u64 f, .bool x1, .bool x2, .bool x3, .bool x4, .int .u8 m]] w1 fun e w' => ∃ A2 d2, e = .returned (.tuple #[.agg #[.slice A2 n2 d2, .int .i64 R], .bool ans]) ∧ DoE w1 w' G c R L1 (.slice A2 n2 d2) L1) := Lib.hid fun w1 G hc hx hoff => by
        have h9 := do_any hc hx hoff (Nat.le_trans (playC_len R ds k) (by omega)) R kd pk p q t f m x1 x2 x3 x4 hk2.1 hk2.2
        rw [playC_step hkk, hL1, hn2, hans] at h9
        exact h9
      have HL1 := Lib.hid hL1
      have HN2 := Lib.hid hn2
      have HAN := Lib.hid hans
      clear hkk hk2 hL1 hn2 hans
      obtain ⟨ad, e', _⟩ := deedsC_at HD.out HL.out.below hks HKK.out
      subst e'
      go_upto_region 9 with fail
      go_cut [9, 10] from 22 to 96 (fun s9 s10 wc => ∃ (n9 : Nat) (A2 : Option Addr) (d2 : Nat) (G2 : Nat → Prop), s9 = .pointer (some ⟨n9, 0, none⟩) ∧ s10 = .bool ans ∧ Hid (LawC w wc (From w.heap.size) c R L1 G2 [⟨n9, #[.slice A2 n2 d2, .int .i64 R], 28⟩, ⟨bx, #[.slice Ax nx cx, .int .i64 R], 28⟩] [⟨51, 9, .slice A2 n2 d2, L1.length, pcs L1⟩]))
      case first =>
        refine wp_region_held_drew (S := fun w' => Below w.heap.size w w' ∧ Blk w' bx #[.slice Ax nx cx, .int .i64 R] 28) (by kernel_rfl) ⟨(HL.out.quiet (Kept.drew0 _)).below, (HL.out.quiet (Kept.drew0 _)).at_ 0 rfl⟩ (fun hHeld => ?_)
        have H0 := Lib.hid (HL.out.quiet (Kept.drew0 _))
        clear HL
        generalize wr.drew = v0 at *
        refine tk (v := ?_) 0 ?_ ?_
        rotate_left
        · intro w hSw
          go_simp
          (try with_reducible rfl)
        (try simp only [Act.put, List.setIfInBounds_toArray, List.set_cons_zero, List.set_cons_succ])
        refine tk (v := ?_) 1 ?_ ?_
        rotate_left
        · intro w hSw
          obtain ⟨a0, a1⟩ := hSw.2.c2
          go_simp
          (try with_reducible rfl)
        (try simp only [Act.put, List.setIfInBounds_toArray, List.set_cons_zero, List.set_cons_succ])
        refine tk (v := ?_) 2 ?_ ?_
        rotate_left
        · intro w hSw
          go_simp
          (try with_reducible rfl)
        (try simp only [Act.put, List.setIfInBounds_toArray, List.set_cons_zero, List.set_cons_succ])
        refine tk (v := ?_) 3 ?_ ?_
        rotate_left
        · intro w hSw
          go_simp
          (try with_reducible rfl)
        (try simp only [Act.put, List.setIfInBounds_toArray, List.set_cons_zero, List.set_cons_succ])
        refine tk (v := ?_) 4 ?_ ?_
        rotate_left
        · intro w hSw
          go_simp
          (try with_reducible rfl)
        (try simp only [Act.put, List.setIfInBounds_toArray, List.set_cons_zero, List.set_cons_succ])
        refine tk (v := ?_) 5 ?_ ?_
        rotate_left
        · intro w hSw
          obtain ⟨ad', e', hd⟩ := deedsC_at HD.out hSw.1 hks HKK.out
          obtain rfl : ad = ad' := Option.some.inj e'
          have c0 := hd.c0
          obtain ⟨c1, c2, c3, c4, c5, c6, c7, c8, c9, c10⟩ := hd.c1
          go_simp
          (try with_reducible rfl)
        (try simp only [Act.put, List.setIfInBounds_toArray, List.set_cons_zero, List.set_cons_succ])
        refine wpAnyH_ready (rs := [6, 10]) (by kernel_rfl) (by simp) ?_
        refine anyH_one rfl (fun K hK => ?_) ?_
        · go_simp
          refine (HDO.out _ _ H0.out.wk.cac (H0.out.of_ 0 rfl) (H0.out.off 0 rfl)).mono ?_
          rintro e v1 ⟨A2, d2, rfl, hE⟩
          obtain ⟨G1, hH⟩ := H0.out.didDo hE
          have H1 := Lib.hid hH
          clear hE hH H0
          refine hK.out _ _ (⟨H1.out.below, H1.out.at_ 0 rfl⟩) (fun hHeld => ?_)
          clear hK K
          (try simp only [Act.put, List.setIfInBounds_toArray, List.set_cons_zero, List.set_cons_succ])
          refine tk (v := ?_) 7 ?_ ?_
          rotate_left
          · intro w hSw
            go_simp
            (try with_reducible rfl)
          (try simp only [Act.put, List.setIfInBounds_toArray, List.set_cons_zero, List.set_cons_succ])
          refine tk (v := ?_) 8 ?_ ?_
          rotate_left
          · intro w hSw
            go_simp
            (try with_reducible rfl)
          (try simp only [Act.put, List.setIfInBounds_toArray, List.set_cons_zero, List.set_cons_succ])
          refine tk (v := ?_) 9 ?_ ?_
          rotate_left
          · intro w hSw
            go_simp
            (try with_reducible rfl)
          (try simp only [Act.put, List.setIfInBounds_toArray, List.set_cons_zero, List.set_cons_succ])
          refine wpAnyH_ready (rs := [10]) (by kernel_rfl) (by simp) ?_
          refine anyH_one rfl (fun K hK => ?_) ?_
          · go_simp
            generalize hq : v1.alloc _ = v2
            have H2 := Lib.hid ((H1.out.new (b := v1.heap.size) rfl _ _).world hq)
            clear hq H1
            generalize v1.heap.size = n9 at H2 ⊢
            refine hK.out _ _ (⟨H2.out.below, H2.out.at_ 1 rfl⟩) (fun hHeld => ?_)
            clear hK K
            (try simp only [Act.put, List.setIfInBounds_toArray, List.set_cons_zero, List.set_cons_succ])
            refine wpAnyH_ready (rs := [11]) (by kernel_rfl) (by simp) ?_
            refine anyH_one rfl (fun K hK => ?_) ?_
            · obtain ⟨r0, r1⟩ := (H2.out.at_ 0 rfl).c2
              have s0 := (H2.out.at_ 0 rfl).fz 0; have s1 := (H2.out.at_ 0 rfl).fz 1
              go_simp
              generalize hq : (v2.setCell _ _).setCell _ _ = v3
              have H3 := Lib.hid ((H2.out.put 0 rfl (turnB2 _ _ _ _) (setB2 (H2.out.at_ 0 rfl) _ _) (by rfl)).world hq)
              clear hq H2 r0 r1 s0 s1
              refine hK.out _ _ (⟨H3.out.below, H3.out.at_ 1 rfl⟩) (fun hHeld => ?_)
              clear hK K
              (try simp only [Act.put, List.setIfInBounds_toArray, List.set_cons_zero, List.set_cons_succ])
              refine tk (v := ?_) 12 ?_ ?_
              rotate_left
              · intro w hSw
                go_simp
                (try with_reducible rfl)
              (try simp only [Act.put, List.setIfInBounds_toArray, List.set_cons_zero, List.set_cons_succ])
              refine wpAnyH_done (by kernel_rfl) ?_ _
              go_wp2
              go_meet
              case rel => exact ⟨n9, A2, d2, G1, rfl, rfl, H3⟩
            exact AllReadyH.nil
          exact AllReadyH.nil
        refine anyH_one rfl (fun K hK => ?_) ?_
        · go_simp
          generalize hq : v0.alloc _ = v1
          have H1 := Lib.hid ((H0.out.new (b := v0.heap.size) rfl _ _).world hq)
          clear hq H0
          generalize v0.heap.size = n9 at H1 ⊢
          refine hK.out _ _ (⟨H1.out.below, H1.out.at_ 1 rfl⟩) (fun hHeld => ?_)
          clear hK K
          (try simp only [Act.put, List.setIfInBounds_toArray, List.set_cons_zero, List.set_cons_succ])
          refine wpAnyH_ready (rs := [6]) (by kernel_rfl) (by simp) ?_
          refine anyH_one rfl (fun K hK => ?_) ?_
          · go_simp
            refine (HDO.out _ _ H1.out.wk.cac (H1.out.of_ 0 rfl) (H1.out.off 0 rfl)).mono ?_
            rintro e v2 ⟨A2, d2, rfl, hE⟩
            obtain ⟨G2, hH⟩ := H1.out.didDo hE
            have H2 := Lib.hid hH
            clear hE hH H1
            refine hK.out _ _ (⟨H2.out.below, H2.out.at_ 1 rfl⟩) (fun hHeld => ?_)
            clear hK K
            (try simp only [Act.put, List.setIfInBounds_toArray, List.set_cons_zero, List.set_cons_succ])
            refine tk (v := ?_) 7 ?_ ?_
            rotate_left
            · intro w hSw
              go_simp
              (try with_reducible rfl)
            (try simp only [Act.put, List.setIfInBounds_toArray, List.set_cons_zero, List.set_cons_succ])
            refine tk (v := ?_) 8 ?_ ?_
            rotate_left
            · intro w hSw
              go_simp
              (try with_reducible rfl)
            (try simp only [Act.put, List.setIfInBounds_toArray, List.set_cons_zero, List.set_cons_succ])
            refine tk (v := ?_) 9 ?_ ?_
            rotate_left
            · intro w hSw
              go_simp
              (try with_reducible rfl)
            (try simp only [Act.put, List.setIfInBounds_toArray, List.set_cons_zero, List.set_cons_succ])
            refine wpAnyH_ready (rs := [11]) (by kernel_rfl) (by simp) ?_
            refine anyH_one rfl (fun K hK => ?_) ?_
            · obtain ⟨r0, r1⟩ := (H2.out.at_ 0 rfl).c2
              have s0 := (H2.out.at_ 0 rfl).fz 0; have s1 := (H2.out.at_ 0 rfl).fz 1
              go_simp
              generalize hq : (v2.setCell _ _).setCell _ _ = v3
              have H3 := Lib.hid ((H2.out.put 0 rfl (turnB2 _ _ _ _) (setB2 (H2.out.at_ 0 rfl) _ _) (by rfl)).world hq)
              clear hq H2 r0 r1 s0 s1
              refine hK.out _ _ (⟨H3.out.below, H3.out.at_ 1 rfl⟩) (fun hHeld => ?_)
              clear hK K
              (try simp only [Act.put, List.setIfInBounds_toArray, List.set_cons_zero, List.set_cons_succ])
              refine tk (v := ?_) 12 ?_ ?_
              rotate_left
              · intro w hSw
                go_simp
                (try with_reducible rfl)
              (try simp only [Act.put, List.setIfInBounds_toArray, List.set_cons_zero, List.set_cons_succ])
              refine wpAnyH_done (by kernel_rfl) ?_ _
              go_wp2
              go_meet
              case rel => exact ⟨n9, A2, d2, G2, rfl, rfl, H3⟩
            exact AllReadyH.nil
          exact AllReadyH.nil
        exact AllReadyH.nil
      case rest =>
        obtain ⟨n9, A2, d2, G2, rfl, rfl, HC⟩ := hcut
        obtain rfl : ans = true := by rw [← HAN.out, doA_same]
        obtain ⟨a0, a1⟩ := (HC.out.at_ 0 rfl).c2
        obtain ⟨b0, b1⟩ := (HC.out.at_ 1 rfl).c2
        have s0 := (HC.out.at_ 1 rfl).fz 0; have s1 := (HC.out.at_ 1 rfl).fz 1
        go_upto_region 11 with fail
        generalize hw9 : (wc.setCell _ _).setCell _ _ = w9
        have H9 := Lib.hid (((HC.out.put 1 rfl (turnB2 _ _ _ _) (setB2 (HC.out.at_ 1 rfl) _ _) (by rfl)).world hw9).pick [1] [0])
        clear hw9 a0 a1 b0 b1 s0 s1 HL HDO HC HAN
        go_upto_region 12 with (go_at_call 13; refine (keysC_any H9.out.wk.cac).mono ?_; rw [HN2.out]; rintro e w10 ⟨A5, c5, rfl, hk5, hb5⟩; have hk5' := hk5; unfold KeysOwn at hk5'; rw [keysK_len, HN2.out] at hk5'; have H5 := Lib.hid (H9.out.made hb5 hk5' (Nat.le_refl _)); clear hk5 hk5' hb5 H9)
        have HND := Lib.hid H5.out.wk.cac.nodup
        have hn2R := H5.out.wk.cac.len
        rw [HN2.out] at hn2R
        obtain ⟨b0, b1⟩ := (H5.out.at_ 0 rfl).c2
        go_upto_region 15 with fail
        clear b0 b1
        go_loopw [12] (fun i wr => ∃ (j : Nat), j ≤ n2 ∧ i = .int .i64 j ∧ Hid (LawC w wr (From w.heap.size) c R L1 G2 [⟨bx, #[.slice A2 n2 d2, .int .i64 R], 28⟩] [⟨34, 3, .slice A5 n2 c5, n2, kcs (keysK L1)⟩, ⟨51, 9, .slice A2 n2 d2, L1.length, pcs L1⟩])) (fun i _ => (n2 - intOf i).toNat)
        case atStart => exact ⟨0, by omega, rfl, H5⟩
        case round =>
          obtain ⟨j, hj, rfl, HR⟩ := hrel
          clear H5
          by_cases hjt : j < n2
          · obtain ⟨⟨⟨p1, q1, t1⟩, ⟨f1, y1, y2, y3, y4, m1⟩⟩, hkk⟩ : ∃ x : Pr, L1.getD j zP = x := ⟨_, rfl⟩
            have HPP := Lib.hid hkk
            have HKK1 : Hid ((keysK L1).getD j zK = (p1, q1, t1)) := Lib.hid (by rw [keysK_getD, hkk])
            have HJ : Hid (j < L1.length) := Lib.hid (by rw [HN2.out]; exact hjt)
            have HOK1 := Lib.hid (okK_at HR.out.wk.cac HJ.out)
            have HOWN := Lib.hid (getK_own HND.out HJ.out hkk)
            rw [hkk] at HOK1
            clear hkk
            obtain ⟨gk, cap, hv, hgk, k0, k1, k2⟩ := (keysOwn_row (HR.out.of_ 0 rfl) HN2.out).at_ (k := j) (by rw [keysK_len]; exact HJ.out) HKK1.out
            rw [keysK_len, HN2.out] at hv
            obtain ⟨rfl, rfl⟩ : A5 = some ⟨gk, 0, none⟩ ∧ c5 = cap := by simpa using hv
            clear hv
            obtain ⟨gp, cap, hv, _⟩ := PairsOwn.at_ (B := 0) (v := .slice A2 n2 d2) (HR.out.of_ 1 rfl) (k := j) HJ.out HPP.out
            rw [HN2.out] at hv
            obtain ⟨rfl, rfl⟩ : A2 = some ⟨gp, 0, none⟩ ∧ d2 = cap := by simpa using hv
            clear hv
            go_upto_region 18 with (go_at_call 14; refine (getC_any HR.out.wk.cac p1 q1 t1 f1 m1 y1 y2 y3 y4 HOK1.out (by rw [HOWN.out]; rfl) true (by rw [HOWN.out]; rfl)).mono ?_; rintro e w11 ⟨rfl, hb11⟩; have H6' := Lib.hid ((HR.out.quiet hb11).new (b := w11.heap.size) rfl #[.int .u64 f1, .bool y1, .bool y2, .bool y3, .bool y4, .int .u8 m1] 38); clear hb11 HR)
            generalize hw12 : w11.alloc _ = w12 at H6' ⊢
            have H6 := Lib.hid H6'.out
            clear hw12 H6' k0 k1 k2 hgk
            generalize w11.heap.size = bl at H6 ⊢
            have hq1 := neqR p1 q1 t1
            have hq2 := neqRL f1 m1 y1 y2 y3 y4
            refine wp_region_held_drew (S := fun w' => Below w12.heap.size w12 w') (by kernel_rfl) (Kept.drew0 _) (fun hHeld => ?_)
            refine tk (v := ?_) 0 ?_ ?_
            rotate_left
            · intro w hSw
              go_simp
              (try with_reducible rfl)
            (try simp only [Act.put, List.setIfInBounds_toArray, List.set_cons_zero, List.set_cons_succ])
            refine tk (v := ?_) 1 ?_ ?_
            rotate_left
            · intro w hSw
              go_simp
              (try with_reducible rfl)
            (try simp only [Act.put, List.setIfInBounds_toArray, List.set_cons_zero, List.set_cons_succ])
            refine tk (v := ?_) 2 ?_ ?_
            rotate_left
            · intro w hSw
              go_simp
              (try with_reducible rfl)
            (try simp only [Act.put, List.setIfInBounds_toArray, List.set_cons_zero, List.set_cons_succ])
            refine tk (v := ?_) 3 ?_ ?_
            rotate_left
            · intro w hSw
              obtain ⟨hgk, k0, k1, k2⟩ := keyAt ((H6.out.quiet hSw).of_ 0 rfl) HN2.out hjt HKK1.out
              go_simp
              (try with_reducible rfl)
            (try simp only [Act.put, List.setIfInBounds_toArray, List.set_cons_zero, List.set_cons_succ])
            refine tk (v := ?_) 5 ?_ ?_
            rotate_left
            · intro w hSw
              go_simp
              (try with_reducible rfl)
            (try simp only [Act.put, List.setIfInBounds_toArray, List.set_cons_zero, List.set_cons_succ])
            refine tk (v := ?_) 6 ?_ ?_
            rotate_left
            · intro w hSw
              obtain ⟨a0, a1⟩ := ((H6.out.quiet hSw).at_ 1 rfl).c2
              go_simp
              (try with_reducible rfl)
            (try simp only [Act.put, List.setIfInBounds_toArray, List.set_cons_zero, List.set_cons_succ])
            refine tk (v := ?_) 7 ?_ ?_
            rotate_left
            · intro w hSw
              go_simp
              (try with_reducible rfl)
            (try simp only [Act.put, List.setIfInBounds_toArray, List.set_cons_zero, List.set_cons_succ])
            refine tk (v := ?_) 8 ?_ ?_
            rotate_left
            · intro w hSw
              go_simp
              (try with_reducible rfl)
            (try simp only [Act.put, List.setIfInBounds_toArray, List.set_cons_zero, List.set_cons_succ])
            refine tk (v := ?_) 9 ?_ ?_
            rotate_left
            · intro w hSw
              go_simp
              (try with_reducible rfl)
            (try simp only [Act.put, List.setIfInBounds_toArray, List.set_cons_zero, List.set_cons_succ])
            refine tk (v := ?_) 10 ?_ ?_
            rotate_left
            · intro w hSw
              obtain ⟨⟨p0, p1, p2⟩, ⟨l0, l1, l2, l3, l4, l5⟩⟩ := pairAt2 ((H6.out.quiet hSw).of_ 1 rfl) HN2.out hjt HPP.out
              go_simp
              (try with_reducible rfl)
            (try simp only [Act.put, List.setIfInBounds_toArray, List.set_cons_zero, List.set_cons_succ])
            refine wpAnyH_ready (rs := [4]) (by kernel_rfl) (by simp) ?_
            refine anyH_one rfl (fun K hK => ?_) ?_
            · go_simp
              refine (realK_any p1 q1 t1 _).mono ?_
              rintro e v1 ⟨rfl, hB⟩
              refine hK.out _ _ (hHeld.trans (hB.mono hHeld.size)) (fun hHeld => ?_)
              clear hK K
              (try simp only [Act.put, List.setIfInBounds_toArray, List.set_cons_zero, List.set_cons_succ])
              clear hB
              refine tk (v := ?_) 11 ?_ ?_
              rotate_left
              · intro w hSw
                go_simp
                (try with_reducible rfl)
              (try simp only [Act.put, List.setIfInBounds_toArray, List.set_cons_zero, List.set_cons_succ])
              refine tk (v := ?_) 12 ?_ ?_
              rotate_left
              · intro w hSw
                go_simp
                (try with_reducible rfl)
              (try simp only [Act.put, List.setIfInBounds_toArray, List.set_cons_zero, List.set_cons_succ])
              refine tk (v := ?_) 13 ?_ ?_
              rotate_left
              · intro w hSw
                go_simp
                (try with_reducible rfl)
              (try simp only [Act.put, List.setIfInBounds_toArray, List.set_cons_zero, List.set_cons_succ])
              refine tk (v := ?_) 14 ?_ ?_
              rotate_left
              · intro w hSw
                go_simp
                (try with_reducible rfl)
              (try simp only [Act.put, List.setIfInBounds_toArray, List.set_cons_zero, List.set_cons_succ])
              refine tk (v := ?_) 15 ?_ ?_
              rotate_left
              · intro w hSw
                go_simp
                (try with_reducible rfl)
              (try simp only [Act.put, List.setIfInBounds_toArray, List.set_cons_zero, List.set_cons_succ])
              refine tk (v := ?_) 16 ?_ ?_
              rotate_left
              · intro w hSw
                go_simp
                (try with_reducible rfl)
              (try simp only [Act.put, List.setIfInBounds_toArray, List.set_cons_zero, List.set_cons_succ])
              refine tk (v := ?_) 17 ?_ ?_
              rotate_left
              · intro w hSw
                obtain ⟨b0, b1, b2, b3, b4, b5⟩ := ((H6.out.quiet hSw).at_ 0 rfl).c6
                go_simp
                (try with_reducible rfl)
              (try simp only [Act.put, List.setIfInBounds_toArray, List.set_cons_zero, List.set_cons_succ])
              refine tk (v := ?_) 19 ?_ ?_
              rotate_left
              · intro w hSw
                go_simp
                (try with_reducible rfl)
              (try simp only [Act.put, List.setIfInBounds_toArray, List.set_cons_zero, List.set_cons_succ])
              refine tk (v := ?_) 20 ?_ ?_
              rotate_left
              · intro w hSw
                obtain ⟨a0, a1⟩ := ((H6.out.quiet hSw).at_ 1 rfl).c2
                go_simp
                (try with_reducible rfl)
              (try simp only [Act.put, List.setIfInBounds_toArray, List.set_cons_zero, List.set_cons_succ])
              refine tk (v := ?_) 21 ?_ ?_
              rotate_left
              · intro w hSw
                go_simp
                (try with_reducible rfl)
              (try simp only [Act.put, List.setIfInBounds_toArray, List.set_cons_zero, List.set_cons_succ])
              refine tk (v := ?_) 22 ?_ ?_
              rotate_left
              · intro w hSw
                go_simp
                (try with_reducible rfl)
              (try simp only [Act.put, List.setIfInBounds_toArray, List.set_cons_zero, List.set_cons_succ])
              refine tk (v := ?_) 23 ?_ ?_
              rotate_left
              · intro w hSw
                go_simp
                (try with_reducible rfl)
              (try simp only [Act.put, List.setIfInBounds_toArray, List.set_cons_zero, List.set_cons_succ])
              refine tk (v := ?_) 24 ?_ ?_
              rotate_left
              · intro w hSw
                obtain ⟨⟨p0, p1, p2⟩, ⟨l0, l1, l2, l3, l4, l5⟩⟩ := pairAt2 ((H6.out.quiet hSw).of_ 1 rfl) HN2.out hjt HPP.out
                go_simp
                (try with_reducible rfl)
              (try simp only [Act.put, List.setIfInBounds_toArray, List.set_cons_zero, List.set_cons_succ])
              refine wpAnyH_ready (rs := [18]) (by kernel_rfl) (by simp) ?_
              refine anyH_one rfl (fun K hK => ?_) ?_
              · go_simp
                refine (linedL_any f1 m1 y1 y2 y3 y4 _).mono ?_
                rintro e v2 ⟨rfl, hB⟩
                refine hK.out _ _ (hHeld.trans (hB.mono hHeld.size)) (fun hHeld => ?_)
                clear hK K
                (try simp only [Act.put, List.setIfInBounds_toArray, List.set_cons_zero, List.set_cons_succ])
                clear hB
                refine tk (v := ?_) 25 ?_ ?_
                rotate_left
                · intro w hSw
                  go_simp
                  (try with_reducible rfl)
                (try simp only [Act.put, List.setIfInBounds_toArray, List.set_cons_zero, List.set_cons_succ])
                refine tk (v := ?_) 26 ?_ ?_
                rotate_left
                · intro w hSw
                  go_simp
                  (try with_reducible rfl)
                (try simp only [Act.put, List.setIfInBounds_toArray, List.set_cons_zero, List.set_cons_succ])
                refine wpAnyH_done (by kernel_rfl) ?_ _
                have H7 := Lib.hid ((H6.out.quiet hHeld).pick [1] [0, 1])
                clear hHeld H6
                go_wp2
                go_roundw
                case rel => exact ⟨j + 1, by omega, by go_num, H7⟩
                case measure => simp [intOf]; omega
              exact AllReadyH.nil
            exact AllReadyH.nil
          · obtain rfl : j = n2 := by omega
            go_wp2
            go_roundw
            case rel => exact ⟨k + 1, j, A2, d2, G2, by omega, by go_num, by rw [HL1.out]; exact HR.out.pick [0] [1]⟩
            case measure => simp [intOf]; omega
    · have e : k = mn := by omega
      obtain ⟨b0, b1⟩ := (HL.out.at_ 0 rfl).c2
      by_cases h120 : k < N
      · have hk120 : k = 120 := by omega
        subst hk120
        go_upto_region 20 with fail
        go_quiet (first | (go_at_call 17; exact quietOf (roomC_any (HL.out.quiet (below_drewN (Below.refl _ _) _)).wk.cac)))
        go_wp2
        go_ret
        exact ⟨rfl, (HL.out.quiet (below_drewN (Below.refl _ _) _)).below⟩
      · have hN : N ≤ k := by omega
        go_upto_region 20 with fail
        go_quiet (first | (go_at_call 17; exact quietOf (roomC_any (HL.out.quiet (below_drewN (Below.refl _ _) _)).wk.cac)))
        go_wp2
        go_ret
        exact ⟨rfl, (HL.out.quiet (below_drewN (Below.refl _ _) _)).below⟩
end Go.Proofs.Ytefllfoilkbboaa
/- A key, a deed, a slice of deeds of layer 10, as arguments. -/
namespace Go.Proofs.Ytefllfoilkbboaa
set_option linter.unusedVariables false
set_option linter.unusedSimpArgs false
open Go.ChangeShapes Go.WideShapes Go.ChangeAt Go.RowKit Go.Joins

theorem listZ3 {α : Type} {zs : List α} (h : zs.length = 3) : ∃ a b c, zs = [a, b, c] := by
  match zs, h with
  | [a, b, c], _ => exact ⟨a, b, c, rfl⟩
theorem listZ4 {α : Type} {zs : List α} (h : zs.length = 4) : ∃ a b c d, zs = [a, b, c, d] := by
  match zs, h with
  | [a, b, c, d], _ => exact ⟨a, b, c, d, rfl⟩
theorem listZ11 {α : Type} {zs : List α} (h : zs.length = 11) : ∃ c0 c1 c2 c3 c4 c5 c6 c7 c8 c9 c10, zs = [c0, c1, c2, c3, c4, c5, c6, c7, c8, c9, c10] := by
  match zs, h with
  | [c0, c1, c2, c3, c4, c5, c6, c7, c8, c9, c10], _ => exact ⟨c0, c1, c2, c3, c4, c5, c6, c7, c8, c9, c10, rfl⟩

theorem zq0 : Try.prog.cellsOf 3 = 1 := by kernel_rfl
theorem zq1 : Try.prog.cellsOf 32 = 1 := by kernel_rfl
theorem zq2 : Try.prog.cellsOf 4 = 1 := by kernel_rfl
theorem zq3 : Try.prog.cellsOf 5 = 1 := by kernel_rfl
theorem zq4 : Try.prog.cellsOf 36 = 3 := by kernel_rfl
theorem zq5 : Try.prog.cellsOf 34 = 3 := by kernel_rfl
theorem zq6 : Try.prog.cellsOf 38 = 6 := by kernel_rfl
theorem zq7 : Try.prog.cellsOf 40 = 11 := by kernel_rfl

section
variable {H : Type} {enc : TypeId × Value → H} {w : World} {base : Nat} {spare : Nat → Bool} {held : Bool}

theorem key_of {fuel : Nat} {c0 c1 c2 : Value} {x : DataW H × List MemPlace} (hf : DataW.trod enc Try.prog w base spare held fuel 34 [c0, c1, c2] = some x) :
    ∃ k : Ky, c0 = .int .i64 k.1 ∧ c1 = .int .i64 k.2.1 ∧ c2 = .int .u64 k.2.2 ∧ OkK k := by
  obtain ⟨xs, m, _, _, hl, hxl, hel⟩ := DataW.trod_struct Try.underlying34 hf
  obtain ⟨y0, y1, y2, rfl⟩ := listZ3 (zs := xs) (by simpa using hxl)
  have e0 := hel 0 _ rfl
  have e1 := hel 1 _ rfl
  have e2 := hel 2 _ rfl
  simp [zq0, zq1] at e0 e1 e2
  obtain ⟨p, h0, _, w0⟩ := DataW.trod_int Try.underlying3 e0
  obtain ⟨q, h1, _, w1⟩ := DataW.trod_int Try.underlying3 e1
  obtain ⟨t, h2, _, w2⟩ := DataW.trod_int Try.underlying32 e2
  simp at h0 h1 h2
  exact ⟨(p, q, t), h0, h1, h2, i64_of w0, i64_of w1, w64_of w2⟩
theorem rgt3_of {fuel : Nat} {c0 c1 c2 : Value} {x : DataW H × List MemPlace} (hf : DataW.trod enc Try.prog w base spare held fuel 36 [c0, c1, c2] = some x) :
    ∃ a b c : Bool, c0 = .bool a ∧ c1 = .bool b ∧ c2 = .bool c := by
  obtain ⟨xs, m, _, _, hl, hxl, hel⟩ := DataW.trod_struct Try.underlying36 hf
  obtain ⟨y0, y1, y2, rfl⟩ := listZ3 (zs := xs) (by simpa using hxl)
  have e0 := hel 0 _ rfl
  have e1 := hel 1 _ rfl
  have e2 := hel 2 _ rfl
  simp [zq2] at e0 e1 e2
  obtain ⟨a, h0, _⟩ := DataW.trod_bool Try.underlying4 e0
  obtain ⟨b, h1, _⟩ := DataW.trod_bool Try.underlying4 e1
  obtain ⟨c, h2, _⟩ := DataW.trod_bool Try.underlying4 e2
  simp at h0 h1 h2
  exact ⟨a, b, c, h0, h1, h2⟩
theorem line_of {fuel : Nat} {c0 c1 c2 c3 c4 c5 : Value} {x : DataW H × List MemPlace} (hf : DataW.trod enc Try.prog w base spare held fuel 38 [c0, c1, c2, c3, c4, c5] = some x) :
    ∃ l : Ln, c0 = .int .u64 l.1 ∧ c1 = .bool l.2.1 ∧ c2 = .bool l.2.2.1 ∧ c3 = .bool l.2.2.2.1 ∧ c4 = .bool l.2.2.2.2.1 ∧ c5 = .int .u8 l.2.2.2.2.2 := by
  obtain ⟨xs, m, _, _, hl, hxl, hel⟩ := DataW.trod_struct Try.underlying38 hf
  obtain ⟨y0, y1, y2, y3, rfl⟩ := listZ4 (zs := xs) (by simpa using hxl)
  have e0 := hel 0 _ rfl
  have e1 := hel 1 _ rfl
  have e2 := hel 2 _ rfl
  have e3 := hel 3 _ rfl
  simp [zq1, zq2, zq3, zq4] at e0 e1 e2 e3
  obtain ⟨f, h0, _, _⟩ := DataW.trod_int Try.underlying32 e0
  obtain ⟨a, b, c, h1, h2, h3⟩ := rgt3_of e1
  obtain ⟨d, h4, _⟩ := DataW.trod_bool Try.underlying4 e2
  obtain ⟨n, h5, _, _⟩ := DataW.trod_int Try.underlying5 e3
  simp at h0 h4 h5
  exact ⟨(f, a, b, c, d, n), h0, h1, h2, h3, h4, h5⟩

theorem deed_of {fuel : Nat} {cs : List Value} {x : DataW H × List MemPlace} (hf : DataW.trod enc Try.prog w base spare held fuel 40 cs = some x) :
    ∃ y : Dd, cs = [.int .i64 y.1, .int .i64 y.2.1, .int .i64 y.2.2.1.1, .int .i64 y.2.2.1.2.1, .int .u64 y.2.2.1.2.2, .int .u64 y.2.2.2.1, .bool y.2.2.2.2.1, .bool y.2.2.2.2.2.1, .bool y.2.2.2.2.2.2.1, .bool y.2.2.2.2.2.2.2.1, .int .u8 y.2.2.2.2.2.2.2.2] ∧ OkK y.2.2.1 ∧ I64 y.2.1 := by
  obtain ⟨xs, m, _, _, hl, hxl, hel⟩ := DataW.trod_struct Try.underlying40 hf
  obtain ⟨y0, y1, y2, y3, rfl⟩ := listZ4 (zs := xs) (by simpa using hxl)
  rw [zq7] at hl
  obtain ⟨c0, c1, c2, c3, c4, c5, c6, c7, c8, c9, c10, rfl⟩ := listZ11 hl
  have e0 := hel 0 _ rfl
  have e1 := hel 1 _ rfl
  have e2 := hel 2 _ rfl
  have e3 := hel 3 _ rfl
  simp [zq0, zq5, zq6] at e0 e1 e2 e3
  obtain ⟨kd, h0, _, _⟩ := DataW.trod_int Try.underlying3 e0
  obtain ⟨pk, h1, _, w1⟩ := DataW.trod_int Try.underlying3 e1
  obtain ⟨k, h2, h3, h4, hk⟩ := key_of e2
  obtain ⟨l, h5, h6, h7, h8, h9, h10⟩ := line_of e3
  simp at h0 h1
  subst h0 h1 h2 h3 h4 h5 h6 h7 h8 h9 h10
  exact ⟨(kd, pk, k, l), rfl, hk, i64_of w1⟩

theorem open_keyC {r : Reach} {b0 : Nat} {v : Value} {d : DataW H} {p : List MemPlace} (hv : Value.okWide Try.prog w r b0 34 v) (h : DataW.Trod enc Try.prog w base spare held 34 v d p) :
    ∃ p q t : Int, v = .agg #[.int .i64 p, .int .i64 q, .int .u64 t] ∧ OkK (p, q, t) := by
  obtain ⟨cs, rfl, hsz, _⟩ : ∃ cs, v = .agg cs ∧ cs.size = Try.prog.cellsOf 34 ∧ Row.okWide Try.prog w r b0 34 cs := by
    simpa [Value.okWide, Try.underlying34] using hv
  obtain ⟨fuel, hf⟩ := h
  obtain ⟨cs⟩ := cs
  obtain ⟨c0, c1, c2, rfl⟩ := listZ3 (zs := cs) (by simpa using hsz.trans zq5)
  obtain ⟨⟨p, q, t⟩, rfl, rfl, rfl, hk⟩ := key_of hf
  exact ⟨p, q, t, rfl, hk⟩
theorem open_deedC {r : Reach} {b0 : Nat} {v : Value} {d : DataW H} {p : List MemPlace} (hv : Value.okWide Try.prog w r b0 40 v) (h : DataW.Trod enc Try.prog w base spare held 40 v d p) :
    ∃ (kd pk p q t f : Int) (x1 x2 x3 x4 : Bool) (m : Int), v = .agg #[.int .i64 kd, .int .i64 pk, .int .i64 p, .int .i64 q, .int .u64 t, .int .u64 f, .bool x1, .bool x2, .bool x3, .bool x4, .int .u8 m] ∧ OkK (p, q, t) ∧ I64 pk := by
  obtain ⟨cs, rfl, hsz, _⟩ : ∃ cs, v = .agg cs ∧ cs.size = Try.prog.cellsOf 40 ∧ Row.okWide Try.prog w r b0 40 cs := by
    simpa [Value.okWide, Try.underlying40] using hv
  obtain ⟨fuel, hf⟩ := h
  obtain ⟨cs⟩ := cs
  obtain ⟨⟨kd, pk, ⟨p, q, t⟩, ⟨f, x1, x2, x3, x4, m⟩⟩, e, hk, hp⟩ := deed_of hf
  have e' : cs = _ := e
  subst e'
  exact ⟨kd, pk, p, q, t, f, x1, x2, x3, x4, m, rfl, hk, hp⟩

set_option maxRecDepth 100000 in
theorem open_deedsC {r : Reach} {b0 : Nat} {v : Value} {d : DataW H} {p : List MemPlace} (hv : Value.okWide Try.prog w r b0 22 v) (h : DataW.Trod enc Try.prog w base spare held 22 v d p) :
    ∃ A ds c, v = .slice A ds.length c ∧ ds.length ≤ maxLen ∧ DeedsC w A ds ∧ DeedsOkC ds := by
  obtain ⟨a, len, cap, rfl⟩ := okWide_slice Try.underlying22 hv
  obtain ⟨fuel, hf⟩ := h
  rcases Deep.open_slice Try.underlying22 hf with ⟨hcs, _⟩ | ⟨ad, len', cap', m, n, D, Pl, hcs, _, hl, hm, hmm, _, hel⟩
  · have e : Value.slice a len cap = .slice none 0 0 := by simpa [Value.cells] using hcs
    rw [e]
    exact ⟨none, [], 0, rfl, by simp [maxLen], fun k hk => absurd hk (by simp), fun k hk => absurd hk (by simp)⟩
  · have e : Value.slice a len cap = .slice (some ad) len' cap' := by simpa [Value.cells] using hcs
    rw [e]
    rw [zq7] at hel
    have hle : len' ≤ m := by rw [hmm]; split <;> omega
    obtain ⟨g, hg⟩ := Deep.choose_lt (α := Dd) (n := len') (p := fun k y => DeedIs w (ad.add (k * 11)) y ∧ OkK y.2.2.1 ∧ I64 y.2.1) (fun k hk => by
      obtain ⟨cs', h1, h2⟩ := hel k (by omega)
      obtain ⟨y, rfl, w1, w2⟩ := deed_of h2
      obtain ⟨_, _, hc⟩ := World.cells?_some h1
      exact ⟨y, ⟨by simpa [Addr.add] using hc 0 (by omega), hc 1 (by omega), hc 2 (by omega), hc 3 (by omega), hc 4 (by omega), hc 5 (by omega), hc 6 (by omega), hc 7 (by omega), hc 8 (by omega), hc 9 (by omega), hc 10 (by omega)⟩, w1, w2⟩)
    have hget : ∀ k, k < len' → ((List.range len').map g).getD k zD = g k := fun k hk => by simp [List.getD, hk]
    refine ⟨some ad, (List.range len').map g, cap', by simp, by simp; omega, fun k hk => ⟨ad, rfl, ?_⟩, fun k hk => ?_⟩
    · have hk' : k < len' := by simpa using hk
      rw [hget k hk']; exact (hg k hk').1
    · have hk' : k < len' := by simpa using hk
      rw [hget k hk']; exact (hg k hk').2
end
end Go.Proofs.Ytefllfoilkbboaa
/- The walk of CacheRoom. -/
namespace Go.Proofs.Ytefllfoilkbboaa
set_option linter.unusedVariables false
set_option linter.unusedSimpArgs false
open Go.ChangeShapes Go.WideShapes Go.ChangeAt Go.RowKit Go.Joins

theorem keys_ne {ks : List Ky} (hn : ks.Nodup) {h j : Nat} (hj : j < ks.length) (hh : h < j) : ks.getD h zK ≠ ks.getD j zK := by
  have hl : h < ks.length := by omega
  have e1 : ks.getD h zK = ks[h] := by rw [List.getD, List.getElem?_eq_getElem hl]; rfl
  have e2 : ks.getD j zK = ks[j] := by rw [List.getD, List.getElem?_eq_getElem hj]; rfl
  rw [e1, e2]
  intro e
  have := (List.getElem_inj (xs := ks) (i := h) (j := j) (h₀ := hl) (h₁ := hj) hn).1 e
  omega

set_option maxRecDepth 100000 in
set_option maxHeartbeats 8000000 in
theorem cacheRoom_walk (A : Option Addr) (cp : Nat) (ds : List Dd) (a : Int) (w : World) (hl : ds.length ≤ maxLen) (hd : DeedsC w A ds) (hok : DeedsOkC ds) (h0 : 0 ≤ a) (h1 : a ≤ 255) :
    Calls Try.prog 4 #[.int .u8 a, .slice A ds.length cp] w fun e w' => e = .returned (.bool true) ∧ Below w.heap.size w w' := by
  unfold maxLen at hl
  have HD := Lib.hid hd
  have HOK := Lib.hid hok
  obtain ⟨R, hR⟩ : ∃ R, roomF a = R := ⟨_, rfl⟩
  have hRa : (R : Int) ≤ a := by rw [← hR]; unfold roomF; rw [if_neg (by omega)]; split <;> omega
  have ta : IntKind.i64.wrap a = a := by rw [IntKind.wrap_i64]; omega
  have hR64 : R ≤ 64 := by rw [← hR]; exact roomF_le a
  have HF := Lib.hid hR
  obtain ⟨N, hN⟩ : ∃ N, ds.length = N := ⟨_, rfl⟩
  have HN := Lib.hid hN
  rw [hN] at hl ⊢
  have hm : manyC ds ≤ 120 ∧ manyC ds ≤ N ∧ (manyC ds = 120 ∨ manyC ds = N) := by unfold manyC; omega
  obtain ⟨mn, hmn⟩ : ∃ m, manyC ds = m := ⟨_, rfl⟩
  rw [hmn] at hm
  obtain ⟨hm0, hm1, hm2⟩ := hm
  have M0 := Lib.hid (Mine.start w)
  clear hd hok hN hmn hR
  go_enter Try.func4, Try.ntmps4
  go_upto_region 6 with (first | (go_at_call 9; refine (awake10_any _).mono ?_; rintro e w1 ⟨rfl, hb0⟩; have M1 := Lib.hid (M0.out.quiet hb0); clear hb0 M0) | (go_at_call 10; refine (newC_any _ _).mono ?_; rw [HF.out]; rintro e w2 ⟨rfl, hc1, hb1⟩; have H1 := Lib.hid (LawC.first M1.out hc1 hb1); clear hc1 hb1 M1) | (go_at_call 11; refine (rnewC_any _ _).mono ?_; rw [HF.out]; rintro e w3 ⟨rfl, hb2⟩; have H2 := Lib.hid (H1.out.quiet hb2); clear hb2 H1))
  obtain ⟨c, hc⟩ : ∃ c, w1.heap.size + 1 = c := ⟨_, rfl⟩
  rw [hc] at H2 ⊢
  generalize hw3 : w3.alloc _ = w4
  have H3 := Lib.hid (((H2.out.new (b := w3.heap.size) rfl #[.slice none 0 0, .int .i64 R] 28).got (PairsOwn.nil _ 0) (by simp [Value.ownBlock])).world hw3)
  clear hc hw3 H2 HF ta
  generalize w3.heap.size = bx at *
  go_wp2
  go_loopw [8] (fun i wr => ∃ (k nx : Nat) (Ax : Option Addr) (cx : Nat) (G : Nat → Prop), k ≤ mn ∧ i = .int .i64 k ∧ Hid (LawC w wr (From w.heap.size) c R (playC R ds k) G [⟨bx, #[.slice Ax nx cx, .int .i64 R], 28⟩] [⟨51, 9, .slice Ax nx cx, (playC R ds k).length, pcs (playC R ds k)⟩])) (fun i _ => (120 - intOf i).toNat)
  case atStart => exact ⟨0, 0, none, 0, _, by omega, rfl, H3⟩
  case round =>
    obtain ⟨k, nx, Ax, cx, G, hk, rfl, HL⟩ := hrel
    clear H3
    by_cases hlt : k < mn
    · have hlt2 := hlt
      have hks0 : k < N := by omega
      have h120 : (k : Int) < 120 := by omega
      have hks : k < ds.length := by rw [HN.out]; exact hks0
      obtain ⟨⟨kd, pk, ⟨p, q, t⟩, ⟨f, x1, x2, x3, x4, m⟩⟩, hkk⟩ : ∃ y : Dd, ds.getD k zD = y := ⟨_, rfl⟩
      have hk2 := HOK.out k hks
      rw [hkk] at hk2
      have HKK := Lib.hid hkk
      obtain ⟨L1, hL1⟩ : ∃ L1, playC R ds (k + 1) = L1 := ⟨_, rfl⟩
      obtain ⟨n2, hn2⟩ : ∃ n2, L1.length = n2 := ⟨_, rfl⟩
      obtain ⟨ans, hans⟩ : ∃ b, doA (playC R ds k) (playC R ds k) kd (p, q, t) = b := ⟨_, rfl⟩
      have HDO : Hid (∀ (w1 : World) (G : Nat → Prop), Cac w1 G c R (playC R ds k) → PairsOwn w1 0 (.slice Ax nx cx) (playC R ds k) → (∀ i, (Value.slice Ax nx cx).ownBlock = some i → ¬ G i) →
          Calls Try.prog 12 #[.pointer (some ⟨c, 0, none⟩), .agg #[.slice Ax nx cx, .int .i64 R], .agg #[.int .i64 kd, .int .i64 pk, .int .i64 p, .int .i64 q, .int .u64 t, .int .u64 f, .bool x1, .bool x2, .bool x3, .bool x4, .int .u8 m]] w1 fun e w' => ∃ A2 d2, e = .returned (.tuple #[.agg #[.slice A2 n2 d2, .int .i64 R], .bool ans]) ∧ DoE w1 w' G c R L1 (.slice A2 n2 d2) L1) := Lib.hid fun w1 G hc hx hoff => by
        have h9 := do_any hc hx hoff (Nat.le_trans (playC_len R ds k) (by omega)) R kd pk p q t f m x1 x2 x3 x4 hk2.1 hk2.2
        rw [playC_step hkk, hL1, hn2, hans] at h9
        exact h9
      have HL1 := Lib.hid hL1
      have HN2 := Lib.hid hn2
      have HAN := Lib.hid hans
      clear hkk hk2 hL1 hn2 hans
      obtain ⟨ad, e', _⟩ := deedsC_at HD.out HL.out.below hks HKK.out
      subst e'
      go_upto_region 9 with fail
      go_cut [9, 10] from 23 to 75 (fun s9 s10 wc => ∃ (n9 : Nat) (A2 : Option Addr) (d2 : Nat) (G2 : Nat → Prop), s9 = .pointer (some ⟨n9, 0, none⟩) ∧ s10 = .bool ans ∧ Hid (LawC w wc (From w.heap.size) c R L1 G2 [⟨n9, #[.slice A2 n2 d2, .int .i64 R], 28⟩, ⟨bx, #[.slice Ax nx cx, .int .i64 R], 28⟩] [⟨51, 9, .slice A2 n2 d2, L1.length, pcs L1⟩]))
      case first =>
        refine wp_region_held_drew (S := fun w' => Below w.heap.size w w' ∧ Blk w' bx #[.slice Ax nx cx, .int .i64 R] 28) (by kernel_rfl) ⟨(HL.out.quiet (Kept.drew0 _)).below, (HL.out.quiet (Kept.drew0 _)).at_ 0 rfl⟩ (fun hHeld => ?_)
        have H0 := Lib.hid (HL.out.quiet (Kept.drew0 _))
        clear HL
        generalize wr.drew = v0 at *
        refine tk (v := ?_) 0 ?_ ?_
        rotate_left
        · intro w hSw
          go_simp
          (try with_reducible rfl)
        (try simp only [Act.put, List.setIfInBounds_toArray, List.set_cons_zero, List.set_cons_succ])
        refine tk (v := ?_) 1 ?_ ?_
        rotate_left
        · intro w hSw
          obtain ⟨a0, a1⟩ := hSw.2.c2
          go_simp
          (try with_reducible rfl)
        (try simp only [Act.put, List.setIfInBounds_toArray, List.set_cons_zero, List.set_cons_succ])
        refine tk (v := ?_) 2 ?_ ?_
        rotate_left
        · intro w hSw
          go_simp
          (try with_reducible rfl)
        (try simp only [Act.put, List.setIfInBounds_toArray, List.set_cons_zero, List.set_cons_succ])
        refine tk (v := ?_) 3 ?_ ?_
        rotate_left
        · intro w hSw
          go_simp
          (try with_reducible rfl)
        (try simp only [Act.put, List.setIfInBounds_toArray, List.set_cons_zero, List.set_cons_succ])
        refine tk (v := ?_) 4 ?_ ?_
        rotate_left
        · intro w hSw
          go_simp
          (try with_reducible rfl)
        (try simp only [Act.put, List.setIfInBounds_toArray, List.set_cons_zero, List.set_cons_succ])
        refine tk (v := ?_) 5 ?_ ?_
        rotate_left
        · intro w hSw
          obtain ⟨ad', e', hd⟩ := deedsC_at HD.out hSw.1 hks HKK.out
          obtain rfl : ad = ad' := Option.some.inj e'
          have c0 := hd.c0
          obtain ⟨c1, c2, c3, c4, c5, c6, c7, c8, c9, c10⟩ := hd.c1
          go_simp
          (try with_reducible rfl)
        (try simp only [Act.put, List.setIfInBounds_toArray, List.set_cons_zero, List.set_cons_succ])
        refine wpAnyH_ready (rs := [6, 10]) (by kernel_rfl) (by simp) ?_
        refine anyH_one rfl (fun K hK => ?_) ?_
        · go_simp
          refine (HDO.out _ _ H0.out.wk.cac (H0.out.of_ 0 rfl) (H0.out.off 0 rfl)).mono ?_
          rintro e v1 ⟨A2, d2, rfl, hE⟩
          obtain ⟨G1, hH⟩ := H0.out.didDo hE
          have H1 := Lib.hid hH
          clear hE hH H0
          refine hK.out _ _ (⟨H1.out.below, H1.out.at_ 0 rfl⟩) (fun hHeld => ?_)
          clear hK K
          (try simp only [Act.put, List.setIfInBounds_toArray, List.set_cons_zero, List.set_cons_succ])
          refine tk (v := ?_) 7 ?_ ?_
          rotate_left
          · intro w hSw
            go_simp
            (try with_reducible rfl)
          (try simp only [Act.put, List.setIfInBounds_toArray, List.set_cons_zero, List.set_cons_succ])
          refine tk (v := ?_) 8 ?_ ?_
          rotate_left
          · intro w hSw
            go_simp
            (try with_reducible rfl)
          (try simp only [Act.put, List.setIfInBounds_toArray, List.set_cons_zero, List.set_cons_succ])
          refine tk (v := ?_) 9 ?_ ?_
          rotate_left
          · intro w hSw
            go_simp
            (try with_reducible rfl)
          (try simp only [Act.put, List.setIfInBounds_toArray, List.set_cons_zero, List.set_cons_succ])
          refine wpAnyH_ready (rs := [10]) (by kernel_rfl) (by simp) ?_
          refine anyH_one rfl (fun K hK => ?_) ?_
          · go_simp
            generalize hq : v1.alloc _ = v2
            have H2 := Lib.hid ((H1.out.new (b := v1.heap.size) rfl _ _).world hq)
            clear hq H1
            generalize v1.heap.size = n9 at H2 ⊢
            refine hK.out _ _ (⟨H2.out.below, H2.out.at_ 1 rfl⟩) (fun hHeld => ?_)
            clear hK K
            (try simp only [Act.put, List.setIfInBounds_toArray, List.set_cons_zero, List.set_cons_succ])
            refine wpAnyH_ready (rs := [11]) (by kernel_rfl) (by simp) ?_
            refine anyH_one rfl (fun K hK => ?_) ?_
            · obtain ⟨r0, r1⟩ := (H2.out.at_ 0 rfl).c2
              have s0 := (H2.out.at_ 0 rfl).fz 0; have s1 := (H2.out.at_ 0 rfl).fz 1
              go_simp
              generalize hq : (v2.setCell _ _).setCell _ _ = v3
              have H3 := Lib.hid ((H2.out.put 0 rfl (turnB2 _ _ _ _) (setB2 (H2.out.at_ 0 rfl) _ _) (by rfl)).world hq)
              clear hq H2 r0 r1 s0 s1
              refine hK.out _ _ (⟨H3.out.below, H3.out.at_ 1 rfl⟩) (fun hHeld => ?_)
              clear hK K
              (try simp only [Act.put, List.setIfInBounds_toArray, List.set_cons_zero, List.set_cons_succ])
              refine tk (v := ?_) 12 ?_ ?_
              rotate_left
              · intro w hSw
                go_simp
                (try with_reducible rfl)
              (try simp only [Act.put, List.setIfInBounds_toArray, List.set_cons_zero, List.set_cons_succ])
              refine wpAnyH_done (by kernel_rfl) ?_ _
              go_wp2
              go_meet
              case rel => exact ⟨n9, A2, d2, G1, rfl, rfl, H3⟩
            exact AllReadyH.nil
          exact AllReadyH.nil
        refine anyH_one rfl (fun K hK => ?_) ?_
        · go_simp
          generalize hq : v0.alloc _ = v1
          have H1 := Lib.hid ((H0.out.new (b := v0.heap.size) rfl _ _).world hq)
          clear hq H0
          generalize v0.heap.size = n9 at H1 ⊢
          refine hK.out _ _ (⟨H1.out.below, H1.out.at_ 1 rfl⟩) (fun hHeld => ?_)
          clear hK K
          (try simp only [Act.put, List.setIfInBounds_toArray, List.set_cons_zero, List.set_cons_succ])
          refine wpAnyH_ready (rs := [6]) (by kernel_rfl) (by simp) ?_
          refine anyH_one rfl (fun K hK => ?_) ?_
          · go_simp
            refine (HDO.out _ _ H1.out.wk.cac (H1.out.of_ 0 rfl) (H1.out.off 0 rfl)).mono ?_
            rintro e v2 ⟨A2, d2, rfl, hE⟩
            obtain ⟨G2, hH⟩ := H1.out.didDo hE
            have H2 := Lib.hid hH
            clear hE hH H1
            refine hK.out _ _ (⟨H2.out.below, H2.out.at_ 1 rfl⟩) (fun hHeld => ?_)
            clear hK K
            (try simp only [Act.put, List.setIfInBounds_toArray, List.set_cons_zero, List.set_cons_succ])
            refine tk (v := ?_) 7 ?_ ?_
            rotate_left
            · intro w hSw
              go_simp
              (try with_reducible rfl)
            (try simp only [Act.put, List.setIfInBounds_toArray, List.set_cons_zero, List.set_cons_succ])
            refine tk (v := ?_) 8 ?_ ?_
            rotate_left
            · intro w hSw
              go_simp
              (try with_reducible rfl)
            (try simp only [Act.put, List.setIfInBounds_toArray, List.set_cons_zero, List.set_cons_succ])
            refine tk (v := ?_) 9 ?_ ?_
            rotate_left
            · intro w hSw
              go_simp
              (try with_reducible rfl)
            (try simp only [Act.put, List.setIfInBounds_toArray, List.set_cons_zero, List.set_cons_succ])
            refine wpAnyH_ready (rs := [11]) (by kernel_rfl) (by simp) ?_
            refine anyH_one rfl (fun K hK => ?_) ?_
            · obtain ⟨r0, r1⟩ := (H2.out.at_ 0 rfl).c2
              have s0 := (H2.out.at_ 0 rfl).fz 0; have s1 := (H2.out.at_ 0 rfl).fz 1
              go_simp
              generalize hq : (v2.setCell _ _).setCell _ _ = v3
              have H3 := Lib.hid ((H2.out.put 0 rfl (turnB2 _ _ _ _) (setB2 (H2.out.at_ 0 rfl) _ _) (by rfl)).world hq)
              clear hq H2 r0 r1 s0 s1
              refine hK.out _ _ (⟨H3.out.below, H3.out.at_ 1 rfl⟩) (fun hHeld => ?_)
              clear hK K
              (try simp only [Act.put, List.setIfInBounds_toArray, List.set_cons_zero, List.set_cons_succ])
              refine tk (v := ?_) 12 ?_ ?_
              rotate_left
              · intro w hSw
                go_simp
                (try with_reducible rfl)
              (try simp only [Act.put, List.setIfInBounds_toArray, List.set_cons_zero, List.set_cons_succ])
              refine wpAnyH_done (by kernel_rfl) ?_ _
              go_wp2
              go_meet
              case rel => exact ⟨n9, A2, d2, G2, rfl, rfl, H3⟩
            exact AllReadyH.nil
          exact AllReadyH.nil
        exact AllReadyH.nil
      case rest =>
        obtain ⟨n9, A2, d2, G2, rfl, rfl, HC⟩ := hcut
        obtain rfl : ans = true := by rw [← HAN.out, doA_same]
        obtain ⟨a0, a1⟩ := (HC.out.at_ 0 rfl).c2
        obtain ⟨b0, b1⟩ := (HC.out.at_ 1 rfl).c2
        have s0 := (HC.out.at_ 1 rfl).fz 0; have s1 := (HC.out.at_ 1 rfl).fz 1
        go_upto_region 11 with fail
        generalize hw9 : (wc.setCell _ _).setCell _ _ = w9
        have H9 := Lib.hid (((HC.out.put 1 rfl (turnB2 _ _ _ _) (setB2 (HC.out.at_ 1 rfl) _ _) (by rfl)).world hw9).pick [1] [0])
        clear hw9 a0 a1 b0 b1 s0 s1 HL HDO HC HAN
        go_upto_region 12 with (go_at_call 13; refine (keysC_any H9.out.wk.cac).mono ?_; rw [HN2.out]; rintro e w10 ⟨A5, c5, rfl, hk5, hb5⟩; have hk5' := hk5; unfold KeysOwn at hk5'; rw [keysK_len, HN2.out] at hk5'; have H5 := Lib.hid (H9.out.made hb5 hk5' (Nat.le_refl _)); clear hk5 hk5' hb5 H9)
        have HND := Lib.hid H5.out.wk.cac.nodup
        have hn2R := H5.out.wk.cac.len
        rw [HN2.out] at hn2R
        have hg1 : decide ((n2 : Int) > a) = false := by simp; omega
        have hg2 : decide ((n2 : Int) > 64) = false := by simp; omega
        go_upto_region 15 with fail
        clear hg1 hg2
        go_loopw [12] (fun i wr => ∃ (j : Nat), j ≤ n2 ∧ i = .int .i64 j ∧ Hid (LawC w wr (From w.heap.size) c R L1 G2 [⟨bx, #[.slice A2 n2 d2, .int .i64 R], 28⟩] [⟨34, 3, .slice A5 n2 c5, n2, kcs (keysK L1)⟩, ⟨51, 9, .slice A2 n2 d2, L1.length, pcs L1⟩])) (fun i _ => (n2 - intOf i).toNat)
        case atStart => exact ⟨0, by omega, rfl, H5⟩
        case round =>
          obtain ⟨j, hj, rfl, HR⟩ := hrel
          clear H5
          by_cases hjt : j < n2
          · go_upto_region 18 with fail
            go_loopw [13] (fun i wr => ∃ (h : Nat), h ≤ j ∧ i = .int .i64 h ∧ Hid (LawC w wr (From w.heap.size) c R L1 G2 [⟨bx, #[.slice A2 n2 d2, .int .i64 R], 28⟩] [⟨34, 3, .slice A5 n2 c5, n2, kcs (keysK L1)⟩, ⟨51, 9, .slice A2 n2 d2, L1.length, pcs L1⟩])) (fun i _ => (j - intOf i).toNat)
            case atStart => exact ⟨0, by omega, rfl, HR⟩
            case round =>
              obtain ⟨h, hh, rfl, HS⟩ := hrel
              clear HR
              by_cases hht : h < j
              · have hhn : h < n2 := by omega
                obtain ⟨⟨p1, q1, t1⟩, hkk⟩ : ∃ x : Ky, (keysK L1).getD j zK = x := ⟨_, rfl⟩
                obtain ⟨⟨p2, q2, t2⟩, hkk2⟩ : ∃ x : Ky, (keysK L1).getD h zK = x := ⟨_, rfl⟩
                have hne := keys_ne HND.out (h := h) (j := j) (by rw [keysK_len, HN2.out]; exact hjt) hht
                rw [hkk, hkk2] at hne
                have hq : ∀ w, (binOp .eql 34 (.agg #[.int .i64 p2, .int .i64 q2, .int .u64 t2]) (.agg #[.int .i64 p1, .int .i64 q1, .int .u64 t1])).run Try.prog w = .ok (.bool false) w := fun w => (eqlK p2 q2 t2 p1 q1 t1 w).trans (by rw [decide_eq_false hne])
                obtain ⟨gk, cap, hv, hgk, k0, k1, k2⟩ := (keysOwn_row (HS.out.of_ 0 rfl) HN2.out).at_ (k := j) (by rw [keysK_len, HN2.out]; exact hjt) hkk
                rw [keysK_len, HN2.out] at hv
                obtain ⟨rfl, rfl⟩ : A5 = some ⟨gk, 0, none⟩ ∧ c5 = cap := by simpa using hv
                obtain ⟨_, l0, l1, l2⟩ := keyAt (HS.out.of_ 0 rfl) HN2.out hhn hkk2
                clear hv hkk hkk2 hne
                go_upto_region 20 with fail
                go_quiet (fail)
                generalize hw2 : wr.drewN _ = w2
                have H7 := Lib.hid ((HS.out.quiet (below_drewN (Below.refl _ _) _)).world hw2)
                clear hw2 HS
                go_wp2
                go_roundw
                case rel => exact ⟨h + 1, by omega, by go_num, H7⟩
                case measure => simp [intOf]; omega
              · obtain rfl : h = j := by omega
                go_wp2
                go_roundw
                case rel => exact ⟨h + 1, by omega, by go_num, HS⟩
                case measure => simp [intOf]; omega
          · obtain rfl : j = n2 := by omega
            go_wp2
            go_roundw
            case rel => exact ⟨k + 1, j, A2, d2, G2, by omega, by go_num, by rw [HL1.out]; exact HR.out.pick [0] [1]⟩
            case measure => simp [intOf]; omega
    · have e : k = mn := by omega
      obtain ⟨b0, b1⟩ := (HL.out.at_ 0 rfl).c2
      by_cases h120 : k < N
      · have hk120 : k = 120 := by omega
        subst hk120
        go_wp2
        go_ret
        exact ⟨rfl, HL.out.below⟩
      · have hN : N ≤ k := by omega
        go_wp2
        go_ret
        exact ⟨rfl, HL.out.below⟩
end Go.Proofs.Ytefllfoilkbboaa
