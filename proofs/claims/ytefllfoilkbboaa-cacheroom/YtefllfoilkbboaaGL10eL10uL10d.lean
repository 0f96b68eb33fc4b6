/- Several texts of ours in one: L10e, L10u, L10d. -/
import Derived.Test.YtefllfoilkbboaaGCxCyCz
import Derived.BigQuiet
/- The walk of CacheEvicts. -/
namespace Go.Proofs.Ytefllfoilkbboaa
set_option linter.unusedVariables false
set_option linter.unusedSimpArgs false
open Go.ChangeShapes Go.WideShapes Go.ChangeAt Go.RowKit Go.Joins

theorem evK_gone {L : List Pr} (hn : (keysK L).Nodup) {a : Int} (h : 0 < L.length) : getK (evK L a) (L.getD (pickF a L.length) zP).1 = none := by
  unfold evK
  rw [if_neg (by omega), getK_erase hn (pickF_lt a h)]
  unfold updG
  exact if_pos rfl
theorem okK_at {w : World} {F : Nat → Prop} {c R : Nat} {L : List Pr} (h : Cac w F c R L) {i : Nat} (hi : i < L.length) : OkK (L.getD i zP).1 := by
  refine h.ok _ ?_
  have hki : i < (keysK L).length := by rw [keysK_len]; exact hi
  rw [← keysK_getD, List.getD, List.getElem?_eq_getElem hki]
  exact List.getElem_mem _

set_option maxRecDepth 100000 in
set_option maxHeartbeats 3200000 in
theorem cacheEvicts_walk (A : Option Addr) (cp : Nat) (ds : List Dd) (a a2 : Int) (w : World) (hl : ds.length ≤ maxLen) (hd : DeedsC w A ds) (hok : DeedsOkC ds) (h0 : 0 ≤ a) (h1 : a ≤ 255) (ha2 : I64 a2) :
    Calls Try.prog 7 #[.int .u8 a, .slice A ds.length cp, .int .i64 a2] w fun e w' => e = .returned (.bool true) ∧ Below w.heap.size w w' := by
  have HRUN : Hid (∀ w1, Below w.heap.size w w1 → _) := Lib.hid fun w1 (hb : Below w.heap.size w w1) => runC_any A cp ds a w1 hl (fun k hk => by
    obtain ⟨ad, e, h⟩ := hd k hk
    exact ⟨ad, e, DeedAt.below h hb (Nat.le_refl _)⟩) hok h0 h1
  have HA := Lib.hid ha2
  generalize ds.length = N at *
  clear hd hok hl h0 h1 ha2
  go_enter Try.func7, Try.ntmps7
  go_upto_region 5 with (first | (go_at_call 9; refine (awake10_any _).mono ?_; rintro e w1 ⟨rfl, hb1⟩; have HB1 := Lib.hid hb1; clear hb1) | (go_at_call 18; refine (HRUN.out _ HB1.out).mono ?_; rintro e w2 ⟨c, G2, rfl, hL2⟩; have H2 := Lib.hid hL2; clear hL2))
  obtain ⟨R, hR⟩ : ∃ R, roomR a = R := ⟨_, rfl⟩
  rw [hR] at H2
  generalize playC R ds (manyC ds) = L at H2
  clear HRUN hR
  have hn0 := H2.out.wk.cac.len
  have hn1 := H2.out.wk.cac.room
  have HND := Lib.hid H2.out.wk.cac.nodup
  obtain ⟨n, hn⟩ : ∃ n, L.length = n := ⟨_, rfl⟩
  have HN := Lib.hid hn
  rw [hn] at hn0
  clear hn
  go_upto_region 6 with (go_at_call 13; refine (keysC_any H2.out.wk.cac).mono ?_; rw [HN.out]; rintro e w3 ⟨A3, c3, rfl, hk3, hb3⟩; have H3 := Lib.hid (H2.out.made hb3 hk3 (Nat.le_refl _)); clear hk3 hb3 H2)
  by_cases hz : n = 0
  · subst hz
    have hE : evK L a2 = L := by unfold evK; rw [if_pos HN.out]
    have HE := Lib.hid hE
    clear hE
    go_wp2_with (first | (go_at_call 22; refine (evictC_any H3.out.wk.cac a2 HA.out).mono ?_; rw [HE.out]; rintro e w4 ⟨rfl, hc4, ht4⟩; have H4 := Lib.hid (H3.out.did hc4 ht4); clear hc4 ht4 H3) | (go_at_call 13; refine (keysC_any H4.out.wk.cac).mono ?_; rw [HN.out]; rintro e w5 ⟨A5, c5, rfl, hk5, hb5⟩; have H5 := Lib.hid (H4.out.quiet hb5); clear hk5 hb5 H4))
    go_ret
    exact ⟨rfl, HB1.out.trans (H5.out.below.mono HB1.out.size)⟩
  · have hi := pickF_lt a2 (n := n) (by omega)
    have HE : Hid ((evK L a2).length = n - 1) := Lib.hid (by rw [evK_len, HN.out])
    have HG : Hid (getK (evK L a2) (L.getD (pickF a2 n) zP).1 = none) := Lib.hid (by have := evK_gone HND.out (a := a2) (by rw [HN.out]; omega); rwa [HN.out] at this)
    have HQ := Lib.hid (fun w' => rpicked_any a2 n w' HA.out (by omega) (by omega))
    generalize pickF a2 n = i at hi HG HQ
    have HK := Lib.hid (okK_at H3.out.wk.cac (i := i) (by rw [HN.out]; exact hi))
    obtain ⟨⟨p, q, t⟩, hkk⟩ : ∃ x : Ky, (L.getD i zP).1 = x := ⟨_, rfl⟩
    rw [hkk] at HG HK
    have HKK : Hid ((keysK L).getD i zK = (p, q, t)) := Lib.hid (by rw [keysK_getD, hkk])
    obtain ⟨n1, hn1'⟩ : ∃ n1, n - 1 = n1 := ⟨_, rfl⟩
    rw [hn1'] at HE
    have b0 : ((n : Int) == 0) = false := by simp; omega
    have b1 : IntKind.i64.wrap ((n : Int) - 1) = (n : Int) - 1 := by rw [IntKind.wrap_i64]; omega
    have b2 : ((n1 : Int) == (n : Int) - 1) = true := by simp; omega
    have b3 : ((n : Int) - 1) = (n1 : Int) := by omega
    clear hkk hz hn1'
    go_upto_region 11 with (first | (go_at_call 22; refine (evictC_any H3.out.wk.cac a2 HA.out).mono ?_; rintro e w4 ⟨rfl, hc4, ht4⟩; have H4 := Lib.hid (H3.out.did hc4 ht4); clear hc4 ht4 H3) | (go_at_call 13; refine (keysC_any H4.out.wk.cac).mono ?_; rw [HE.out]; rintro e w5 ⟨A5, c5, rfl, hk5, hb5⟩; have H5 := Lib.hid (H4.out.quiet hb5); clear hk5 hb5 H4) | (go_at_call 23; refine (HQ.out _).mono ?_; rintro e w' ⟨rfl, rfl⟩))
    have hrow : KeysOwn w5 0 (.slice A3 n c3) (keysK L) := by
      have := H5.out.of_ 0 rfl
      unfold KeysOwn
      rw [keysK_len, HN.out]
      rw [keysK_len, HN.out] at this
      exact this
    obtain ⟨g, cap, hv, hg, k0, k1, k2⟩ := hrow.at_ (k := i) (by rw [keysK_len, HN.out]; exact hi) HKK.out
    rw [keysK_len, HN.out] at hv
    obtain ⟨rfl, rfl⟩ : A3 = some ⟨g, 0, none⟩ ∧ c3 = cap := by simpa using hv
    clear hv hrow
    go_wp2_with (first | (go_at_call 14; refine (getC_any H5.out.wk.cac p q t 0 0 false false false false HK.out (by rw [HG.out]; rfl) false (by rw [HG.out]; rfl)).mono ?_; rintro e w6 ⟨rfl, hb6⟩; have H6 := Lib.hid ((H5.out.quiet hb6).quiet (below_alloc1 _ (.cells #[.int .u64 0, .bool false, .bool false, .bool false, .bool false, .int .u8 0] 38))); clear hb6 H5) | (go_at_call 24; refine (clearC_any H6.out.wk.cac).mono ?_; rintro e w7 ⟨rfl, hc7, ht7⟩; have H7 := Lib.hid (H6.out.did hc7 ht7); clear hc7 ht7 H6) | (go_at_call 13; refine (keysC_any H7.out.wk.cac).mono ?_; rw [show ([] : List Pr).length = 0 from rfl]; rintro e w8 ⟨A8, c8, rfl, hk8, hb8⟩; have H8 := Lib.hid (H7.out.quiet hb8); clear hk8 hb8 H7))
    go_ret
    exact ⟨rfl, HB1.out.trans (H8.out.below.mono HB1.out.size)⟩
end Go.Proofs.Ytefllfoilkbboaa
/- The walk of CachePuts. -/
namespace Go.Proofs.Ytefllfoilkbboaa
set_option linter.unusedVariables false
set_option linter.unusedSimpArgs false
open Go.ChangeShapes Go.WideShapes Go.ChangeAt Go.RowKit Go.Joins

theorem keysOwn_row {w : World} {v : Value} {L : List Pr} {n : Nat} (h : w.ownsRow 0 34 3 v n (kcs (keysK L))) (hn : L.length = n) : KeysOwn w 0 v (keysK L) := by
  unfold KeysOwn
  rw [keysK_len, hn]; exact h

set_option maxRecDepth 100000 in
set_option maxHeartbeats 8000000 in
theorem cachePuts_walk (A : Option Addr) (cp : Nat) (ds : List Dd) (a kd pk p q t f m : Int) (x1 x2 x3 x4 : Bool) (w : World) (hl : ds.length ≤ maxLen) (hd : DeedsC w A ds) (hok : DeedsOkC ds) (h0 : 0 ≤ a) (h1 : a ≤ 255) (hk : OkK (p, q, t)) (hpk : I64 pk) :
    Calls Try.prog 5 #[.int .u8 a, .slice A ds.length cp, .agg #[.int .i64 kd, .int .i64 pk, .int .i64 p, .int .i64 q, .int .u64 t, .int .u64 f, .bool x1, .bool x2, .bool x3, .bool x4, .int .u8 m]] w fun e w' => e = .returned (.bool true) ∧ Below w.heap.size w w' := by
  have HRUN : Hid (∀ w1, Below w.heap.size w w1 → _) := Lib.hid fun w1 (hb : Below w.heap.size w w1) => runC_any A cp ds a w1 hl (deedsC_move hd hb) hok h0 h1
  have HBD := Lib.hid (roomR_bd h0)
  have HK := Lib.hid hk
  have HPK := Lib.hid hpk
  have H0 := Lib.hid ((Mine.start w).new (b := w.heap.size) rfl #[.int .i64 kd, .int .i64 pk, .int .i64 p, .int .i64 q, .int .u64 t, .int .u64 f, .bool x1, .bool x2, .bool x3, .bool x4, .int .u8 m] 40)
  generalize ds.length = N at *
  clear hd hok hl h0 h1 hk hpk
  go_enter Try.func5, Try.ntmps5
  go_upto_region 1 with fail
  generalize hw0 : w.alloc _ = w0
  have H1 := Lib.hid (H0.out.world hw0)
  clear hw0 H0
  go_upto_region 5 with (first | (go_at_call 9; refine (awake10_any _).mono ?_; rintro e w1 ⟨rfl, hb1⟩; have H2 := Lib.hid (H1.out.quiet hb1); clear hb1 H1) | (go_at_call 18; refine (HRUN.out _ H2.out.below).mono ?_; rintro e w2 ⟨c, G2, rfl, hL2⟩; have H3 := Lib.hid (LawC.ofRun H2.out hL2); clear hL2 H2))
  obtain ⟨R, hR⟩ : ∃ R, roomR a = R := ⟨_, rfl⟩
  rw [hR] at H3 HBD
  generalize playC R ds (manyC ds) = L at H3
  clear HRUN hR
  have hn1 := H3.out.wk.cac.room
  have hn2 := H3.out.wk.cac.len
  have hR0 := HBD.out.1
  have hR8 := HBD.out.2
  obtain ⟨n', wt, hP⟩ := putsIs H3.out.wk.cac.nodup hn2 (by omega) (p, q, t) (f, x1, x2, x3, x4, m) pk
  obtain ⟨th, hth⟩ : ∃ b, (getK L (p, q, t)).isSome = b := ⟨_, rfl⟩
  obtain ⟨fb, hfb⟩ : ∃ b, decide (L.length = R) = b := ⟨_, rfl⟩
  rw [hth, hfb] at hP
  obtain ⟨n, hn⟩ : ∃ n, L.length = n := ⟨_, rfl⟩
  rw [hn] at hP hfb hn2
  have HN := Lib.hid hn
  have HP := Lib.hid hP
  have HTH := Lib.hid hth
  have hfb2 : ((n : Int) == (R : Int)) = fb := by rw [← hfb]; by_cases e : n = R <;> simp [e] <;> omega
  obtain ⟨⟨f1, y1, y2, y3, y4, m1⟩, hv1⟩ : ∃ y : Ln, (getK L (p, q, t)).getD zL = y := ⟨_, rfl⟩
  have HV1 := Lib.hid hv1
  have HPU : Hid (∀ (w1 : World) (G : Nat → Prop), Cac w1 G c R L → _) := Lib.hid fun (w1 : World) (G : Nat → Prop) (hc : Cac w1 G c R L) => putC_any hc p q t f m pk x1 x2 x3 x4 HK.out HPK.out
  obtain ⟨L', hL'⟩ : ∃ L', putK R L (p, q, t) (f, x1, x2, x3, x4, m) pk = L' := ⟨_, rfl⟩
  rw [hL'] at HPU HP
  have hn' : n' ≤ 64 := by
    have h1 := putK_len (R := R) (L := L) (by omega) (p, q, t) (f, x1, x2, x3, x4, m) pk
    rw [hL', HP.out.len] at h1
    omega
  have HOK : Hid (∀ i, i < n → OkK (L.getD i zP).1) := Lib.hid fun i hi => okK_at H3.out.wk.cac (by rw [HN.out]; exact hi)
  clear hP hth hfb hn hv1 hL'
  go_upto_region 6 with (go_at_call 13; refine (keysC_any H3.out.wk.cac).mono ?_; rw [HN.out]; rintro e w3 ⟨A3, c3, rfl, hk3, hb3⟩; have hk3' := hk3; unfold KeysOwn at hk3'; rw [keysK_len, HN.out] at hk3'; have H4 := Lib.hid (H3.out.made hb3 hk3' (Nat.le_refl _)); clear hk3 hk3' hb3 H3)
  obtain ⟨d0, d1, d2, d3, d4, d5, d6, d7, d8, d9, d10⟩ := (H4.out.at_ 0 rfl).c11
  go_upto_region 7 with (go_at_call 14; refine (getC_any H4.out.wk.cac p q t f1 m1 y1 y2 y3 y4 HK.out HV1.out th HTH.out).mono ?_; rintro e w4 ⟨rfl, hb4⟩; have H5 := Lib.hid ((H4.out.quiet hb4).quiet (below_alloc1 _ (.cells #[.int .u64 f1, .bool y1, .bool y2, .bool y3, .bool y4, .int .u8 m1] 38))); clear hb4 H4 d0 d1 d2 d3 d4 d5 d6 d7 d8 d9 d10)
  generalize hw5 : w4.alloc _ = w5 at H5 ⊢
  clear hw5
  obtain ⟨d0, d1, d2, d3, d4, d5, d6, d7, d8, d9, d10⟩ := (H5.out.at_ 0 rfl).c11
  go_upto_region 8 with (go_at_call 19; refine (HPU.out _ _ H5.out.wk.cac).mono ?_; rintro e w6 ⟨rfl, hc6, ht6⟩; have H6 := Lib.hid (H5.out.did hc6 ht6); clear hc6 ht6 H5 d0 d1 d2 d3 d4 d5 d6 d7 d8 d9 d10)
  go_upto_region 9 with (go_at_call 13; refine (keysC_any H6.out.wk.cac).mono ?_; rw [HP.out.len]; rintro e w7 ⟨A7, c7, rfl, hk7, hb7⟩; have hk7' := hk7; unfold KeysOwn at hk7'; rw [keysK_len, HP.out.len] at hk7'; have H7 := Lib.hid (H6.out.made hb7 hk7' (Nat.le_refl _)); clear hk7 hk7' hb7 H6)
  obtain ⟨d0, d1, d2, d3, d4, d5, d6, d7, d8, d9, d10⟩ := (H7.out.at_ 0 rfl).c11
  go_upto_region 10 with (go_at_call 14; refine (getC_any H7.out.wk.cac p q t f m x1 x2 x3 x4 HK.out (by rw [HP.out.got]; rfl) true (by rw [HP.out.got]; rfl)).mono ?_; rintro e w8 ⟨rfl, hb8⟩; have H8 := Lib.hid ((H7.out.quiet hb8).new (b := w8.heap.size) rfl #[.int .u64 f, .bool x1, .bool x2, .bool x3, .bool x4, .int .u8 m] 38); clear hb8 H7 d0 d1 d2 d3 d4 d5 d6 d7 d8 d9 d10)
  generalize hw9 : w8.alloc _ = w9 at H8 ⊢
  generalize w8.heap.size = bx at *
  clear hw9
  go_wp2
  go_loopw [15, 16] (fun u i wr => ∃ (j : Nat) (G : Nat → Prop), j ≤ n ∧ i = .int .i64 j ∧ u = .int .i64 (lossN L L' j) ∧ Hid (LawC w wr (From w.heap.size) c R L' G [⟨bx, #[.int .u64 f, .bool x1, .bool x2, .bool x3, .bool x4, .int .u8 m], 38⟩, ⟨w.heap.size, #[.int .i64 kd, .int .i64 pk, .int .i64 p, .int .i64 q, .int .u64 t, .int .u64 f, .bool x1, .bool x2, .bool x3, .bool x4, .int .u8 m], 40⟩] [⟨34, 3, .slice A7 n' c7, n', kcs (keysK L')⟩, ⟨34, 3, .slice A3 n c3, n, kcs (keysK L)⟩])) (fun _ i _ => (n - intOf i).toNat)
  case atStart => exact ⟨0, _, by omega, rfl, rfl, H8⟩
  case round =>
    obtain ⟨j, G, hj, rfl, rfl, HR⟩ := hrel
    clear H8
    by_cases hlt : j < n
    · obtain ⟨⟨p', q', t'⟩, hkk⟩ : ∃ x : Ky, (L.getD j zP).1 = x := ⟨_, rfl⟩
      have hok := HOK.out j hlt
      rw [hkk] at hok
      have HOK2 := Lib.hid hok
      have hkk2 : (keysK L).getD j zK = (p', q', t') := by rw [keysK_getD, hkk]
      obtain ⟨g, cap, hv, hg, k0, k1, k2⟩ := (keysOwn_row (HR.out.of_ 1 rfl) HN.out).at_ (k := j) (by rw [keysK_len, HN.out]; exact hlt) hkk2
      rw [keysK_len, HN.out] at hv
      obtain ⟨rfl, rfl⟩ : A3 = some ⟨g, 0, none⟩ ∧ c3 = cap := by simpa using hv
      obtain ⟨⟨f', z1, z2, z3, z4, m'⟩, hv2⟩ : ∃ y : Ln, (getK L' (p', q', t')).getD zL = y := ⟨_, rfl⟩
      have HV2 := Lib.hid hv2
      have hle := lossN_le L L' j
      have hls : lossN L L' (j + 1) = lossN L L' j + (if (getK L' (p', q', t')).isSome then 0 else 1) := by rw [← hkk2]; rfl
      have HLS := Lib.hid hls
      clear hv hkk hkk2 hok hv2 hls
      generalize lossN L L' j = lo at *
      cases his : (getK L' (p', q', t')).isSome with
      | true =>
        have HIS := Lib.hid his
        have HL2 : Hid (lossN L L' (j + 1) = lo) := Lib.hid (by rw [HLS.out, his]; rfl)
        clear his
        go_wp2_with (go_at_call 14; refine (getC_any HR.out.wk.cac p' q' t' f' m' z1 z2 z3 z4 HOK2.out HV2.out true HIS.out).mono ?_; rintro e w10 ⟨rfl, hb10⟩; have H10 := Lib.hid ((HR.out.quiet hb10).quiet (below_alloc1 _ (.cells #[.int .u64 f', .bool z1, .bool z2, .bool z3, .bool z4, .int .u8 m'] 38))); clear hb10)
        go_roundw
        case rel => exact ⟨j + 1, G, by omega, by go_num, by rw [HL2.out], H10⟩
        case measure => simp [intOf]; omega
      | false =>
        have HIS := Lib.hid his
        have HL2 : Hid (lossN L L' (j + 1) = lo + 1) := Lib.hid (by rw [HLS.out, his]; rfl)
        clear his
        go_wp2_with (go_at_call 14; refine (getC_any HR.out.wk.cac p' q' t' f' m' z1 z2 z3 z4 HOK2.out HV2.out false HIS.out).mono ?_; rintro e w10 ⟨rfl, hb10⟩; have H10 := Lib.hid ((HR.out.quiet hb10).quiet (below_alloc1 _ (.cells #[.int .u64 f', .bool z1, .bool z2, .bool z3, .bool z4, .int .u8 m'] 38))); clear hb10)
        go_roundw
        case rel => exact ⟨j + 1, G, by omega, by go_num, by rw [HL2.out]; go_num, H10⟩
        case measure => simp [intOf]; omega
    · obtain rfl : j = n := by omega
      rw [HP.out.loss]
      have hq1 := eqlCL f m x1 x2 x3 x4
      have hq2 : ∀ w, (binOp .eql 34 (.agg #[.int .i64 p, .int .i64 q, .int .u64 t]) (.agg #[.int .i64 p, .int .i64 q, .int .u64 t])).run Try.prog w = .ok (.bool true) w := fun w => (eqlK p q t p q t w).trans (by rw [decide_eq_true rfl])
      obtain ⟨l0, l1, l2, l3, l4, l5⟩ := (HR.out.at_ 0 rfl).c6
      obtain ⟨d0, d1, d2, d3, d4, d5, d6, d7, d8, d9, d10⟩ := (HR.out.at_ 1 rfl).c11
      have hj1 : IntKind.i64.wrap ((j : Int) + 1) = (j : Int) + 1 := by rw [IntKind.wrap_i64]; omega
      have hw := HP.out.ways
      have HWAY := Lib.hid hw
      clear hw hlt hj
      rcases HWAY.out with ⟨rfl, rfl, rfl⟩ | ⟨rfl, rfl, hn3, rfl, hlast⟩ | ⟨rfl, rfl, rfl, hpos, rfl, hlast⟩
      · cases fb
        all_goals
          go_upto_region 21 with (go_at_call 17; refine (roomC_any HR.out.wk.cac).mono ?_; rintro e w' ⟨rfl, rfl⟩)
          go_quiet (fail)
          go_wp2
          go_ret
          exact ⟨rfl, (HR.out.quiet (below_drewN (Below.refl _ _) _)).below⟩
      · have g1 : ((n' : Int) == (j : Int) + 1) = true := by simp; omega
        have g2 : IntKind.i64.wrap ((n' : Int) - 1) = (j : Int) := by rw [IntKind.wrap_i64]; omega
        have g3 : j < n' := by omega
        have g4 : (n' : Int) = (j : Int) + 1 := by omega
        obtain ⟨g, cap, hv, hg, k0, k1, k2⟩ := (keysOwn_row (HR.out.of_ 0 rfl) HP.out.len).at_ (k := j) (by rw [keysK_len, HP.out.len]; exact g3) hlast
        rw [keysK_len, HP.out.len] at hv
        obtain ⟨rfl, rfl⟩ : A7 = some ⟨g, 0, none⟩ ∧ c7 = cap := by simpa using hv
        clear hv hn3 hlast g4
        go_upto_region 21 with (go_at_call 17; refine (roomC_any HR.out.wk.cac).mono ?_; rintro e w' ⟨rfl, rfl⟩)
        go_quiet (fail)
        go_wp2
        go_ret
        exact ⟨rfl, (HR.out.quiet (below_drewN (Below.refl _ _) _)).below⟩
      · obtain ⟨i1, hi1⟩ : ∃ i1, n' - 1 = i1 := ⟨_, rfl⟩
        rw [hi1] at hlast
        have hj0 : IntKind.i64.wrap (n' : Int) = (n' : Int) := by rw [IntKind.wrap_i64]; omega
        have g2 : IntKind.i64.wrap ((n' : Int) - 1) = (i1 : Int) := by rw [IntKind.wrap_i64]; omega
        have g3 : i1 < n' := by omega
        obtain ⟨g, cap, hv, hg, k0, k1, k2⟩ := (keysOwn_row (HR.out.of_ 0 rfl) HP.out.len).at_ (k := i1) (by rw [keysK_len, HP.out.len]; exact g3) hlast
        rw [keysK_len, HP.out.len] at hv
        obtain ⟨rfl, rfl⟩ : A7 = some ⟨g, 0, none⟩ ∧ c7 = cap := by simpa using hv
        clear hv hi1 hlast hpos
        go_upto_region 21 with (go_at_call 17; refine (roomC_any HR.out.wk.cac).mono ?_; rintro e w' ⟨rfl, rfl⟩)
        go_quiet (fail)
        go_wp2
        go_ret
        exact ⟨rfl, (HR.out.quiet (below_drewN (Below.refl _ _) _)).below⟩
end Go.Proofs.Ytefllfoilkbboaa
/- The walk of CacheDrops. -/
namespace Go.Proofs.Ytefllfoilkbboaa
set_option linter.unusedVariables false
set_option linter.unusedSimpArgs false
open Go.ChangeShapes Go.WideShapes Go.ChangeAt Go.RowKit Go.Joins

theorem keyAt {w : World} {g n cap k : Nat} {L : List Pr} {p q t : Int} (h : w.ownsRow 0 34 3 (.slice (some ⟨g, 0, none⟩) n cap) n (kcs (keysK L))) (hn : L.length = n) (hk : k < n) (he : (keysK L).getD k zK = (p, q, t)) :
    g < w.heap.size ∧ w.cell? ⟨g, k * 3, none⟩ = some (.int .i64 p) ∧ w.cell? ⟨g, k * 3 + 1, none⟩ = some (.int .i64 q) ∧ w.cell? ⟨g, k * 3 + 2, none⟩ = some (.int .u64 t) := by
  obtain ⟨g', cap', hv, h1, h2, h3, h4⟩ := (keysOwn_row h hn).at_ (k := k) (by rw [keysK_len, hn]; exact hk) he
  simp only [Value.slice.injEq, Option.some.injEq, Addr.mk.injEq] at hv
  obtain ⟨⟨rfl, _⟩, _⟩ := hv
  exact ⟨h1, h2, h3, h4⟩

set_option maxRecDepth 100000 in
set_option maxHeartbeats 8000000 in
theorem cacheDrops_walk (A : Option Addr) (cp : Nat) (ds : List Dd) (a p q t : Int) (w : World) (hl : ds.length ≤ maxLen) (hd : DeedsC w A ds) (hok : DeedsOkC ds) (h0 : 0 ≤ a) (h1 : a ≤ 255) (hk : OkK (p, q, t)) :
    Calls Try.prog 6 #[.int .u8 a, .slice A ds.length cp, .agg #[.int .i64 p, .int .i64 q, .int .u64 t]] w fun e w' => e = .returned (.bool true) ∧ Below w.heap.size w w' := by
  have HRUN : Hid (∀ w1, Below w.heap.size w w1 → _) := Lib.hid fun w1 (hb : Below w.heap.size w w1) => runC_any A cp ds a w1 hl (deedsC_move hd hb) hok h0 h1
  have HBD := Lib.hid (roomR_bd h0)
  have HK := Lib.hid hk
  have H0 := Lib.hid ((Mine.start w).new (b := w.heap.size) rfl #[.int .i64 p, .int .i64 q, .int .u64 t] 34)
  generalize ds.length = N at *
  clear hd hok hl h0 h1 hk
  go_enter Try.func6, Try.ntmps6
  go_upto_region 1 with fail
  generalize hw0 : w.alloc _ = w0
  have H1 := Lib.hid (H0.out.world hw0)
  clear hw0 H0
  go_upto_region 6 with (first | (go_at_call 9; refine (awake10_any _).mono ?_; rintro e w1 ⟨rfl, hb1⟩; have H2 := Lib.hid (H1.out.quiet hb1); clear hb1 H1) | (go_at_call 18; refine (HRUN.out _ H2.out.below).mono ?_; rintro e w2 ⟨ca, G2, rfl, hL2⟩; have H3 := Lib.hid (LawC.ofRun H2.out hL2); clear hL2 H2) | (go_at_call 18; refine (HRUN.out _ H3.out.below).mono ?_; rintro e w3 ⟨cb, G3, rfl, hL3⟩; have H4 := Lib.hid (TwoC.start H3.out hL3); clear hL3 H3))
  obtain ⟨R, hR⟩ : ∃ R, roomR a = R := ⟨_, rfl⟩
  rw [hR] at H4 HBD
  generalize playC R ds (manyC ds) = L at H4
  clear HRUN hR
  have hn1 := H4.out.a.cac.room
  have hn2 := H4.out.a.cac.len
  have HG : Hid (getK (dropK L (p, q, t)) (p, q, t) = none) := Lib.hid (getK_dropped H4.out.a.cac.nodup _)
  have hD1 := dropK_filter H4.out.a.cac.nodup (p, q, t)
  have hD2 : ofK L p = L.filter (fun x => decide (x.1.1 ≠ p)) := rfl
  obtain ⟨Q1, hQ1⟩ : ∃ Q : Pr → Bool, (fun x => decide (x.1 ≠ (p, q, t))) = Q := ⟨_, rfl⟩
  obtain ⟨Q2, hQ2⟩ : ∃ Q : Pr → Bool, (fun x => decide (x.1.1 ≠ p)) = Q := ⟨_, rfl⟩
  rw [hQ1] at hD1
  rw [hQ2] at hD2
  have HQ1 : Hid (∀ x, Q1 x = decide (x.1 ≠ (p, q, t))) := Lib.hid fun x => by rw [← hQ1]
  have HQ2 : Hid (∀ x, Q2 x = decide (x.1.1 ≠ p)) := Lib.hid fun x => by rw [← hQ2]
  obtain ⟨D1, hd1⟩ : ∃ D, dropK L (p, q, t) = D := ⟨_, rfl⟩
  obtain ⟨D2, hd2⟩ : ∃ D, ofK L p = D := ⟨_, rfl⟩
  have HDR : Hid (∀ (w1 : World) (G : Nat → Prop), Cac w1 G ca R L → _) := Lib.hid fun (w1 : World) (G : Nat → Prop) (hc : Cac w1 G ca R L) => dropC_any hc p q t
  have HDO : Hid (∀ (w1 : World) (G : Nat → Prop), Cac w1 G cb R L → _) := Lib.hid fun (w1 : World) (G : Nat → Prop) (hc : Cac w1 G cb R L) => dropOfC_any hc p
  rw [hd1] at hD1 HG HDR
  rw [hd2] at hD2 HDO
  obtain ⟨n, hn⟩ : ∃ n, L.length = n := ⟨_, rfl⟩
  obtain ⟨n1, hl1⟩ : ∃ n, D1.length = n := ⟨_, rfl⟩
  obtain ⟨n2, hl2⟩ : ∃ n, D2.length = n := ⟨_, rfl⟩
  rw [hn] at hn2
  have HN := Lib.hid hn
  have HN1 := Lib.hid hl1
  have HN2 := Lib.hid hl2
  have HD1 := Lib.hid hD1
  have HD2 := Lib.hid hD2
  have hle1 : n1 ≤ n := by rw [← hl1, hD1, ← hn]; exact List.length_filter_le _ _
  have hle2 : n2 ≤ n := by rw [← hl2, hD2, ← hn]; exact List.length_filter_le _ _
  have hR8 := HBD.out.2
  clear hQ1 hQ2 hd1 hd2 hn hl1 hl2 hD1 hD2
  go_upto_region 7 with (go_at_call 13; refine (keysC_any H4.out.a.cac).mono ?_; rw [HN.out]; rintro e w4 ⟨A4, c4, rfl, hk4, hb4⟩; have hk4' := hk4; unfold KeysOwn at hk4'; rw [keysK_len, HN.out] at hk4'; have H5 := Lib.hid (H4.out.made hb4 hk4' (Nat.le_refl _)); clear hk4 hk4' hb4 H4)
  obtain ⟨b0, b1, b2⟩ := (H5.out.at_ 0 rfl).c3
  go_upto_region 8 with (go_at_call 20; refine (HDR.out _ _ H5.out.a.cac).mono ?_; rintro e w5 ⟨rfl, hc5, ht5⟩; have H6 := Lib.hid (H5.out.did hc5 ht5).swap; clear hc5 ht5 H5 b0 b1 b2)
  obtain ⟨b0, b1, b2⟩ := (H6.out.at_ 0 rfl).c3
  go_upto_region 9 with (go_at_call 21; refine (HDO.out _ _ H6.out.a.cac).mono ?_; rintro e w6 ⟨rfl, hc6, ht6⟩; have H7 := Lib.hid (H6.out.did hc6 ht6).swap; clear hc6 ht6 H6 b0 b1 b2)
  clear HDR HDO
  go_upto_region 10 with (go_at_call 13; refine (keysC_any H7.out.a.cac).mono ?_; rw [HN1.out]; rintro e w7 ⟨A7, c7, rfl, hk7, hb7⟩; have hk7' := hk7; unfold KeysOwn at hk7'; rw [keysK_len, HN1.out] at hk7'; have H8 := Lib.hid (H7.out.made hb7 hk7' (Nat.le_refl _)); clear hk7 hk7' hb7 H7)
  go_upto_region 11 with (go_at_call 13; refine (keysC_any H8.out.b.cac).mono ?_; rw [HN2.out]; rintro e w8 ⟨A8, c8, rfl, hk8, hb8⟩; have hk8' := hk8; unfold KeysOwn at hk8'; rw [keysK_len, HN2.out] at hk8'; have H9 := Lib.hid (H8.out.made hb8 hk8' (Nat.le_refl _)); clear hk8 hk8' hb8 H8)
  go_wp2
  go_loopw [13, 14, 15] (fun i j h wr => ∃ (k : Nat) (Ga Gb : Nat → Prop), k ≤ n ∧ h = .int .i64 k ∧ i = .int .i64 (cntN Q1 L k) ∧ j = .int .i64 (cntN Q2 L k) ∧ Hid (TwoC w wr ca cb R D1 D2 Ga Gb [⟨w.heap.size, #[.int .i64 p, .int .i64 q, .int .u64 t], 34⟩] [⟨34, 3, .slice A8 n2 c8, n2, kcs (keysK D2)⟩, ⟨34, 3, .slice A7 n1 c7, n1, kcs (keysK D1)⟩, ⟨34, 3, .slice A4 n c4, n, kcs (keysK L)⟩])) (fun _ _ h _ => (n - intOf h).toNat)
  case atStart => exact ⟨0, _, _, by omega, rfl, by rw [cntN_zero]; rfl, by rw [cntN_zero]; rfl, H9⟩
  case round =>
    obtain ⟨k, Ga, Gb, hj, rfl, rfl, rfl, HR⟩ := hrel
    clear H9
    by_cases hlt : k < n
    · obtain ⟨⟨p', q', t'⟩, hkk⟩ : ∃ x : Ky, (L.getD k zP).1 = x := ⟨_, rfl⟩
      have HKK : Hid ((keysK L).getD k zK = (p', q', t')) := Lib.hid (by rw [keysK_getD, hkk])
      have HLT : Hid (k < L.length) := Lib.hid (by rw [HN.out]; exact hlt)
      have hu1 := cntN_le Q1 L k
      have hu2 := cntN_le Q2 L k
      obtain ⟨ga, cap, hv, hgk, k0, k1, k2⟩ := (keysOwn_row (HR.out.of_ 2 rfl) HN.out).at_ (k := k) (by rw [keysK_len, HN.out]; exact hlt) HKK.out
      rw [keysK_len, HN.out] at hv
      obtain ⟨rfl, rfl⟩ : A4 = some ⟨ga, 0, none⟩ ∧ c4 = cap := by simpa using hv
      clear hv
      by_cases hp : p' = p
      · subst hp
        have hv2 := cntN_no HLT.out (show Q2 (L.getD k zP) = false by rw [HQ2.out, hkk]; simp)
        have HV2 := Lib.hid hv2
        by_cases hq : (p', q', t') = (p', q, t)
        · have hv1 := cntN_no HLT.out (show Q1 (L.getD k zP) = false by rw [HQ1.out, hkk]; simpa using hq)
          have HV1 := Lib.hid hv1
          have hx1 : ∀ w, (binOp .neq 34 (.agg #[.int .i64 p', .int .i64 q', .int .u64 t']) (.agg #[.int .i64 p', .int .i64 q, .int .u64 t])).run Try.prog w = .ok (.bool false) w := fun w => (neqK p' q' t' p' q t w).trans (by rw [hq]; simp)
          obtain ⟨b0, b1, b2⟩ := (HR.out.at_ 0 rfl).c3
          clear hq hkk hv1 hv2
          go_upto_region 16 with fail
          go_quiet (fail)
          generalize hw1 : wr.drewN _ = w1
          have H1 := Lib.hid ((HR.out.quiet (below_drewN (Below.refl _ _) _)).world hw1)
          clear hw1 HR b0 b1 b2 k0 k1 k2 hgk
          obtain ⟨b0, b1, b2⟩ := (H1.out.at_ 0 rfl).c3
          obtain ⟨hgk, k0, k1, k2⟩ := keyAt (H1.out.of_ 2 rfl) HN.out hlt HKK.out
          go_upto_region 20 with fail
          go_quiet (fail)
          generalize hw2 : w1.drewN _ = w2
          have H2 := Lib.hid ((H1.out.quiet (below_drewN (Below.refl _ _) _)).world hw2)
          clear hw2 H1 b0 b1 b2 k0 k1 k2 hgk
          go_wp2
          go_roundw
          case rel => exact ⟨k + 1, Ga, Gb, by omega, by go_num, by rw [HV1.out], by rw [HV2.out], H2⟩
          case measure => simp [intOf]; omega
        · have hv1 := cntN_yes HLT.out (show Q1 (L.getD k zP) = true by rw [HQ1.out, hkk]; exact decide_eq_true hq)
          rw [← HD1.out, HN1.out] at hv1
          have HV1 := Lib.hid hv1
          have hu3 := hv1.2.1
          have HK1 : Hid ((keysK D1).getD (cntN Q1 L k) zK = (p', q', t')) := Lib.hid (by rw [keysK_getD, hv1.2.2, hkk])
          have hx1 : ∀ w, (binOp .neq 34 (.agg #[.int .i64 p', .int .i64 q', .int .u64 t']) (.agg #[.int .i64 p', .int .i64 q, .int .u64 t])).run Try.prog w = .ok (.bool true) w := fun w => (neqK p' q' t' p' q t w).trans (by rw [decide_eq_true hq])
          have hx2 : ∀ w, (binOp .neq 34 (.agg #[.int .i64 p', .int .i64 q', .int .u64 t']) (.agg #[.int .i64 p', .int .i64 q', .int .u64 t'])).run Try.prog w = .ok (.bool false) w := fun w => (neqK p' q' t' p' q' t' w).trans (by simp)
          clear hq hkk hv1 hv2
          generalize cntN Q1 L k = i1 at *
          generalize cntN Q2 L k = i2 at *
          have hge : decide ((i1 : Int) ≥ (n1 : Int)) = false := by simp; omega
          obtain ⟨b0, b1, b2⟩ := (HR.out.at_ 0 rfl).c3
          go_upto_region 16 with fail
          go_quiet (fail)
          generalize hw1 : wr.drewN _ = w1
          have H1 := Lib.hid ((HR.out.quiet (below_drewN (Below.refl _ _) _)).world hw1)
          clear hw1 HR b0 b1 b2 k0 k1 k2 hgk
          obtain ⟨hgk, k0, k1, k2⟩ := keyAt (H1.out.of_ 2 rfl) HN.out hlt HKK.out
          obtain ⟨gb1, cap, hv, hgl, l0, l1, l2⟩ := (keysOwn_row (H1.out.of_ 1 rfl) HN1.out).at_ (k := i1) (by rw [keysK_len, HN1.out]; exact hu3) HK1.out
          rw [keysK_len, HN1.out] at hv
          obtain ⟨rfl, rfl⟩ : A7 = some ⟨gb1, 0, none⟩ ∧ c7 = cap := by simpa using hv
          clear hv
          go_upto_region 17 with fail
          go_quiet (fail)
          generalize hw2 : w1.drewN _ = w2
          have H2 := Lib.hid ((H1.out.quiet (below_drewN (Below.refl _ _) _)).world hw2)
          clear hw2 H1 k0 k1 k2 hgk l0 l1 l2
          obtain ⟨b0, b1, b2⟩ := (H2.out.at_ 0 rfl).c3
          obtain ⟨hgk, k0, k1, k2⟩ := keyAt (H2.out.of_ 2 rfl) HN.out hlt HKK.out
          go_upto_region 20 with fail
          go_quiet (fail)
          generalize hw3 : w2.drewN _ = w3
          have H3 := Lib.hid ((H2.out.quiet (below_drewN (Below.refl _ _) _)).world hw3)
          clear hw3 H2 b0 b1 b2 k0 k1 k2 hgk
          go_wp2
          go_roundw
          case rel => exact ⟨k + 1, Ga, Gb, by omega, by go_num, by rw [HV1.out.1]; go_num, by rw [HV2.out], H3⟩
          case measure => simp [intOf]; omega
      · have hv1 := cntN_yes HLT.out (show Q1 (L.getD k zP) = true by rw [HQ1.out, hkk]; exact decide_eq_true (fun e => hp (congrArg Prod.fst e)))
        have hv2 := cntN_yes HLT.out (show Q2 (L.getD k zP) = true by rw [HQ2.out, hkk]; simpa using hp)
        rw [← HD1.out, HN1.out] at hv1
        rw [← HD2.out, HN2.out] at hv2
        have HV1 := Lib.hid hv1
        have HV2 := Lib.hid hv2
        have hu3 := hv1.2.1
        have hu4 := hv2.2.1
        have HK1 : Hid ((keysK D1).getD (cntN Q1 L k) zK = (p', q', t')) := Lib.hid (by rw [keysK_getD, hv1.2.2, hkk])
        have HK2 : Hid ((keysK D2).getD (cntN Q2 L k) zK = (p', q', t')) := Lib.hid (by rw [keysK_getD, hv2.2.2, hkk])
        have hne : (p', q', t') ≠ (p, q, t) := fun e => hp (congrArg Prod.fst e)
        have hx1 : ∀ w, (binOp .neq 34 (.agg #[.int .i64 p', .int .i64 q', .int .u64 t']) (.agg #[.int .i64 p, .int .i64 q, .int .u64 t])).run Try.prog w = .ok (.bool true) w := fun w => (neqK p' q' t' p q t w).trans (by rw [decide_eq_true hne])
        have hx2 : ∀ w, (binOp .neq 34 (.agg #[.int .i64 p', .int .i64 q', .int .u64 t']) (.agg #[.int .i64 p', .int .i64 q', .int .u64 t'])).run Try.prog w = .ok (.bool false) w := fun w => (neqK p' q' t' p' q' t' w).trans (by simp)
        have hx3 : (p' == p) = false := by simpa using hp
        have hx4 : (p' != p) = true := by simpa using hp
        clear hp hkk hv1 hv2 hne
        generalize cntN Q1 L k = i1 at *
        generalize cntN Q2 L k = i2 at *
        have hge : decide ((i1 : Int) ≥ (n1 : Int)) = false := by simp; omega
        have hge2 : decide ((i2 : Int) ≥ (n2 : Int)) = false := by simp; omega
        obtain ⟨b0, b1, b2⟩ := (HR.out.at_ 0 rfl).c3
        go_upto_region 16 with fail
        go_quiet (fail)
        generalize hw1 : wr.drewN _ = w1
        have H1 := Lib.hid ((HR.out.quiet (below_drewN (Below.refl _ _) _)).world hw1)
        clear hw1 HR b0 b1 b2 k0 k1 k2 hgk
        obtain ⟨hgk, k0, k1, k2⟩ := keyAt (H1.out.of_ 2 rfl) HN.out hlt HKK.out
        obtain ⟨gb1, cap, hv, hgl, l0, l1, l2⟩ := (keysOwn_row (H1.out.of_ 1 rfl) HN1.out).at_ (k := i1) (by rw [keysK_len, HN1.out]; exact hu3) HK1.out
        rw [keysK_len, HN1.out] at hv
        obtain ⟨rfl, rfl⟩ : A7 = some ⟨gb1, 0, none⟩ ∧ c7 = cap := by simpa using hv
        clear hv
        go_upto_region 17 with fail
        go_quiet (fail)
        generalize hw2 : w1.drewN _ = w2
        have H2 := Lib.hid ((H1.out.quiet (below_drewN (Below.refl _ _) _)).world hw2)
        clear hw2 H1 k0 k1 k2 hgk l0 l1 l2
        obtain ⟨b0, b1, b2⟩ := (H2.out.at_ 0 rfl).c3
        obtain ⟨hgk, k0, k1, k2⟩ := keyAt (H2.out.of_ 2 rfl) HN.out hlt HKK.out
        go_upto_region 20 with fail
        go_quiet (fail)
        generalize hw3 : w2.drewN _ = w3
        have H3 := Lib.hid ((H2.out.quiet (below_drewN (Below.refl _ _) _)).world hw3)
        clear hw3 H2 b0 b1 b2 k0 k1 k2 hgk
        obtain ⟨hgk, k0, k1, k2⟩ := keyAt (H3.out.of_ 2 rfl) HN.out hlt HKK.out
        obtain ⟨gb, cap, hv, hgl, l0, l1, l2⟩ := (keysOwn_row (H3.out.of_ 0 rfl) HN2.out).at_ (k := i2) (by rw [keysK_len, HN2.out]; exact hu4) HK2.out
        rw [keysK_len, HN2.out] at hv
        obtain ⟨rfl, rfl⟩ : A8 = some ⟨gb, 0, none⟩ ∧ c8 = cap := by simpa using hv
        clear hv
        go_upto_region 21 with fail
        go_quiet (fail)
        generalize hw4 : w3.drewN _ = w4
        have H4 := Lib.hid ((H3.out.quiet (below_drewN (Below.refl _ _) _)).world hw4)
        clear hw4 H3 k0 k1 k2 hgk l0 l1 l2
        go_wp2
        go_roundw
        case rel => exact ⟨k + 1, Ga, Gb, by omega, by go_num, by rw [HV1.out.1]; go_num, by rw [HV2.out.1]; go_num, H4⟩
        case measure => simp [intOf]; omega
    · obtain rfl : k = n := by omega
      have e1 : cntN Q1 L k = n1 := by rw [cntN_all Q1 L HN.out, ← HD1.out, HN1.out]
      have e2 : cntN Q2 L k = n2 := by rw [cntN_all Q2 L HN.out, ← HD2.out, HN2.out]
      rw [e1, e2]
      clear e1 e2
      obtain ⟨b0, b1, b2⟩ := (HR.out.at_ 0 rfl).c3
      go_wp2_with (go_at_call 14; refine (getC_any HR.out.a.cac p q t 0 0 false false false false HK.out (by rw [HG.out]; rfl) false (by rw [HG.out]; rfl)).mono ?_; rintro e w10 ⟨rfl, hb10⟩; have H10 := Lib.hid ((HR.out.quiet hb10).quiet (below_alloc1 _ (.cells #[.int .u64 0, .bool false, .bool false, .bool false, .bool false, .int .u8 0] 38))); clear hb10)
      go_ret
      exact ⟨rfl, H10.out.below⟩
end Go.Proofs.Ytefllfoilkbboaa
