/- The walk of TlbRoom. (Laid by tools/gen_l13.py.) -/
import Derived.Test.YtddbjbdhbeijjaaDoorGQmQnL13p
import Derived.Deep.RegionHeld3
namespace Go.Proofs.YtddbjbdhbeijjaaDoor
set_option linter.unusedVariables false
set_option linter.unusedSimpArgs false
open Go.ChangeShapes Go.WideShapes Go.ChangeAt Go.RowKit Go.Joins

set_option maxRecDepth 100000 in
set_option maxHeartbeats 6400000 in
theorem tlbRoom_walk (A : Option Addr) (c : Nat) (ds : List Dt) (w : World) (ht : Tabs w) (hl : ds.length ≤ maxLen) (hd : DtsIn w A ds) (hok : DtsOk ds) (m pk : Int) (hm : 0 ≤ m) (hm2 : m < 256) (hk : I64 pk) :
    Calls Tryd.prog 8 #[.slice A ds.length c, .int .u8 m, .int .i64 pk] w fun e w' => e = .returned (.bool true) ∧ Below w.heap.size w w' := by
  have HT := Lib.hid ht
  have HL1 := Lib.hid hl
  have HD := Lib.hid hd
  have HOK := Lib.hid hok
  have HPK := Lib.hid hk
  obtain ⟨R, hR⟩ : ∃ R : Nat, (R : Int) = m % 5 := ⟨(m % 5).toNat, by omega⟩
  have hR4 : R ≤ 4 := by omega
  have e5 : m.tmod 5 = R := (Int.tmod_eq_emod_of_nonneg hm).trans hR.symm
  have e6 : IntKind.i64.wrap (R : Int) = R := by rw [IntKind.wrap_i64]; omega
  have e7 : IntKind.u8.wrap (R : Int) = R := by show (R : Int) % 256 = R; omega
  have HRM : Hid (roomF (R : Int) = R) := Lib.hid (by unfold roomF; rw [if_neg (by omega), if_pos (by omega)]; simp)
  have HR64 : Hid (R ≤ 64) := Lib.hid (by omega)
  have hmm : mostT ds ≤ 100 ∧ mostT ds ≤ ds.length ∧ (mostT ds = 100 ∨ mostT ds = ds.length) := by unfold mostT; omega
  obtain ⟨mn, hmn⟩ : ∃ m, mostT ds = m := ⟨_, rfl⟩
  rw [hmn] at hmm
  obtain ⟨hm0, hm1, hm3⟩ := hmm
  have HM2 := Lib.hid hm3
  have hl9 : ds.length ≤ 9223372036854775807 := by unfold maxLen at hl; omega
  have H0 := Lib.hid (Has.start0 w (fun _ => False))
  clear ht hl hd hok hk hm3 hmn hR hm hm2
  go_enter Tryd.func8, Tryd.ntmps8
  go_upto_region 7 with (first | (go_at_call 9; refine (awake13_any _ (H0.out.tabs HT.out off_no)).mono ?_; rintro e w1 ⟨rfl, hb1⟩; have H1 := Lib.hid (H0.out.quiet hb1); clear hb1 H0) | (go_at_call 10; refine (newT_any (R : Int) _).mono ?_; rw [HRM.out]; rintro e w2 ⟨q, Gp, rfl, hH⟩; have H2 := Lib.hid (H1.out.join hH); clear hH H1) | (go_at_call 11; refine (rnewC_any (R : Int) _).mono ?_; rw [HRM.out]; rintro e w3 ⟨rfl, hb⟩; have H3 := Lib.hid (H2.out.quiet hb); clear hb H2))
  generalize hq : w3.alloc _ = w4
  have H4 : Hid (Has w w4 (fun _ => False) [⟨tlbT q R [], Gp⟩] [⟨w3.heap.size, #[.slice none 0 0, .int .i64 (R : Int)], 28⟩] [rowQ (.slice none 0 0) []]) := Lib.hid (((H3.out.got (PairsOwn.nil _ 0) (by simp [Value.ownBlock])).new (b := w3.heap.size) rfl #[.slice none 0 0, .int .i64 (R : Int)] 28).world hq)
  clear hq H3
  generalize w3.heap.size = bx at *
  go_wp2
  go_loopw [11] (fun i wr => ∃ (k : Nat) (G : Nat → Prop) (A0 : Option Addr) (n0 c0 : Nat), k ≤ mn ∧ i = .int .i64 k ∧ Hid (Has w wr (fun _ => False) [⟨tlbT q R (playD R ds k), G⟩] [⟨bx, #[.slice A0 n0 c0, .int .i64 (R : Int)], 28⟩] [rowQ (.slice A0 n0 c0) (playD R ds k)])) (fun i _ => (100 - intOf i).toNat)
  case atStart => exact ⟨0, _, none, 0, 0, by omega, rfl, H4⟩
  case round =>
    obtain ⟨k, G, A0, n0, c0, hk, rfl, HL⟩ := hrel
    clear H4
    by_cases hlt : k < mn
    · have hlt2 := hlt
      have hks : k < ds.length := by omega
      have h100 : (k : Int) < 100 := by omega
      obtain ⟨ad, hAd, hde⟩ := HD.out k hks
      subst hAd
      have HY := Lib.hid (HOK.out k hks)
      have HNX : Hid (playD R ds (k + 1) = doD R (playD R ds k) (ds.getD k zDt)) := Lib.hid rfl
      generalize playD R ds k = L at *
      generalize ds.getD k zDt = y at *
      have HDE := Lib.hid hde
      clear hde
      obtain ⟨L2, hL2⟩ : ∃ L2, doD R L y = L2 := ⟨_, rfl⟩
      have HL2 := Lib.hid hL2
      have HNX2 : Hid (playD R ds (k + 1) = L2) := Lib.hid (HNX.out.trans hL2)
      clear HNX hL2
      go_upto_region 10 with fail
      have H5 := Lib.hid (HL.out.quiet (Kept.drew0 wr))
      clear HL
      refine wp_region_held_drew (S := fun w' => Below w.heap.size w w') (by kernel_rfl) H5.out.below0 (fun hHeld => ?_)
      generalize wr.drew = w5 at *
      refine tk (v := ?_) 0 ?_ ?_
      rotate_left
      · intro w hSw
        go_simp
        (try with_reducible rfl)
      (try simp only [Act.put, List.setIfInBounds_toArray, List.set_cons_zero, List.set_cons_succ])
      refine tk (v := ?_) 2 ?_ ?_
      rotate_left
      · intro w hSw
        go_simp
        (try with_reducible rfl)
      (try simp only [Act.put, List.setIfInBounds_toArray, List.set_cons_zero, List.set_cons_succ])
      refine tk (v := ?_) 3 ?_ ?_
      rotate_left
      · intro w hSw
        go_simp
        (try with_reducible rfl)
      (try simp only [Act.put, List.setIfInBounds_toArray, List.set_cons_zero, List.set_cons_succ])
      refine tk (v := ?_) 4 ?_ ?_
      rotate_left
      · intro w hSw
        go_simp
        (try with_reducible rfl)
      (try simp only [Act.put, List.setIfInBounds_toArray, List.set_cons_zero, List.set_cons_succ])
      refine tk (v := .agg (deedC y)) 5 ?_ ?_
      · intro w hSw
        exact exec_loadT rfl rfl (HDE.out.below hSw).load
      (try simp only [Act.put, List.setIfInBounds_toArray, List.set_cons_zero, List.set_cons_succ])
      refine wpAnyH_ready (rs := [1]) (by kernel_rfl) (by simp) ?_
      refine anyH_one rfl (fun K hK => ?_) ?_
      · obtain ⟨a0, a1⟩ := (H5.out.at_ 0 rfl).c2
        go_simp
        clear a0 a1
        refine hK.out _ _ (hHeld) (fun hHeld => ?_)
        clear hK K
        (try simp only [Act.put, List.setIfInBounds_toArray, List.set_cons_zero, List.set_cons_succ])
        refine wpAnyH_ready (rs := [6]) (by kernel_rfl) (by simp) ?_
        refine anyH_one rfl (fun K hK => ?_) ?_
        · go_simp
          refine (do13_any (H5.out.the 0 rfl) HR64.out (H5.out.tabs HT.out off_no) (H5.out.offs HT.out off_no 0 rfl) _ H5.out.own1 (fun i hi hg => H5.out.off 0 rfl i hi ⟨_, List.mem_cons_self .., hg⟩) y HY.out).mono ?_
          rw [HL2.out]
          rintro e w6 ⟨u0, rfl, G2, hH⟩
          obtain ⟨Z0, z0, y0, rfl⟩ := hH.own1.slice
          have H6 := Lib.hid (H5.out.doesT hH)
          clear hH H5
          refine hK.out _ _ (H6.out.below0) (fun hHeld => ?_)
          clear hK K
          (try simp only [Act.put, List.setIfInBounds_toArray, List.set_cons_zero, List.set_cons_succ])
          refine wpAnyH_ready (rs := [7]) (by kernel_rfl) (by simp) ?_
          refine anyH_one rfl (fun K hK => ?_) ?_
          · obtain ⟨a0, a1⟩ := (H6.out.at_ 0 rfl).c2
            have g0 := (H6.out.at_ 0 rfl).fz 0; have g1 := (H6.out.at_ 0 rfl).fz 1
            go_simp
            generalize hq9 : (w6.setCell _ _).setCell _ _ = w7
            have H7 := Lib.hid ((H6.out.put 0 rfl (turnB2 _ _ _ _) (setB2 (H6.out.at_ 0 rfl) _ _)).world hq9)
            clear hq9 H6 a0 a1 g0 g1
            refine hK.out _ _ (H7.out.below0) (fun hHeld => ?_)
            clear hK K
            (try simp only [Act.put, List.setIfInBounds_toArray, List.set_cons_zero, List.set_cons_succ])
            refine wpAnyH_done (by kernel_rfl) ?_ _
            clear hHeld
            have hln := (H7.out.the 0 rfl).len.1
            have hdl : decide ((R : Int) < (L2.length : Int)) = false := decide_eq_false (by omega)
            go_wp2_with (go_at_call 16; refine H7.out.tLen.mono ?_; rintro e w30 ⟨rfl, hb⟩; have H30 := Lib.hid (H7.out.quiet hb); clear hb H7)
            go_roundw
            case rel => exact ⟨k + 1, _, Z0, z0, y0, by omega, by go_num, by rw [HNX2.out]; exact H30⟩
            case measure => simp [intOf]; omega
          exact AllReadyH.nil
        exact AllReadyH.nil
      exact AllReadyH.nil
    · obtain rfl : k = mn := by omega
      by_cases h2 : k < ds.length
      · have h3 : decide ((k : Int) < 100) = false := by
          have := HM2.out
          exact decide_eq_false (by omega)
        go_upto_region 14 with (go_at_call 16; refine HL.out.tLen.mono ?_; rintro e w31 ⟨rfl, hb⟩; have H31 := Lib.hid (HL.out.quiet hb); clear hb HL)
        generalize hv : playD R ds k = L at *
        have hln := (H31.out.the 0 rfl).len.1
        go_upto_region 15 with (go_at_call 26; refine (H31.out.tEvict pk HPK.out).mono ?_; rintro e w32 ⟨rfl, hE⟩; obtain ⟨G32, hE2⟩ := hE.out; have H32 := Lib.hid hE2; clear hE hE2 H31)
        have hev := evK_len L pk
        obtain ⟨n, hn⟩ : ∃ n, L.length = n := ⟨_, rfl⟩
        rw [hn] at hev hln ⊢
        clear hv
        rcases Nat.eq_zero_or_pos n with h0 | h0
        · subst h0
          have h9 : (evK L pk).length = 0 := by omega
          go_wp2_with (go_at_call 16; refine H32.out.tLen.mono ?_; rintro e w33 ⟨rfl, hb⟩; have H33 := Lib.hid (H32.out.quiet hb); clear hb H32)
          go_ret
          exact ⟨rfl, H33.out.below0⟩
        · have h9 : (((n - 1 : Nat)) : Int) = (n : Int) - 1 := by omega
          have e8 : IntKind.i64.wrap ((n : Int) - 1) = (n : Int) - 1 := by rw [IntKind.wrap_i64]; omega
          go_wp2_with (go_at_call 16; refine H32.out.tLen.mono ?_; rintro e w33 ⟨rfl, hb⟩; have H33 := Lib.hid (H32.out.quiet hb); clear hb H32)
          go_ret
          exact ⟨rfl, H33.out.below0⟩
      · skip
        go_upto_region 14 with (go_at_call 16; refine HL.out.tLen.mono ?_; rintro e w31 ⟨rfl, hb⟩; have H31 := Lib.hid (HL.out.quiet hb); clear hb HL)
        generalize hv : playD R ds k = L at *
        have hln := (H31.out.the 0 rfl).len.1
        go_upto_region 15 with (go_at_call 26; refine (H31.out.tEvict pk HPK.out).mono ?_; rintro e w32 ⟨rfl, hE⟩; obtain ⟨G32, hE2⟩ := hE.out; have H32 := Lib.hid hE2; clear hE hE2 H31)
        have hev := evK_len L pk
        obtain ⟨n, hn⟩ : ∃ n, L.length = n := ⟨_, rfl⟩
        rw [hn] at hev hln ⊢
        clear hv
        rcases Nat.eq_zero_or_pos n with h0 | h0
        · subst h0
          have h9 : (evK L pk).length = 0 := by omega
          go_wp2_with (go_at_call 16; refine H32.out.tLen.mono ?_; rintro e w33 ⟨rfl, hb⟩; have H33 := Lib.hid (H32.out.quiet hb); clear hb H32)
          go_ret
          exact ⟨rfl, H33.out.below0⟩
        · have h9 : (((n - 1 : Nat)) : Int) = (n : Int) - 1 := by omega
          have e8 : IntKind.i64.wrap ((n : Int) - 1) = (n : Int) - 1 := by rw [IntKind.wrap_i64]; omega
          go_wp2_with (go_at_call 16; refine H32.out.tLen.mono ?_; rintro e w33 ⟨rfl, hb⟩; have H33 := Lib.hid (H32.out.quiet hb); clear hb H32)
          go_ret
          exact ⟨rfl, H33.out.below0⟩
end Go.Proofs.YtddbjbdhbeijjaaDoor
