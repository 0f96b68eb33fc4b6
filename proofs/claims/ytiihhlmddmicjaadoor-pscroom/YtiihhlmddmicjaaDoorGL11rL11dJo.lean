/- Several texts of ours in one: L11r, L11d, Jo. -/
import Derived.Test.YtiihhlmddmicjaaDoorGJmL11aOq
import Derived.Test.YtiihhlmddmicjaaDoorGOjL11gJn
/- The walk of PscRoom. (Laid by tools/gen_l11.py.) -/
namespace Go.Proofs.YtiihhlmddmicjaaDoor
set_option linter.unusedVariables false
set_option linter.unusedSimpArgs false
open Go.ChangeShapes Go.WideShapes Go.ChangeAt Go.RowKit Go.Joins

set_option maxRecDepth 100000 in
set_option maxHeartbeats 12800000 in
theorem pscRoom_walk (A : Option Addr) (c : Nat) (ds : List (Int × Int × Int × Int)) (B : Option Addr) (d : Nat) (ns : List Int) (r : Int) (w : World) (hs : Shifts w) (hl : ds.length ≤ maxLen) (hd : PutsIn w A ds) (hok : PutsOk ds) (hl2 : ns.length ≤ maxLen) (hn : NsIn w B ns) (hnk : NsOk ns) (r0 : 0 ≤ r) (r1 : r ≤ 255) :
    Calls Tryd.prog 7 #[.slice A ds.length c, .slice B ns.length d, .int .u8 r] w fun e w' => e = .returned (.bool true) ∧ Below w.heap.size w w' := by
  have t0 : r.tmod 4 = r % 4 := Int.tmod_eq_emod_of_nonneg r0
  have hz0 : 0 ≤ r % 4 := by omega
  have hz1 : r % 4 < 4 := by omega
  obtain ⟨z, hz⟩ : ∃ z, r % 4 = z := ⟨_, rfl⟩
  rw [hz] at t0 hz0 hz1
  clear hz
  have t1 : IntKind.u8.wrap z = z := by show z % 256 = z; omega
  have t2 : IntKind.i64.wrap z = z := by rw [IntKind.wrap_i64]; omega
  have t3 : IntKind.i64.wrap r = r := by rw [IntKind.wrap_i64]; omega
  have t4 : IntKind.i64.wrap (z - 1) = z - 1 := by rw [IntKind.wrap_i64]; omega
  have HRI : Hid (I64 r) := Lib.hid (by unfold I64; omega)
  have HS := Lib.hid hs
  have HD := Lib.hid hd
  have HOK := Lib.hid hok
  have HL1 := Lib.hid hl
  obtain ⟨f, hf⟩ : ∃ f, putSt ds (mostP ds) = f := ⟨_, rfl⟩
  have HFF := Lib.hid hf
  clear hs hd hok hl hf
  have HN := Lib.hid hn
  have HNK := Lib.hid hnk
  have HL2 := Lib.hid hl2
  obtain ⟨R, hR⟩ : ∃ R : Nat, roomF z = R := ⟨_, rfl⟩
  have HRR := Lib.hid hR
  obtain ⟨L, hL⟩ : ∃ L, warmN f R ns (mostN ns) = L := ⟨_, rfl⟩
  have HLL := Lib.hid hL
  have HW := Lib.hid (hL ▸ warm_warm f R ns (mostN ns))
  clear hn hnk hR hL hl2
  have HZR : Hid ((R : Int) = z) := Lib.hid (by rw [← HRR.out]; unfold roomF; rw [if_neg (by omega), if_pos (by omega)]; omega)
  clear r0 r1
  go_enter Tryd.func7, Tryd.ntmps7
  go_upto_region 6 with (first | (go_at_call 9; refine (awake11_any _ HS.out).mono ?_; rintro e w1 ⟨rfl, hb1⟩; have H1 := Lib.hid ((Has.start0 w (fun _ => False)).quiet hb1); clear hb1) | (go_at_call 17; refine (builtH_any _ _ c ds HL1.out (puts_below HD.out H1.out.below0) HOK.out).mono ?_; rw [HFF.out]; rintro e w2 ⟨m, G, rfl, hH⟩; have H2 := Lib.hid (H1.out.join hH); clear hH H1) | (go_at_call 18; refine (warm_any (H2.out.the 0 rfl) (by decide) (H2.out.shifts HS.out (fun h => h)) (H2.out.no0 HS.out (fun h => h) 0 rfl) z B ns d HL2.out (ns_same HN.out H2.out.turn) (ns_off HN.out (H2.out.late 0 rfl)) HNK.out).mono ?_; rw [HRR.out, HLL.out]; rintro e w3 ⟨q, rfl, tr, Gm, Gp, hH⟩; have H3 : Hid (Has w w3 (fun _ => False) [⟨memT m 16 f tr 200, Gm⟩, ⟨pscT q R L, Gp⟩] [] []) := Lib.hid (H2.out.call 0 rfl hH); clear hH H2))
  have HLE : Hid (∀ k : Nat, k < 3 → (L k).length ≤ R) := Lib.hid fun k hk => ((H3.out.the 1 rfl).len hk).1
  go_wp2
  go_loopw [10] (fun i wr => ∃ (k : Nat), k ≤ 6 ∧ i = .int .i64 k ∧ Hid (Has w wr (fun _ => False) [⟨memT m 16 f tr 200, Gm⟩, ⟨pscT q R L, Gp⟩] [] [])) (fun i _ => (6 - intOf i).toNat)
  case atStart => exact ⟨0, by omega, rfl, H3⟩
  case round =>
    obtain ⟨k, hk, rfl, HL⟩ := hrel
    clear H3
    by_cases hlt : k < 6
    · have hle : lenF L k ≤ z := by
        have := len_le HLE.out (k : Int)
        have := HZR.out
        omega
      have HLN := Lib.hid (lenP_any (HL.out.the 1 rfl) (k : Int))
      generalize lenF L (k : Int) = nl at *
      go_wp2_with (go_at_call 16; refine HLN.out.mono ?_; rintro e w5 ⟨rfl, hb⟩; have H5 := Lib.hid (HL.out.quiet hb); clear hb)
      go_roundw
      case rel => exact ⟨k + 1, by omega, by go_num, H5⟩
      case measure => simp [intOf]; omega
    · obtain rfl : k = 6 := by omega
      obtain ⟨n4, hn4⟩ : ∃ n, lenF (evL L 4 r) 4 = n := ⟨_, rfl⟩
      have HN4 := Lib.hid hn4
      have hb4 : ((¬ (z - 1 < 0) ∧ 0 ≤ z - 1) ∧ n4 ≤ z - 1) ∨ (z = 0 ∧ n4 ≤ 0) := by
        have h1 := len_ev (HLE.out 0 (by decide)) r
        have h2 := HZR.out
        rw [hn4] at h1
        omega
      clear hn4
      rcases hb4 with ⟨⟨hb5, hb6⟩, hb4⟩ | ⟨rfl, hb4⟩
      all_goals
        go_upto_region 12 with (first | (go_at_call 26; refine (evictP_any (HL.out.the 1 rfl) 4 r HRI.out).mono ?_; rintro e w6 ⟨rfl, hP, hT⟩; have H6 := Lib.hid (HL.out.did 1 rfl (firm_psc _ _ _) hP hT); clear hP hT))
        go_upto_region 13 with (go_at_call 16; refine (lenP_any (H6.out.the 1 rfl) 4).mono ?_; rw [HN4.out]; rintro e w7 ⟨rfl, hb⟩; have H7 := Lib.hid (H6.out.quiet hb); clear hb H6)
        go_upto_region 14 with (go_at_call 27; refine (clearP_any (H7.out.the 1 rfl)).mono ?_; rintro e w8 ⟨rfl, hP, hT⟩; have H8 := Lib.hid (H7.out.did 1 rfl (firm_psc _ _ _) hP hT); clear hP hT H7)
        go_upto_region 21 with (first | (go_at_call 22; refine (fillP_nil 1 0 _).mono ?_; rintro e w9 ⟨rfl, hb⟩; have H9 := Lib.hid (H8.out.quiet hb); clear hb H8) | (go_at_call 24; refine (dropPageP_nil 1 0 _ (H9.out.shifts HS.out (fun h => h)) w0).mono ?_; rintro e w10 ⟨rfl, hb⟩; have H10 := Lib.hid (H9.out.quiet hb); clear hb H9) | (go_at_call 25; refine (dropOfP_nil 1 _).mono ?_; rintro e w11 ⟨rfl, hb⟩; have H11 := Lib.hid (H10.out.quiet hb); clear hb H10) | (go_at_call 27; refine (clearP_nil _).mono ?_; rintro e w12 ⟨rfl, hb⟩; have H12 := Lib.hid (H11.out.quiet hb); clear hb H11) | (go_at_call 26; refine (evictP_nil 4 0 _).mono ?_; rintro e w13 ⟨rfl, hb⟩; have H13 := Lib.hid (H12.out.quiet hb); clear hb H12) | (go_at_call 13; refine (deepP_nil 1 0 _ (H13.out.shifts HS.out (fun h => h)) w0).mono ?_; rintro e w14 ⟨rfl, hb⟩; have H14 := Lib.hid (H13.out.quiet hb); clear hb H13))
        generalize hq : w14.alloc _ = w15
        have H15 := Lib.hid ((H14.out.quiet (below_alloc1 w14 (.cells #[.int .i64 0, .int .u64 0, .bool false, .bool false, .bool false] 41))).world hq)
        clear hq H14
        have hls := least_top
        go_wp2_with (first | (go_at_call 16; first | (refine (lenP_any (H15.out.the 1 rfl) 4).mono ?_; rw [len_none]; rintro e w16 ⟨rfl, hb⟩; have H16 := Lib.hid (H15.out.quiet hb); clear hb H15) | (refine (lenP_any (H16.out.the 1 rfl) 3).mono ?_; rw [len_none]; rintro e w17 ⟨rfl, hb⟩; have H17 := Lib.hid (H16.out.quiet hb); clear hb H16) | (refine (lenP_any (H17.out.the 1 rfl) 2).mono ?_; rw [len_none]; rintro e w18 ⟨rfl, hb⟩; have H18 := Lib.hid (H17.out.quiet hb); clear hb H17) | (refine (lenP_nil 4 _).mono ?_; rintro e w19 ⟨rfl, hb⟩; have H19 := Lib.hid (H18.out.quiet hb); clear hb H18)) | (go_at_call 29; refine (all_any _).mono ?_; rintro e w20 ⟨rfl, hb⟩; have H20 := Lib.hid (H19.out.quiet hb); clear hb H19) | (go_at_call 28; refine (least_any _ _ _ _ _ _ _).mono ?_; rw [least_top]; rintro e w21 ⟨rfl, hb⟩; have H21 := Lib.hid (H20.out.quiet hb); clear hb H20))
        go_ret
        exact ⟨rfl, H21.out.below0⟩
end Go.Proofs.YtiihhlmddmicjaaDoor
/- The walk of PscDrops. (Laid by tools/gen_l11.py.) -/
namespace Go.Proofs.YtiihhlmddmicjaaDoor
set_option linter.unusedVariables false
set_option linter.unusedSimpArgs false
open Go.ChangeShapes Go.WideShapes Go.ChangeAt Go.RowKit Go.Joins

set_option maxRecDepth 100000 in
set_option maxHeartbeats 12800000 in
theorem pscDrops_walk (A : Option Addr) (c : Nat) (ds : List (Int × Int × Int × Int)) (B : Option Addr) (d : Nat) (ns : List Int) (n0 n1 : Int) (w : World) (hs : Shifts w) (hl : ds.length ≤ maxLen) (hd : PutsIn w A ds) (hok : PutsOk ds) (hl2 : ns.length ≤ maxLen) (hn : NsIn w B ns) (hnk : NsOk ns) (h00 : 0 ≤ n0) (h01 : n0 < 4294967296) (h10 : 0 ≤ n1) (h11 : n1 < 4294967296) :
    Calls Tryd.prog 6 #[.slice A ds.length c, .slice B ns.length d, .agg #[.int .u32 n0, .int .u32 n1]] w fun e w' => e = .returned (.bool true) ∧ Below w.heap.size w w' := by
  have HS := Lib.hid hs
  have HD := Lib.hid hd
  have HOK := Lib.hid hok
  have HL1 := Lib.hid hl
  obtain ⟨f, hf⟩ : ∃ f, putSt ds (mostP ds) = f := ⟨_, rfl⟩
  have HFF := Lib.hid hf
  clear hs hd hok hl hf
  have HN := Lib.hid hn
  have HNK := Lib.hid hnk
  have HL2 := Lib.hid hl2
  obtain ⟨R, hR⟩ : ∃ R : Nat, roomF 8 = R := ⟨_, rfl⟩
  have HRR := Lib.hid hR
  obtain ⟨L, hL⟩ : ∃ L, warmN f R ns (mostN ns) = L := ⟨_, rfl⟩
  have HLL := Lib.hid hL
  have HW := Lib.hid (hL ▸ warm_warm f R ns (mostN ns))
  clear hn hnk hR hL hl2
  obtain ⟨a, ha⟩ : ∃ a, nearF n0 = a := ⟨_, rfl⟩
  have HAWa := Lib.hid (ha ▸ near_w n0)
  have HABa := Lib.hid (ha ▸ near_lt n0)
  have HNEa := Lib.hid (ha ▸ fun w => near_any n0 w h00 h01)
  clear ha
  obtain ⟨b, hb⟩ : ∃ a, nearF n1 = a := ⟨_, rfl⟩
  have HAWb := Lib.hid (hb ▸ near_w n1)
  have HABb := Lib.hid (hb ▸ near_lt n1)
  have HNEb := Lib.hid (hb ▸ fun w => near_any n1 w h10 h11)
  clear hb
  clear h00 h01 h10 h11
  obtain ⟨o, ho⟩ : ∃ o, deepK L 1 b = o := ⟨_, rfl⟩
  have HO := Lib.hid ho
  clear ho
  obtain ⟨⟨l1, t1, W1, U1, X1, is1⟩, hV1⟩ : ∃ z, deepZ o = z := ⟨_, rfl⟩
  have HV1 := Lib.hid hV1
  clear hV1
  obtain ⟨ia, hia⟩ : ∃ i, bits .and .u64 (a / 549755813888) 511 = i := ⟨_, rfl⟩
  obtain ⟨ib, hib⟩ : ∃ i, bits .and .u64 (b / 549755813888) 511 = i := ⟨_, rfl⟩
  have HAP : Hid (ia ≠ ib → NdL L → deepK (dropL L 1 a) 1 b = o) := Lib.hid fun h hn => by
    rw [drop_far hn 1 a b (tag_apart HABa.out HABb.out (fun e => h (by rw [← hia, ← hib, e])))]
    exact HO.out
  have hq1 := eqlPlace l1 t1 W1 U1 X1
  have H0 := Lib.hid ((Has.start0 w (fun _ => False)).new (b := w.heap.size) rfl #[.int .u32 n0, .int .u32 n1] 71)
  by_cases heq : deepK (dropL L 1 a) 1 b = o
  · have HO2 := Lib.hid heq
    clear heq
    go_enter Tryd.func6, Tryd.ntmps6
    go_upto_region 1 with fail
    generalize hw0 : w.alloc _ = v0
    have H0 := Lib.hid (H0.out.world hw0)
    clear hw0
    generalize w.heap.size = bz at H0 ⊢
    go_upto_region 9 with (first | (go_at_call 9; refine (awake11_any _ (H0.out.shifts HS.out (fun h => h))).mono ?_; rintro e w1 ⟨rfl, hb1⟩; have H1 := Lib.hid (H0.out.quiet hb1); clear hb1) | (go_at_call 17; refine (builtH_any _ _ c ds HL1.out (puts_below HD.out H1.out.below0) HOK.out).mono ?_; rw [HFF.out]; rintro e w2 ⟨m, G, rfl, hH⟩; have H2 := Lib.hid (H1.out.join hH); clear hH H1) | (go_at_call 18; first | (refine (warm_any (H2.out.the 0 rfl) (by decide) (H2.out.shifts HS.out (fun h => h)) (H2.out.no0 HS.out (fun h => h) 0 rfl) 8 B ns d HL2.out (ns_same HN.out H2.out.turn) (ns_off HN.out (H2.out.late 0 rfl)) HNK.out).mono ?_; rw [HRR.out, HLL.out]; rintro e w3 ⟨q, rfl, tr, Gm, Gp, hH⟩; have H3 : Hid (Has w w3 (fun _ => False) [⟨memT m 16 f tr 200, Gm⟩, ⟨pscT q R L, Gp⟩] [⟨bz, #[.int .u32 n0, .int .u32 n1], 71⟩] []) := Lib.hid (H2.out.call 0 rfl hH); clear hH H2) | (refine (warm_any (H3.out.the 0 rfl) (by decide) (H3.out.shifts HS.out (fun h => h)) (H3.out.no0 HS.out (fun h => h) 0 rfl) 8 B ns d HL2.out (ns_same HN.out H3.out.turn) (ns_off HN.out (H3.out.late 0 rfl)) HNK.out).mono ?_; rw [HRR.out, HLL.out]; rintro e w4 ⟨q2, rfl, tr2, Gm2, Gq, hH⟩; have H4 : Hid (Has w w4 (fun _ => False) [⟨memT m 16 f tr2 300, Gm2⟩, ⟨pscT q R L, Gp⟩, ⟨pscT q2 R L, Gq⟩] [⟨bz, #[.int .u32 n0, .int .u32 n1], 71⟩] []) := Lib.hid (H3.out.call 0 rfl hH); clear hH H3; obtain ⟨z0, z1⟩ := (H4.out.at_ 0 rfl).c2)) | (go_at_call 19; first | ((with_reducible refine (HNEa.out _).mono ?_); rintro e _ ⟨rfl, rfl⟩) | ((with_reducible refine (HNEb.out _).mono ?_); rintro e _ ⟨rfl, rfl⟩)))
    clear z0 z1
    have HND : Hid (NdL L) := Lib.hid fun k hk => (H4.out.the 1 rfl).nodup hk
    have HS1 : Hid (deepK (dropL L 1 a) 1 a = none) := Lib.hid (drop_self HND.out 1 a)
    have HS3 : Hid (deepK (dropL (dropL L 1 a) 2 b) 1 b = o) := Lib.hid ((drop_pcid (drop_nd HND.out 1 a) (by decide) b b).trans HO2.out)
    have HS4 : Hid (deepK (ofL L 2) 1 b = o) := Lib.hid ((of_pcid (by decide) b).trans HO.out)
    have HS5 : Hid (∀ l, lenF (ofL (ofL L 2) 1) l = 0) := Lib.hid HW.out.none
    go_upto_region 10 with (go_at_call 13; refine (deepP_any (H4.out.the 1 rfl) (H4.out.shifts HS.out (fun h => h)) 1 b i64_1 HAWb.out).mono ?_; rw [HO.out, deepV_z HV1.out]; rintro e w5 ⟨rfl, hb⟩; have H5 := Lib.hid (H4.out.quiet hb); clear hb H4)
    generalize hq : w5.alloc _ = w6
    have H6 := Lib.hid ((H5.out.new (b := w5.heap.size) rfl #[.int .i64 l1, .int .u64 t1, .bool W1, .bool U1, .bool X1] 41).world hq)
    clear hq H5
    generalize w5.heap.size = b1 at *
    go_upto_region 12 with (first | (go_at_call 24; refine (dropPageP_any (H6.out.the 1 rfl) (H6.out.shifts HS.out (fun h => h)) (H6.out.no0 HS.out (fun h => h) 1 rfl) 1 a HAWa.out).mono ?_; rintro e w7 ⟨rfl, hP, hT⟩; have H7 := Lib.hid (H6.out.did 1 rfl (firm_psc _ _ _) hP hT); clear hP hT H6) | (go_at_call 13; refine (deepP_any (H7.out.the 1 rfl) (H7.out.shifts HS.out (fun h => h)) 1 a i64_1 HAWa.out).mono ?_; rw [HS1.out, deepV_none]; rintro e w8 ⟨rfl, hb⟩; have H8 := Lib.hid (H7.out.quiet hb); clear hb H7))
    generalize hq : w8.alloc _ = w9
    have H9 := Lib.hid ((H8.out.quiet (below_alloc1 w8 (.cells #[.int .i64 0, .int .u64 0, .bool false, .bool false, .bool false] 41))).world hq)
    clear hq H8
    go_upto_region 13 with (go_at_call 13; refine (deepP_any (H9.out.the 1 rfl) (H9.out.shifts HS.out (fun h => h)) 1 b i64_1 HAWb.out).mono ?_; rw [HO2.out, deepV_z HV1.out]; rintro e w10 ⟨rfl, hb⟩; have H10 := Lib.hid (H9.out.quiet hb); clear hb H9)
    generalize hq : w10.alloc _ = w11
    have H11 := Lib.hid ((H10.out.new (b := w10.heap.size) rfl #[.int .i64 l1, .int .u64 t1, .bool W1, .bool U1, .bool X1] 41).world hq)
    clear hq H10
    generalize w10.heap.size = b2 at *
    go_upto_region 15 with (first | (go_at_call 24; refine (dropPageP_any (H11.out.the 1 rfl) (H11.out.shifts HS.out (fun h => h)) (H11.out.no0 HS.out (fun h => h) 1 rfl) 2 b HAWb.out).mono ?_; rintro e w12 ⟨rfl, hP, hT⟩; have H12 := Lib.hid (H11.out.did 1 rfl (firm_psc _ _ _) hP hT); clear hP hT H11) | (go_at_call 13; refine (deepP_any (H12.out.the 1 rfl) (H12.out.shifts HS.out (fun h => h)) 1 b i64_1 HAWb.out).mono ?_; rw [HS3.out, deepV_z HV1.out]; rintro e w13 ⟨rfl, hb⟩; have H13 := Lib.hid (H12.out.quiet hb); clear hb H12))
    generalize hq : w13.alloc _ = w14
    have H14 := Lib.hid ((H13.out.new (b := w13.heap.size) rfl #[.int .i64 l1, .int .u64 t1, .bool W1, .bool U1, .bool X1] 41).world hq)
    clear hq H13
    generalize w13.heap.size = b3 at *
    go_upto_region 17 with (first | (go_at_call 25; refine (dropOfP_any (H14.out.the 2 rfl) 2).mono ?_; rintro e w15 ⟨rfl, hP, hT⟩; have H15 := Lib.hid (H14.out.did 2 rfl (firm_psc _ _ _) hP hT); clear hP hT H14) | (go_at_call 13; refine (deepP_any (H15.out.the 2 rfl) (H15.out.shifts HS.out (fun h => h)) 1 b i64_1 HAWb.out).mono ?_; rw [HS4.out, deepV_z HV1.out]; rintro e w16 ⟨rfl, hb⟩; have H16 := Lib.hid (H15.out.quiet hb); clear hb H15))
    generalize hq : w16.alloc _ = w17
    have H17 := Lib.hid ((H16.out.new (b := w16.heap.size) rfl #[.int .i64 l1, .int .u64 t1, .bool W1, .bool U1, .bool X1] 41).world hq)
    clear hq H16
    generalize w16.heap.size = b4 at *
    go_upto_region 19 with (go_at_call 25; refine (dropOfP_any (H17.out.the 2 rfl) 1).mono ?_; rintro e w18 ⟨rfl, hP, hT⟩; have H18 := Lib.hid (H17.out.did 2 rfl (firm_psc _ _ _) hP hT); clear hP hT H17)
    obtain ⟨r0, r1, r2, r3, r4⟩ := (H18.out.at_ 0 rfl).five
    obtain ⟨s0, s1, s2, s3, s4⟩ := (H18.out.at_ 1 rfl).five
    obtain ⟨t0, t1', t2', t3, t4⟩ := (H18.out.at_ 2 rfl).five
    obtain ⟨u0, u1, u2, u3, u4⟩ := (H18.out.at_ 3 rfl).five
    cases hap : (ia != ib)
    all_goals
      go_wp2_with (go_at_call 16; first | (refine (lenP_any (H18.out.the 2 rfl) 4).mono ?_; rw [HS5.out]; rintro e w19 ⟨rfl, hb⟩; have H19 := Lib.hid (H18.out.quiet hb); clear hb H18) | (refine (lenP_any (H19.out.the 2 rfl) 3).mono ?_; rw [HS5.out]; rintro e w20 ⟨rfl, hb⟩; have H20 := Lib.hid (H19.out.quiet hb); clear hb H19) | (refine (lenP_any (H20.out.the 2 rfl) 2).mono ?_; rw [HS5.out]; rintro e w21 ⟨rfl, hb⟩; have H21 := Lib.hid (H20.out.quiet hb); clear hb H20))
      go_ret
      exact ⟨rfl, H21.out.below0⟩
  · obtain ⟨o2, ho2⟩ : ∃ o, deepK (dropL L 1 a) 1 b = o := ⟨_, rfl⟩
    rw [ho2] at heq
    have HNQ := Lib.hid heq
    have HO2 := Lib.hid ho2
    clear heq ho2
    obtain ⟨⟨l2, t2, W2, U2, X2, is2⟩, hV2⟩ : ∃ z, deepZ o2 = z := ⟨_, rfl⟩
    have HV2 := Lib.hid hV2
    clear hV2
    have hq2 := eqlPlace l2 t2 W2 U2 X2
    go_enter Tryd.func6, Tryd.ntmps6
    go_upto_region 1 with fail
    generalize hw0 : w.alloc _ = v0
    have H0 := Lib.hid (H0.out.world hw0)
    clear hw0
    generalize w.heap.size = bz at H0 ⊢
    go_upto_region 9 with (first | (go_at_call 9; refine (awake11_any _ (H0.out.shifts HS.out (fun h => h))).mono ?_; rintro e w1 ⟨rfl, hb1⟩; have H1 := Lib.hid (H0.out.quiet hb1); clear hb1) | (go_at_call 17; refine (builtH_any _ _ c ds HL1.out (puts_below HD.out H1.out.below0) HOK.out).mono ?_; rw [HFF.out]; rintro e w2 ⟨m, G, rfl, hH⟩; have H2 := Lib.hid (H1.out.join hH); clear hH H1) | (go_at_call 18; first | (refine (warm_any (H2.out.the 0 rfl) (by decide) (H2.out.shifts HS.out (fun h => h)) (H2.out.no0 HS.out (fun h => h) 0 rfl) 8 B ns d HL2.out (ns_same HN.out H2.out.turn) (ns_off HN.out (H2.out.late 0 rfl)) HNK.out).mono ?_; rw [HRR.out, HLL.out]; rintro e w3 ⟨q, rfl, tr, Gm, Gp, hH⟩; have H3 : Hid (Has w w3 (fun _ => False) [⟨memT m 16 f tr 200, Gm⟩, ⟨pscT q R L, Gp⟩] [⟨bz, #[.int .u32 n0, .int .u32 n1], 71⟩] []) := Lib.hid (H2.out.call 0 rfl hH); clear hH H2) | (refine (warm_any (H3.out.the 0 rfl) (by decide) (H3.out.shifts HS.out (fun h => h)) (H3.out.no0 HS.out (fun h => h) 0 rfl) 8 B ns d HL2.out (ns_same HN.out H3.out.turn) (ns_off HN.out (H3.out.late 0 rfl)) HNK.out).mono ?_; rw [HRR.out, HLL.out]; rintro e w4 ⟨q2, rfl, tr2, Gm2, Gq, hH⟩; have H4 : Hid (Has w w4 (fun _ => False) [⟨memT m 16 f tr2 300, Gm2⟩, ⟨pscT q R L, Gp⟩, ⟨pscT q2 R L, Gq⟩] [⟨bz, #[.int .u32 n0, .int .u32 n1], 71⟩] []) := Lib.hid (H3.out.call 0 rfl hH); clear hH H3; obtain ⟨z0, z1⟩ := (H4.out.at_ 0 rfl).c2)) | (go_at_call 19; first | ((with_reducible refine (HNEa.out _).mono ?_); rintro e _ ⟨rfl, rfl⟩) | ((with_reducible refine (HNEb.out _).mono ?_); rintro e _ ⟨rfl, rfl⟩)))
    clear z0 z1
    have HND : Hid (NdL L) := Lib.hid fun k hk => (H4.out.the 1 rfl).nodup hk
    have HS1 : Hid (deepK (dropL L 1 a) 1 a = none) := Lib.hid (drop_self HND.out 1 a)
    have HS3 : Hid (deepK (dropL (dropL L 1 a) 2 b) 1 b = o2) := Lib.hid ((drop_pcid (drop_nd HND.out 1 a) (by decide) b b).trans HO2.out)
    have HS4 : Hid (deepK (ofL L 2) 1 b = o) := Lib.hid ((of_pcid (by decide) b).trans HO.out)
    have HS5 : Hid (∀ l, lenF (ofL (ofL L 2) 1) l = 0) := Lib.hid HW.out.none
    go_upto_region 10 with (go_at_call 13; refine (deepP_any (H4.out.the 1 rfl) (H4.out.shifts HS.out (fun h => h)) 1 b i64_1 HAWb.out).mono ?_; rw [HO.out, deepV_z HV1.out]; rintro e w5 ⟨rfl, hb⟩; have H5 := Lib.hid (H4.out.quiet hb); clear hb H4)
    generalize hq : w5.alloc _ = w6
    have H6 := Lib.hid ((H5.out.new (b := w5.heap.size) rfl #[.int .i64 l1, .int .u64 t1, .bool W1, .bool U1, .bool X1] 41).world hq)
    clear hq H5
    generalize w5.heap.size = b1 at *
    go_upto_region 12 with (first | (go_at_call 24; refine (dropPageP_any (H6.out.the 1 rfl) (H6.out.shifts HS.out (fun h => h)) (H6.out.no0 HS.out (fun h => h) 1 rfl) 1 a HAWa.out).mono ?_; rintro e w7 ⟨rfl, hP, hT⟩; have H7 := Lib.hid (H6.out.did 1 rfl (firm_psc _ _ _) hP hT); clear hP hT H6) | (go_at_call 13; refine (deepP_any (H7.out.the 1 rfl) (H7.out.shifts HS.out (fun h => h)) 1 a i64_1 HAWa.out).mono ?_; rw [HS1.out, deepV_none]; rintro e w8 ⟨rfl, hb⟩; have H8 := Lib.hid (H7.out.quiet hb); clear hb H7))
    generalize hq : w8.alloc _ = w9
    have H9 := Lib.hid ((H8.out.quiet (below_alloc1 w8 (.cells #[.int .i64 0, .int .u64 0, .bool false, .bool false, .bool false] 41))).world hq)
    clear hq H8
    go_upto_region 13 with (go_at_call 13; refine (deepP_any (H9.out.the 1 rfl) (H9.out.shifts HS.out (fun h => h)) 1 b i64_1 HAWb.out).mono ?_; rw [HO2.out, deepV_z HV2.out]; rintro e w10 ⟨rfl, hb⟩; have H10 := Lib.hid (H9.out.quiet hb); clear hb H9)
    generalize hq : w10.alloc _ = w11
    have H11 := Lib.hid ((H10.out.new (b := w10.heap.size) rfl #[.int .i64 l2, .int .u64 t2, .bool W2, .bool U2, .bool X2] 41).world hq)
    clear hq H10
    generalize w10.heap.size = b2 at *
    go_upto_region 15 with (first | (go_at_call 24; refine (dropPageP_any (H11.out.the 1 rfl) (H11.out.shifts HS.out (fun h => h)) (H11.out.no0 HS.out (fun h => h) 1 rfl) 2 b HAWb.out).mono ?_; rintro e w12 ⟨rfl, hP, hT⟩; have H12 := Lib.hid (H11.out.did 1 rfl (firm_psc _ _ _) hP hT); clear hP hT H11) | (go_at_call 13; refine (deepP_any (H12.out.the 1 rfl) (H12.out.shifts HS.out (fun h => h)) 1 b i64_1 HAWb.out).mono ?_; rw [HS3.out, deepV_z HV2.out]; rintro e w13 ⟨rfl, hb⟩; have H13 := Lib.hid (H12.out.quiet hb); clear hb H12))
    generalize hq : w13.alloc _ = w14
    have H14 := Lib.hid ((H13.out.new (b := w13.heap.size) rfl #[.int .i64 l2, .int .u64 t2, .bool W2, .bool U2, .bool X2] 41).world hq)
    clear hq H13
    generalize w13.heap.size = b3 at *
    go_upto_region 17 with (first | (go_at_call 25; refine (dropOfP_any (H14.out.the 2 rfl) 2).mono ?_; rintro e w15 ⟨rfl, hP, hT⟩; have H15 := Lib.hid (H14.out.did 2 rfl (firm_psc _ _ _) hP hT); clear hP hT H14) | (go_at_call 13; refine (deepP_any (H15.out.the 2 rfl) (H15.out.shifts HS.out (fun h => h)) 1 b i64_1 HAWb.out).mono ?_; rw [HS4.out, deepV_z HV1.out]; rintro e w16 ⟨rfl, hb⟩; have H16 := Lib.hid (H15.out.quiet hb); clear hb H15))
    generalize hq : w16.alloc _ = w17
    have H17 := Lib.hid ((H16.out.new (b := w16.heap.size) rfl #[.int .i64 l1, .int .u64 t1, .bool W1, .bool U1, .bool X1] 41).world hq)
    clear hq H16
    generalize w16.heap.size = b4 at *
    go_upto_region 19 with (go_at_call 25; refine (dropOfP_any (H17.out.the 2 rfl) 1).mono ?_; rintro e w18 ⟨rfl, hP, hT⟩; have H18 := Lib.hid (H17.out.did 2 rfl (firm_psc _ _ _) hP hT); clear hP hT H17)
    obtain ⟨r0, r1, r2, r3, r4⟩ := (H18.out.at_ 0 rfl).five
    obtain ⟨s0, s1, s2, s3, s4⟩ := (H18.out.at_ 1 rfl).five
    obtain ⟨t0, t1', t2', t3, t4⟩ := (H18.out.at_ 2 rfl).five
    obtain ⟨u0, u1, u2, u3, u4⟩ := (H18.out.at_ 3 rfl).five
    have hap : (ia != ib) = false := by
      apply Classical.byContradiction
      intro h
      have h' : ia ≠ ib := by simpa using h
      exact HNQ.out (HO2.out.symm.trans (HAP.out h' HND.out))
    go_wp2_with (go_at_call 16; first | (refine (lenP_any (H18.out.the 2 rfl) 4).mono ?_; rw [HS5.out]; rintro e w19 ⟨rfl, hb⟩; have H19 := Lib.hid (H18.out.quiet hb); clear hb H18) | (refine (lenP_any (H19.out.the 2 rfl) 3).mono ?_; rw [HS5.out]; rintro e w20 ⟨rfl, hb⟩; have H20 := Lib.hid (H19.out.quiet hb); clear hb H19) | (refine (lenP_any (H20.out.the 2 rfl) 2).mono ?_; rw [HS5.out]; rintro e w21 ⟨rfl, hb⟩; have H21 := Lib.hid (H20.out.quiet hb); clear hb H20))
    go_ret
    exact ⟨rfl, H21.out.below0⟩
end Go.Proofs.YtiihhlmddmicjaaDoor
/- Layer 11: what a walk from the top fills in a psc with room. Nothing of the program. -/
namespace Go.Proofs.YtiihhlmddmicjaaDoor
set_option linter.unusedVariables false
set_option linter.unusedSimpArgs false

/-- one line of each of the first n levels -/
def fullF (a : Int) (y : Nat → Ln) (n : Nat) : Ls := fun k => if k < n then [(kyF 1 a (4 - (k : Int)), y k)] else []
def lineF (T : List Stp) (k : Nat) : Ln := (tableF (stepAt T k).2.2, (rgtF true true true T (k + 1)).1, (rgtF true true true T (k + 1)).2.1, (rgtF true true true T (k + 1)).2.2, false, 0)

theorem full_fill {f : Int → Int} {a : Int} {pk : Nat → Int} {T : List Stp} (hT : (walkZ 16 f a true 4 0 true true true).steps = T) : ∀ i, i + 1 ≤ T.length →
    fillK 8 1 a pk T true true true noL = fillK 8 1 a pk (T.drop i) (rgtF true true true T i).1 (rgtF true true true T i).2.1 (rgtF true true true T i).2.2 (fullF a (lineF T) i)
  | 0, _ => by
    have e : fullF a (lineF T) 0 = noL := by funext k; simp [fullF, noL]
    rw [e]; simp [rgtF]
  | i + 1, hi => by
    rw [full_fill hT i (by omega)]
    obtain ⟨_, h2, h3, h4⟩ := Rch.steps (f := f) (a := a) i Rch.top (by rw [hT]; omega)
    rw [hT] at h2 h4
    obtain ⟨⟨l, s, x⟩, hs⟩ : ∃ z, stepAt T i = z := ⟨_, rfl⟩
    rw [hs] at h2 h4
    have hl : l = 4 - (i : Int) := h2
    subst hl
    have hk : kOf (4 - (i : Int)) = i := by unfold kOf; omega
    have hr := rgt_step T i true true true (by omega)
    rw [hs] at hr
    rw [fill_on (by omega) hs h4, hk, hr]
    congr 1
    funext k
    unfold updL
    have he : fullF a (lineF T) i i = [] := by unfold fullF; rw [if_neg (by omega)]
    by_cases e : k = i
    · subst e
      rw [if_pos rfl, he]
      have hln : lineF T k = (tableF x, (rgtF true true true T k).1 && bitF x 1, (rgtF true true true T k).2.1 && bitF x 2, (rgtF true true true T k).2.2 && !bitF x 63, false, 0) := by
        unfold lineF
        rw [hr, hs]
      unfold fullF
      rw [if_pos (by omega), hln]
      rfl
    · rw [if_neg e]
      unfold fullF
      by_cases h : k < i
      · rw [if_pos h, if_pos (by omega)]
      · rw [if_neg h, if_neg (by omega)]
theorem full_all {f : Int → Int} {a : Int} {pk : Nat → Int} {T : List Stp} {n : Nat} (hT : (walkZ 16 f a true 4 0 true true true).steps = T) (hn : T.length = n + 1) : fillK 8 1 a pk T true true true noL = fullF a (lineF T) n := by
  rw [full_fill hT n (by omega), fill_few (by rw [List.length_drop]; omega)]

theorem full_len (a : Int) (y : Nat → Ln) (n : Nat) (l : Int) (h2 : 2 ≤ l) (h4 : l ≤ 4) : lenF (fullF a y n) l = if kOf l < n then 1 else 0 := by
  unfold lenF fullF
  rw [if_pos ⟨h2, h4⟩]
  split <;> rfl
theorem full_other (a : Int) (y : Nat → Ln) (n : Nat) (b : Int) {p : Int} (hp : p ≠ 1) : deepK (fullF a y n) p b = none := deep_none fun k _ => by
  unfold fullF
  split
  · rw [getK_none]
    simp [keysK]
    exact fun e => hp (congrArg (fun y : Ky => y.1) e)
  · rfl
theorem full_get (a b : Int) (y : Nat → Ln) {n k : Nat} (hk : k < n) (ht : tagF b (4 - (k : Int)) = tagF a (4 - (k : Int))) : getK (fullF a y n k) (kyF 1 b (4 - (k : Int))) = some (y k) := by
  unfold fullF getK
  rw [if_pos hk, List.find?_cons]
  have e : kyF 1 a (4 - (k : Int)) = kyF 1 b (4 - (k : Int)) := by unfold kyF; rw [ht]
  rw [e]
  simp
theorem full_deep (a b : Int) (y : Nat → Ln) {n : Nat} (h0 : 1 ≤ n) (h3 : n ≤ 3) (ht : tagF b (5 - (n : Int)) = tagF a (5 - (n : Int))) : deepK (fullF a y n) 1 b = some (4 - (n : Int), y (n - 1)) := by
  have hz : ∀ k, n ≤ k → fullF a y n k = [] := fun k hk => by unfold fullF; rw [if_neg (by omega)]
  have hn : n = 1 ∨ n = 2 ∨ n = 3 := by omega
  unfold deepK
  rcases hn with rfl | rfl | rfl
  · rw [hz 2 (by omega), hz 1 (by omega)]
    have := full_get a b y (n := 1) (k := 0) (by omega) ht
    rw [show kyF 1 b 4 = kyF 1 b (4 - ((0 : Nat) : Int)) from rfl, this]
    rfl
  · rw [hz 2 (by omega)]
    have := full_get a b y (n := 2) (k := 1) (by omega) ht
    rw [show kyF 1 b 3 = kyF 1 b (4 - ((1 : Nat) : Int)) from rfl, this]
    rfl
  · have := full_get a b y (n := 3) (k := 2) (by omega) ht
    rw [show kyF 1 b 2 = kyF 1 b (4 - ((2 : Nat) : Int)) from rfl, this]
    rfl
theorem full_zero (a b p : Int) (y : Nat → Ln) : deepK (fullF a y 0) p b = none := deep_none fun k _ => by
  unfold fullF
  rw [if_neg (by omega)]; rfl

theorem and40 {x : Int} (h0 : 0 ≤ x) (h1 : x < 1099511627776) : bits .and .u64 x 1099511627775 = x := by
  have hw : W64 x := by unfold W64; omega
  have h := get_div (a := x) (lo := 0) (n := 40) hw (by decide)
  have hm : maskF 0 40 = 1099511627775 := by decide
  unfold getF at h
  rw [if_pos (by decide), hm] at h
  simp at h
  rw [h]
  omega
end Go.Proofs.YtiihhlmddmicjaaDoor
