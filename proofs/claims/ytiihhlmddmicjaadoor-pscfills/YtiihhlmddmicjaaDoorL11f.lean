/- The walk of PscFills. (Laid by tools/gen_l11.py.) -/
import Derived.Test.YtiihhlmddmicjaaDoorGJmL11aOq
import Derived.Test.YtiihhlmddmicjaaDoorGL11rL11dJo
import Derived.BigQuiet
namespace Go.Proofs.YtiihhlmddmicjaaDoor
set_option linter.unusedVariables false
set_option linter.unusedSimpArgs false
open Go.ChangeShapes Go.WideShapes Go.ChangeAt Go.RowKit Go.Joins

set_option maxRecDepth 100000 in
set_option maxHeartbeats 12800000 in
theorem pscFills_0s (A : Option Addr) (c : Nat) (ds : List (Int × Int × Int × Int)) (n1 n2 : Int) (w : World) (hs : Shifts w) (hl : ds.length ≤ maxLen) (hd : PutsIn w A ds) (hok : PutsOk ds) (h10 : 0 ≤ n1) (h11 : n1 < 4294967296) (h20 : 0 ≤ n2) (h21 : n2 < 4294967296) (hp : (walkZ 16 (putSt ds (mostP ds)) (nearF n1) true 4 0 true true true).steps.length = 1) :
    Calls Tryd.prog 5 #[.slice A ds.length c, .int .u32 n1, .int .u32 n2] w fun e w' => e = .returned (.bool true) ∧ Below w.heap.size w w' := by
  have HS := Lib.hid hs
  have HD := Lib.hid hd
  have HOK := Lib.hid hok
  have HL1 := Lib.hid hl
  obtain ⟨f, hf⟩ : ∃ f, putSt ds (mostP ds) = f := ⟨_, rfl⟩
  have HFF := Lib.hid hf
  clear hs hd hok hl hf
  rw [HFF.out] at hp
  obtain ⟨a, ha⟩ : ∃ a, nearF n1 = a := ⟨_, rfl⟩
  have HAWa := Lib.hid (ha ▸ near_w n1)
  have HABa := Lib.hid (ha ▸ near_lt n1)
  have HNEa := Lib.hid (ha ▸ fun w => near_any n1 w h10 h11)
  rw [ha] at hp
  clear ha h10 h11
  obtain ⟨b, hb⟩ : ∃ a, nearF n2 = a := ⟨_, rfl⟩
  have HAWb := Lib.hid (hb ▸ near_w n2)
  have HABb := Lib.hid (hb ▸ near_lt n2)
  have HNEb := Lib.hid (hb ▸ fun w => near_any n2 w h20 h21)
  clear hb h20 h21
  obtain ⟨⟨T, y, V1, V2, V3, lv, fr⟩, hP⟩ : ∃ P, walkZ 16 f a true 4 0 true true true = P := ⟨_, rfl⟩
  have HTW := Lib.hid (hP ▸ walk_few f (fun s => by rw [← HFF.out]; exact putSt_w ds _ s) a true 4 0 true true true).2
  have HP : Hid (walkZ 16 f a true 4 (tableF 0) true true true = ⟨T, y, V1, V2, V3, lv, fr⟩) := Lib.hid hP
  have hp' : T.length = 1 := by rw [hP] at hp; exact hp
  have HPL := Lib.hid hp'
  have HFI : Hid (fillK (roomF 8) 1 a (pkF 0 0 0) T true true true noL = fullF a (lineF T) 0) := Lib.hid (full_all (by rw [hP]) hp')
  obtain ⟨L, hL⟩ : ∃ L, fullF a (lineF T) 0 = L := ⟨_, rfl⟩
  have HLL := Lib.hid hL
  have HLN := Lib.hid (hL ▸ full_len a (lineF T) 0)
  have HE : Hid (∀ b, deepK L 2 b = none) := Lib.hid (fun b => hL ▸ full_other a (lineF T) 0 b (by decide))
  have HO : Hid (deepK L 1 a = none) := Lib.hid (hL ▸ full_zero a a 1 (lineF T))
  have HO2 : Hid (deepK L 1 b = none) := Lib.hid (hL ▸ full_zero a b 1 (lineF T))
  clear hP hp hp' hL
  go_enter Tryd.func5, Tryd.ntmps5
  go_upto_region 7 with (first | (go_at_call 9; refine (awake11_any _ HS.out).mono ?_; rintro e w1 ⟨rfl, hb1⟩; have H1 := Lib.hid ((Has.start0 w (fun _ => False)).quiet hb1); clear hb1) | (go_at_call 17; refine (builtH_any _ _ c ds HL1.out (puts_below HD.out H1.out.below0) HOK.out).mono ?_; rw [HFF.out]; rintro e w2 ⟨m, G, rfl, hH⟩; have H2 := Lib.hid (H1.out.join hH); clear hH H1) | (go_at_call 10; refine (newP_any 8 _).mono ?_; rintro e w3 ⟨q, Gp, rfl, hH⟩; have H3 := Lib.hid (H2.out.join hH); clear hH H2) | (go_at_call 19; refine (HNEa.out _).mono ?_; rintro e _ ⟨rfl, rfl⟩))
  go_upto_region 8 with (go_at_call 21; refine (top_any 0 _ w0).mono ?_; rintro e w4 ⟨rfl, hb⟩; have H4 := Lib.hid (H3.out.quiet hb); clear hb H3)
  generalize hq : w4.alloc _ = w5
  have H5 := Lib.hid ((H4.out.new (b := w4.heap.size) rfl #[.int .i64 4, .int .u64 (tableF 0), .bool true, .bool true, .bool true] 41).world hq)
  clear hq H4
  generalize w4.heap.size = bt at *
  obtain ⟨s0, s1, s2, s3, s4⟩ := (H5.out.at_ 0 rfl).five
  go_upto_region 9 with (go_at_call 20; refine (H5.out.walk HS.out (fun h => h) 0 rfl (by decide) 4 (tableF 0) a true true true true (w64_table _) HAWa.out _ HP.out 1 HPL.out).mono ?_; rintro e w6 ⟨A1, c1, G1, tr1, rfl, hW⟩; have H6 := Lib.hid hW; clear hW H5)
  generalize hq9 : w6.alloc _ = w7
  have H7 := Lib.hid ((H6.out.new (b := w6.heap.size) rfl #[.slice A1 1 c1, .int .i64 y, .bool V1, .bool V2, .bool V3, .int .i64 lv, .int .u64 fr] 39).world hq9)
  clear hq9 H6 s0 s1 s2 s3 s4
  generalize w6.heap.size = bw at *
  obtain ⟨u0, u1, u2, u3, u4, u5, u6⟩ := (H7.out.at_ 0 rfl).seven
  obtain ⟨s0, s1, s2, s3, s4⟩ := (H7.out.at_ 1 rfl).five
  go_upto_region 10 with (go_at_call 22; refine (fillP_any (H7.out.the 1 rfl) (H7.out.shifts HS.out (fun h => h)) (H7.out.no0 HS.out (fun h => h) 1 rfl) 1 a i64_1 HAWa.out A1 1 c1 T _ _ _ _ _ _ HPL.out (by decide) (own_steps (H7.out.of_ 0 rfl) HPL.out) (off_block' fun i hi hg => H7.out.off 0 rfl i hi ⟨_, List.mem_cons_of_mem _ (List.mem_cons_self ..), hg⟩) HTW.out 4 (tableF 0) true true true 0 0 0 i64_0 i64_0 i64_0).mono ?_; rw [HFI.out, HLL.out]; rintro e w8 ⟨rfl, hP, hT⟩; have H8 := Lib.hid (H7.out.did 1 rfl (firm_psc _ _ _) hP hT); clear hP hT H7)
  clear u0 u1 u2 u3 u4 u5 u6 s0 s1 s2 s3 s4
  obtain ⟨u0, u1, u2, u3, u4, u5, u6⟩ := (H8.out.at_ 0 rfl).seven
  go_upto_region 11 with fail
  clear u0 u1 u2 u3 u4 u5 u6
  go_upto_region 12 with (go_at_call 13; refine (deepP_any (H8.out.the 1 rfl) (H8.out.shifts HS.out (fun h => h)) 1 a i64_1 HAWa.out).mono ?_; rw [HO.out, deepV_none]; rintro e w9 ⟨rfl, hb⟩; have H9 := Lib.hid (H8.out.quiet hb); clear hb H8)
  generalize hq : w9.alloc _ = w10
  have H10 := Lib.hid ((H9.out.new (b := w9.heap.size) rfl #[.int .i64 0, .int .u64 0, .bool false, .bool false, .bool false] 41).world hq)
  clear hq H9
  generalize w9.heap.size = b1 at *
  go_upto_region 14 with (first | (go_at_call 19; refine (HNEb.out _).mono ?_; rintro e _ ⟨rfl, rfl⟩) | (go_at_call 13; refine (deepP_any (H10.out.the 1 rfl) (H10.out.shifts HS.out (fun h => h)) 1 b i64_1 HAWb.out).mono ?_; rw [HO2.out, deepV_none]; rintro e w11 ⟨rfl, hb⟩; have H11 := Lib.hid (H10.out.quiet hb); clear hb H10))
  generalize hq : w11.alloc _ = w12
  have H12 := Lib.hid ((H11.out.new (b := w11.heap.size) rfl #[.int .i64 0, .int .u64 0, .bool false, .bool false, .bool false] 41).world hq)
  clear hq H11
  generalize w11.heap.size = b2 at *
  go_upto_region 18 with (first | (go_at_call 16; first | (refine (lenP_any (H12.out.the 1 rfl) 4).mono ?_; rw [HLN.out 4 (by decide) (by decide)]; rintro e w13 ⟨rfl, hb⟩; have H13 := Lib.hid (H12.out.quiet hb); clear hb H12) | (refine (lenP_any (H13.out.the 1 rfl) 3).mono ?_; rw [HLN.out 3 (by decide) (by decide)]; rintro e w14 ⟨rfl, hb⟩; have H14 := Lib.hid (H13.out.quiet hb); clear hb H13) | (refine (lenP_any (H14.out.the 1 rfl) 2).mono ?_; rw [HLN.out 2 (by decide) (by decide)]; rintro e w15 ⟨rfl, hb⟩; have H15 := Lib.hid (H14.out.quiet hb); clear hb H14)) | (go_at_call 23; refine (one_any _ _).mono ?_; rintro e _ ⟨rfl, rfl⟩))
  go_upto_region 19 with (go_at_call 13; refine (deepP_any (H15.out.the 1 rfl) (H15.out.shifts HS.out (fun h => h)) 2 a i64_2 HAWa.out).mono ?_; rw [HE.out, deepV_none]; rintro e w16 ⟨rfl, hb⟩; have H16 := Lib.hid (H15.out.quiet hb); clear hb H15)
  generalize hq : w16.alloc _ = w17
  have H17 := Lib.hid ((H16.out.quiet (below_alloc1 w16 (.cells #[.int .i64 0, .int .u64 0, .bool false, .bool false, .bool false] 41))).world hq)
  clear hq H16
  obtain ⟨r0, r1, r2, r3, r4⟩ := (H17.out.at_ 0 rfl).five
  obtain ⟨s0, s1, s2, s3, s4⟩ := (H17.out.at_ 1 rfl).five
  go_wp2
  go_ret
  exact ⟨rfl, H17.out.below0⟩

set_option maxRecDepth 100000 in
set_option maxHeartbeats 12800000 in
theorem pscFills_1s (A : Option Addr) (c : Nat) (ds : List (Int × Int × Int × Int)) (n1 n2 : Int) (w : World) (hs : Shifts w) (hl : ds.length ≤ maxLen) (hd : PutsIn w A ds) (hok : PutsOk ds) (h10 : 0 ≤ n1) (h11 : n1 < 4294967296) (h20 : 0 ≤ n2) (h21 : n2 < 4294967296) (hp : (walkZ 16 (putSt ds (mostP ds)) (nearF n1) true 4 0 true true true).steps.length = 2) (hsm : (bits .and .u64 (nearF n1 / 549755813888) 1099511627775 == bits .and .u64 (nearF n2 / 549755813888) 1099511627775) = true) :
    Calls Tryd.prog 5 #[.slice A ds.length c, .int .u32 n1, .int .u32 n2] w fun e w' => e = .returned (.bool true) ∧ Below w.heap.size w w' := by
  have HS := Lib.hid hs
  have HD := Lib.hid hd
  have HOK := Lib.hid hok
  have HL1 := Lib.hid hl
  obtain ⟨f, hf⟩ : ∃ f, putSt ds (mostP ds) = f := ⟨_, rfl⟩
  have HFF := Lib.hid hf
  clear hs hd hok hl hf
  rw [HFF.out] at hp
  obtain ⟨a, ha⟩ : ∃ a, nearF n1 = a := ⟨_, rfl⟩
  have HAWa := Lib.hid (ha ▸ near_w n1)
  have HABa := Lib.hid (ha ▸ near_lt n1)
  have HNEa := Lib.hid (ha ▸ fun w => near_any n1 w h10 h11)
  rw [ha] at hp
  rw [ha] at hsm
  clear ha h10 h11
  obtain ⟨b, hb⟩ : ∃ a, nearF n2 = a := ⟨_, rfl⟩
  have HAWb := Lib.hid (hb ▸ near_w n2)
  have HABb := Lib.hid (hb ▸ near_lt n2)
  have HNEb := Lib.hid (hb ▸ fun w => near_any n2 w h20 h21)
  rw [hb] at hsm
  clear hb h20 h21
  obtain ⟨⟨T, y, V1, V2, V3, lv, fr⟩, hP⟩ : ∃ P, walkZ 16 f a true 4 0 true true true = P := ⟨_, rfl⟩
  have HTW := Lib.hid (hP ▸ walk_few f (fun s => by rw [← HFF.out]; exact putSt_w ds _ s) a true 4 0 true true true).2
  have HP : Hid (walkZ 16 f a true 4 (tableF 0) true true true = ⟨T, y, V1, V2, V3, lv, fr⟩) := Lib.hid hP
  have hp' : T.length = 2 := by rw [hP] at hp; exact hp
  have HPL := Lib.hid hp'
  have HFI : Hid (fillK (roomF 8) 1 a (pkF 0 0 0) T true true true noL = fullF a (lineF T) 1) := Lib.hid (full_all (by rw [hP]) hp')
  obtain ⟨L, hL⟩ : ∃ L, fullF a (lineF T) 1 = L := ⟨_, rfl⟩
  have HLL := Lib.hid hL
  have HLN := Lib.hid (hL ▸ full_len a (lineF T) 1)
  have HE : Hid (∀ b, deepK L 2 b = none) := Lib.hid (fun b => hL ▸ full_other a (lineF T) 1 b (by decide))
  obtain ⟨⟨t, W, U, X, dd, mm⟩, hy⟩ : ∃ z, lineF T 0 = z := ⟨_, rfl⟩
  have HO : Hid (deepK L 1 a = some (3, t, W, U, X, dd, mm)) := Lib.hid (hL ▸ hy ▸ full_deep a a (lineF T) (n := 1) (by decide) (by decide) rfl)
  have htag : tagF b (5 - ((1 : Nat) : Int)) = tagF a (5 - ((1 : Nat) : Int)) := by
    have ha := HABa.out
    have hb := HABb.out
    have e : bits .and .u64 (a / 549755813888) 1099511627775 = bits .and .u64 (b / 549755813888) 1099511627775 := by simpa using hsm
    rw [and40 (by omega) (by omega), and40 (by omega) (by omega)] at e
    unfold tagF
    simp
    omega
  have HO2 : Hid (deepK L 1 b = some (3, t, W, U, X, dd, mm)) := Lib.hid (hL ▸ hy ▸ full_deep a b (lineF T) (n := 1) (by decide) (by decide) htag)
  have hq := eqlPlace 3 t W U X
  clear htag
  obtain ⟨ia, hia⟩ : ∃ i, bits .and .u64 (a / 549755813888) 1099511627775 = i := ⟨_, rfl⟩
  obtain ⟨ib, hib⟩ : ∃ i, bits .and .u64 (b / 549755813888) 1099511627775 = i := ⟨_, rfl⟩
  rw [hia, hib] at hsm
  clear hy
  clear hP hp hp' hL
  go_enter Tryd.func5, Tryd.ntmps5
  go_upto_region 7 with (first | (go_at_call 9; refine (awake11_any _ HS.out).mono ?_; rintro e w1 ⟨rfl, hb1⟩; have H1 := Lib.hid ((Has.start0 w (fun _ => False)).quiet hb1); clear hb1) | (go_at_call 17; refine (builtH_any _ _ c ds HL1.out (puts_below HD.out H1.out.below0) HOK.out).mono ?_; rw [HFF.out]; rintro e w2 ⟨m, G, rfl, hH⟩; have H2 := Lib.hid (H1.out.join hH); clear hH H1) | (go_at_call 10; refine (newP_any 8 _).mono ?_; rintro e w3 ⟨q, Gp, rfl, hH⟩; have H3 := Lib.hid (H2.out.join hH); clear hH H2) | (go_at_call 19; refine (HNEa.out _).mono ?_; rintro e _ ⟨rfl, rfl⟩))
  go_upto_region 8 with (go_at_call 21; refine (top_any 0 _ w0).mono ?_; rintro e w4 ⟨rfl, hb⟩; have H4 := Lib.hid (H3.out.quiet hb); clear hb H3)
  generalize hq : w4.alloc _ = w5
  have H5 := Lib.hid ((H4.out.new (b := w4.heap.size) rfl #[.int .i64 4, .int .u64 (tableF 0), .bool true, .bool true, .bool true] 41).world hq)
  clear hq H4
  generalize w4.heap.size = bt at *
  obtain ⟨s0, s1, s2, s3, s4⟩ := (H5.out.at_ 0 rfl).five
  go_upto_region 9 with (go_at_call 20; refine (H5.out.walk HS.out (fun h => h) 0 rfl (by decide) 4 (tableF 0) a true true true true (w64_table _) HAWa.out _ HP.out 2 HPL.out).mono ?_; rintro e w6 ⟨A1, c1, G1, tr1, rfl, hW⟩; have H6 := Lib.hid hW; clear hW H5)
  generalize hq9 : w6.alloc _ = w7
  have H7 := Lib.hid ((H6.out.new (b := w6.heap.size) rfl #[.slice A1 2 c1, .int .i64 y, .bool V1, .bool V2, .bool V3, .int .i64 lv, .int .u64 fr] 39).world hq9)
  clear hq9 H6 s0 s1 s2 s3 s4
  generalize w6.heap.size = bw at *
  obtain ⟨u0, u1, u2, u3, u4, u5, u6⟩ := (H7.out.at_ 0 rfl).seven
  obtain ⟨s0, s1, s2, s3, s4⟩ := (H7.out.at_ 1 rfl).five
  go_upto_region 10 with (go_at_call 22; refine (fillP_any (H7.out.the 1 rfl) (H7.out.shifts HS.out (fun h => h)) (H7.out.no0 HS.out (fun h => h) 1 rfl) 1 a i64_1 HAWa.out A1 2 c1 T _ _ _ _ _ _ HPL.out (by decide) (own_steps (H7.out.of_ 0 rfl) HPL.out) (off_block' fun i hi hg => H7.out.off 0 rfl i hi ⟨_, List.mem_cons_of_mem _ (List.mem_cons_self ..), hg⟩) HTW.out 4 (tableF 0) true true true 0 0 0 i64_0 i64_0 i64_0).mono ?_; rw [HFI.out, HLL.out]; rintro e w8 ⟨rfl, hP, hT⟩; have H8 := Lib.hid (H7.out.did 1 rfl (firm_psc _ _ _) hP hT); clear hP hT H7)
  clear u0 u1 u2 u3 u4 u5 u6 s0 s1 s2 s3 s4
  obtain ⟨u0, u1, u2, u3, u4, u5, u6⟩ := (H8.out.at_ 0 rfl).seven
  go_upto_region 11 with fail
  clear u0 u1 u2 u3 u4 u5 u6
  go_upto_region 12 with (go_at_call 13; refine (deepP_any (H8.out.the 1 rfl) (H8.out.shifts HS.out (fun h => h)) 1 a i64_1 HAWa.out).mono ?_; rw [HO.out, deepV_some]; rintro e w9 ⟨rfl, hb⟩; have H9 := Lib.hid (H8.out.quiet hb); clear hb H8)
  generalize hq : w9.alloc _ = w10
  have H10 := Lib.hid ((H9.out.new (b := w9.heap.size) rfl #[.int .i64 3, .int .u64 t, .bool W, .bool U, .bool X] 41).world hq)
  clear hq H9
  generalize w9.heap.size = b1 at *
  go_upto_region 14 with (first | (go_at_call 19; refine (HNEb.out _).mono ?_; rintro e _ ⟨rfl, rfl⟩) | (go_at_call 13; refine (deepP_any (H10.out.the 1 rfl) (H10.out.shifts HS.out (fun h => h)) 1 b i64_1 HAWb.out).mono ?_; rw [HO2.out, deepV_some]; rintro e w11 ⟨rfl, hb⟩; have H11 := Lib.hid (H10.out.quiet hb); clear hb H10))
  generalize hq : w11.alloc _ = w12
  have H12 := Lib.hid ((H11.out.new (b := w11.heap.size) rfl #[.int .i64 3, .int .u64 t, .bool W, .bool U, .bool X] 41).world hq)
  clear hq H11
  generalize w11.heap.size = b2 at *
  go_upto_region 18 with (first | (go_at_call 16; first | (refine (lenP_any (H12.out.the 1 rfl) 4).mono ?_; rw [HLN.out 4 (by decide) (by decide)]; rintro e w13 ⟨rfl, hb⟩; have H13 := Lib.hid (H12.out.quiet hb); clear hb H12) | (refine (lenP_any (H13.out.the 1 rfl) 3).mono ?_; rw [HLN.out 3 (by decide) (by decide)]; rintro e w14 ⟨rfl, hb⟩; have H14 := Lib.hid (H13.out.quiet hb); clear hb H13) | (refine (lenP_any (H14.out.the 1 rfl) 2).mono ?_; rw [HLN.out 2 (by decide) (by decide)]; rintro e w15 ⟨rfl, hb⟩; have H15 := Lib.hid (H14.out.quiet hb); clear hb H14)) | (go_at_call 23; refine (one_any _ _).mono ?_; rintro e _ ⟨rfl, rfl⟩))
  go_upto_region 19 with (go_at_call 13; refine (deepP_any (H15.out.the 1 rfl) (H15.out.shifts HS.out (fun h => h)) 2 a i64_2 HAWa.out).mono ?_; rw [HE.out, deepV_none]; rintro e w16 ⟨rfl, hb⟩; have H16 := Lib.hid (H15.out.quiet hb); clear hb H15)
  generalize hq : w16.alloc _ = w17
  have H17 := Lib.hid ((H16.out.quiet (below_alloc1 w16 (.cells #[.int .i64 0, .int .u64 0, .bool false, .bool false, .bool false] 41))).world hq)
  clear hq H16
  obtain ⟨r0, r1, r2, r3, r4⟩ := (H17.out.at_ 0 rfl).five
  obtain ⟨s0, s1, s2, s3, s4⟩ := (H17.out.at_ 1 rfl).five
  go_wp2
  go_ret
  exact ⟨rfl, H17.out.below0⟩

set_option maxRecDepth 100000 in
set_option maxHeartbeats 12800000 in
theorem pscFills_1o (A : Option Addr) (c : Nat) (ds : List (Int × Int × Int × Int)) (n1 n2 : Int) (w : World) (hs : Shifts w) (hl : ds.length ≤ maxLen) (hd : PutsIn w A ds) (hok : PutsOk ds) (h10 : 0 ≤ n1) (h11 : n1 < 4294967296) (h20 : 0 ≤ n2) (h21 : n2 < 4294967296) (hp : (walkZ 16 (putSt ds (mostP ds)) (nearF n1) true 4 0 true true true).steps.length = 2) (hsm : (bits .and .u64 (nearF n1 / 549755813888) 1099511627775 == bits .and .u64 (nearF n2 / 549755813888) 1099511627775) = false) :
    Calls Tryd.prog 5 #[.slice A ds.length c, .int .u32 n1, .int .u32 n2] w fun e w' => e = .returned (.bool true) ∧ Below w.heap.size w w' := by
  have HS := Lib.hid hs
  have HD := Lib.hid hd
  have HOK := Lib.hid hok
  have HL1 := Lib.hid hl
  obtain ⟨f, hf⟩ : ∃ f, putSt ds (mostP ds) = f := ⟨_, rfl⟩
  have HFF := Lib.hid hf
  clear hs hd hok hl hf
  rw [HFF.out] at hp
  obtain ⟨a, ha⟩ : ∃ a, nearF n1 = a := ⟨_, rfl⟩
  have HAWa := Lib.hid (ha ▸ near_w n1)
  have HABa := Lib.hid (ha ▸ near_lt n1)
  have HNEa := Lib.hid (ha ▸ fun w => near_any n1 w h10 h11)
  rw [ha] at hp
  rw [ha] at hsm
  clear ha h10 h11
  obtain ⟨b, hb⟩ : ∃ a, nearF n2 = a := ⟨_, rfl⟩
  have HAWb := Lib.hid (hb ▸ near_w n2)
  have HABb := Lib.hid (hb ▸ near_lt n2)
  have HNEb := Lib.hid (hb ▸ fun w => near_any n2 w h20 h21)
  rw [hb] at hsm
  clear hb h20 h21
  obtain ⟨⟨T, y, V1, V2, V3, lv, fr⟩, hP⟩ : ∃ P, walkZ 16 f a true 4 0 true true true = P := ⟨_, rfl⟩
  have HTW := Lib.hid (hP ▸ walk_few f (fun s => by rw [← HFF.out]; exact putSt_w ds _ s) a true 4 0 true true true).2
  have HP : Hid (walkZ 16 f a true 4 (tableF 0) true true true = ⟨T, y, V1, V2, V3, lv, fr⟩) := Lib.hid hP
  have hp' : T.length = 2 := by rw [hP] at hp; exact hp
  have HPL := Lib.hid hp'
  have HFI : Hid (fillK (roomF 8) 1 a (pkF 0 0 0) T true true true noL = fullF a (lineF T) 1) := Lib.hid (full_all (by rw [hP]) hp')
  obtain ⟨L, hL⟩ : ∃ L, fullF a (lineF T) 1 = L := ⟨_, rfl⟩
  have HLL := Lib.hid hL
  have HLN := Lib.hid (hL ▸ full_len a (lineF T) 1)
  have HE : Hid (∀ b, deepK L 2 b = none) := Lib.hid (fun b => hL ▸ full_other a (lineF T) 1 b (by decide))
  obtain ⟨⟨t, W, U, X, dd, mm⟩, hy⟩ : ∃ z, lineF T 0 = z := ⟨_, rfl⟩
  have HO : Hid (deepK L 1 a = some (3, t, W, U, X, dd, mm)) := Lib.hid (hL ▸ hy ▸ full_deep a a (lineF T) (n := 1) (by decide) (by decide) rfl)
  obtain ⟨o, ho⟩ : ∃ o, deepK L 1 b = o := ⟨_, rfl⟩
  have HO2 := Lib.hid ho
  clear ho
  obtain ⟨⟨l2, t2, W2, U2, X2, is2⟩, hV2⟩ : ∃ z, deepZ o = z := ⟨_, rfl⟩
  have HV2 := Lib.hid hV2
  clear hV2
  obtain ⟨ia, hia⟩ : ∃ i, bits .and .u64 (a / 549755813888) 1099511627775 = i := ⟨_, rfl⟩
  obtain ⟨ib, hib⟩ : ∃ i, bits .and .u64 (b / 549755813888) 1099511627775 = i := ⟨_, rfl⟩
  rw [hia, hib] at hsm
  clear hy
  clear hP hp hp' hL
  go_enter Tryd.func5, Tryd.ntmps5
  go_upto_region 7 with (first | (go_at_call 9; refine (awake11_any _ HS.out).mono ?_; rintro e w1 ⟨rfl, hb1⟩; have H1 := Lib.hid ((Has.start0 w (fun _ => False)).quiet hb1); clear hb1) | (go_at_call 17; refine (builtH_any _ _ c ds HL1.out (puts_below HD.out H1.out.below0) HOK.out).mono ?_; rw [HFF.out]; rintro e w2 ⟨m, G, rfl, hH⟩; have H2 := Lib.hid (H1.out.join hH); clear hH H1) | (go_at_call 10; refine (newP_any 8 _).mono ?_; rintro e w3 ⟨q, Gp, rfl, hH⟩; have H3 := Lib.hid (H2.out.join hH); clear hH H2) | (go_at_call 19; refine (HNEa.out _).mono ?_; rintro e _ ⟨rfl, rfl⟩))
  go_upto_region 8 with (go_at_call 21; refine (top_any 0 _ w0).mono ?_; rintro e w4 ⟨rfl, hb⟩; have H4 := Lib.hid (H3.out.quiet hb); clear hb H3)
  generalize hq : w4.alloc _ = w5
  have H5 := Lib.hid ((H4.out.new (b := w4.heap.size) rfl #[.int .i64 4, .int .u64 (tableF 0), .bool true, .bool true, .bool true] 41).world hq)
  clear hq H4
  generalize w4.heap.size = bt at *
  obtain ⟨s0, s1, s2, s3, s4⟩ := (H5.out.at_ 0 rfl).five
  go_upto_region 9 with (go_at_call 20; refine (H5.out.walk HS.out (fun h => h) 0 rfl (by decide) 4 (tableF 0) a true true true true (w64_table _) HAWa.out _ HP.out 2 HPL.out).mono ?_; rintro e w6 ⟨A1, c1, G1, tr1, rfl, hW⟩; have H6 := Lib.hid hW; clear hW H5)
  generalize hq9 : w6.alloc _ = w7
  have H7 := Lib.hid ((H6.out.new (b := w6.heap.size) rfl #[.slice A1 2 c1, .int .i64 y, .bool V1, .bool V2, .bool V3, .int .i64 lv, .int .u64 fr] 39).world hq9)
  clear hq9 H6 s0 s1 s2 s3 s4
  generalize w6.heap.size = bw at *
  obtain ⟨u0, u1, u2, u3, u4, u5, u6⟩ := (H7.out.at_ 0 rfl).seven
  obtain ⟨s0, s1, s2, s3, s4⟩ := (H7.out.at_ 1 rfl).five
  go_upto_region 10 with (go_at_call 22; refine (fillP_any (H7.out.the 1 rfl) (H7.out.shifts HS.out (fun h => h)) (H7.out.no0 HS.out (fun h => h) 1 rfl) 1 a i64_1 HAWa.out A1 2 c1 T _ _ _ _ _ _ HPL.out (by decide) (own_steps (H7.out.of_ 0 rfl) HPL.out) (off_block' fun i hi hg => H7.out.off 0 rfl i hi ⟨_, List.mem_cons_of_mem _ (List.mem_cons_self ..), hg⟩) HTW.out 4 (tableF 0) true true true 0 0 0 i64_0 i64_0 i64_0).mono ?_; rw [HFI.out, HLL.out]; rintro e w8 ⟨rfl, hP, hT⟩; have H8 := Lib.hid (H7.out.did 1 rfl (firm_psc _ _ _) hP hT); clear hP hT H7)
  clear u0 u1 u2 u3 u4 u5 u6 s0 s1 s2 s3 s4
  obtain ⟨u0, u1, u2, u3, u4, u5, u6⟩ := (H8.out.at_ 0 rfl).seven
  go_upto_region 11 with fail
  clear u0 u1 u2 u3 u4 u5 u6
  go_upto_region 12 with (go_at_call 13; refine (deepP_any (H8.out.the 1 rfl) (H8.out.shifts HS.out (fun h => h)) 1 a i64_1 HAWa.out).mono ?_; rw [HO.out, deepV_some]; rintro e w9 ⟨rfl, hb⟩; have H9 := Lib.hid (H8.out.quiet hb); clear hb H8)
  generalize hq : w9.alloc _ = w10
  have H10 := Lib.hid ((H9.out.new (b := w9.heap.size) rfl #[.int .i64 3, .int .u64 t, .bool W, .bool U, .bool X] 41).world hq)
  clear hq H9
  generalize w9.heap.size = b1 at *
  go_upto_region 14 with (first | (go_at_call 19; refine (HNEb.out _).mono ?_; rintro e _ ⟨rfl, rfl⟩) | (go_at_call 13; refine (deepP_any (H10.out.the 1 rfl) (H10.out.shifts HS.out (fun h => h)) 1 b i64_1 HAWb.out).mono ?_; rw [HO2.out, deepV_z HV2.out]; rintro e w11 ⟨rfl, hb⟩; have H11 := Lib.hid (H10.out.quiet hb); clear hb H10))
  generalize hq : w11.alloc _ = w12
  have H12 := Lib.hid ((H11.out.new (b := w11.heap.size) rfl #[.int .i64 l2, .int .u64 t2, .bool W2, .bool U2, .bool X2] 41).world hq)
  clear hq H11
  generalize w11.heap.size = b2 at *
  go_upto_region 18 with (first | (go_at_call 16; first | (refine (lenP_any (H12.out.the 1 rfl) 4).mono ?_; rw [HLN.out 4 (by decide) (by decide)]; rintro e w13 ⟨rfl, hb⟩; have H13 := Lib.hid (H12.out.quiet hb); clear hb H12) | (refine (lenP_any (H13.out.the 1 rfl) 3).mono ?_; rw [HLN.out 3 (by decide) (by decide)]; rintro e w14 ⟨rfl, hb⟩; have H14 := Lib.hid (H13.out.quiet hb); clear hb H13) | (refine (lenP_any (H14.out.the 1 rfl) 2).mono ?_; rw [HLN.out 2 (by decide) (by decide)]; rintro e w15 ⟨rfl, hb⟩; have H15 := Lib.hid (H14.out.quiet hb); clear hb H14)) | (go_at_call 23; refine (one_any _ _).mono ?_; rintro e _ ⟨rfl, rfl⟩))
  go_upto_region 19 with (go_at_call 13; refine (deepP_any (H15.out.the 1 rfl) (H15.out.shifts HS.out (fun h => h)) 2 a i64_2 HAWa.out).mono ?_; rw [HE.out, deepV_none]; rintro e w16 ⟨rfl, hb⟩; have H16 := Lib.hid (H15.out.quiet hb); clear hb H15)
  generalize hq : w16.alloc _ = w17
  have H17 := Lib.hid ((H16.out.quiet (below_alloc1 w16 (.cells #[.int .i64 0, .int .u64 0, .bool false, .bool false, .bool false] 41))).world hq)
  clear hq H16
  obtain ⟨r0, r1, r2, r3, r4⟩ := (H17.out.at_ 0 rfl).five
  obtain ⟨s0, s1, s2, s3, s4⟩ := (H17.out.at_ 1 rfl).five
  go_wp2
  go_ret
  exact ⟨rfl, H17.out.below0⟩

set_option maxRecDepth 100000 in
set_option maxHeartbeats 12800000 in
theorem pscFills_2s (A : Option Addr) (c : Nat) (ds : List (Int × Int × Int × Int)) (n1 n2 : Int) (w : World) (hs : Shifts w) (hl : ds.length ≤ maxLen) (hd : PutsIn w A ds) (hok : PutsOk ds) (h10 : 0 ≤ n1) (h11 : n1 < 4294967296) (h20 : 0 ≤ n2) (h21 : n2 < 4294967296) (hp : (walkZ 16 (putSt ds (mostP ds)) (nearF n1) true 4 0 true true true).steps.length = 3) (hsm : (bits .and .u64 (nearF n1 / 1073741824) 1099511627775 == bits .and .u64 (nearF n2 / 1073741824) 1099511627775) = true) :
    Calls Tryd.prog 5 #[.slice A ds.length c, .int .u32 n1, .int .u32 n2] w fun e w' => e = .returned (.bool true) ∧ Below w.heap.size w w' := by
  have HS := Lib.hid hs
  have HD := Lib.hid hd
  have HOK := Lib.hid hok
  have HL1 := Lib.hid hl
  obtain ⟨f, hf⟩ : ∃ f, putSt ds (mostP ds) = f := ⟨_, rfl⟩
  have HFF := Lib.hid hf
  clear hs hd hok hl hf
  rw [HFF.out] at hp
  obtain ⟨a, ha⟩ : ∃ a, nearF n1 = a := ⟨_, rfl⟩
  have HAWa := Lib.hid (ha ▸ near_w n1)
  have HABa := Lib.hid (ha ▸ near_lt n1)
  have HNEa := Lib.hid (ha ▸ fun w => near_any n1 w h10 h11)
  rw [ha] at hp
  rw [ha] at hsm
  clear ha h10 h11
  obtain ⟨b, hb⟩ : ∃ a, nearF n2 = a := ⟨_, rfl⟩
  have HAWb := Lib.hid (hb ▸ near_w n2)
  have HABb := Lib.hid (hb ▸ near_lt n2)
  have HNEb := Lib.hid (hb ▸ fun w => near_any n2 w h20 h21)
  rw [hb] at hsm
  clear hb h20 h21
  obtain ⟨⟨T, y, V1, V2, V3, lv, fr⟩, hP⟩ : ∃ P, walkZ 16 f a true 4 0 true true true = P := ⟨_, rfl⟩
  have HTW := Lib.hid (hP ▸ walk_few f (fun s => by rw [← HFF.out]; exact putSt_w ds _ s) a true 4 0 true true true).2
  have HP : Hid (walkZ 16 f a true 4 (tableF 0) true true true = ⟨T, y, V1, V2, V3, lv, fr⟩) := Lib.hid hP
  have hp' : T.length = 3 := by rw [hP] at hp; exact hp
  have HPL := Lib.hid hp'
  have HFI : Hid (fillK (roomF 8) 1 a (pkF 0 0 0) T true true true noL = fullF a (lineF T) 2) := Lib.hid (full_all (by rw [hP]) hp')
  obtain ⟨L, hL⟩ : ∃ L, fullF a (lineF T) 2 = L := ⟨_, rfl⟩
  have HLL := Lib.hid hL
  have HLN := Lib.hid (hL ▸ full_len a (lineF T) 2)
  have HE : Hid (∀ b, deepK L 2 b = none) := Lib.hid (fun b => hL ▸ full_other a (lineF T) 2 b (by decide))
  obtain ⟨⟨t, W, U, X, dd, mm⟩, hy⟩ : ∃ z, lineF T 1 = z := ⟨_, rfl⟩
  have HO : Hid (deepK L 1 a = some (2, t, W, U, X, dd, mm)) := Lib.hid (hL ▸ hy ▸ full_deep a a (lineF T) (n := 2) (by decide) (by decide) rfl)
  have htag : tagF b (5 - ((2 : Nat) : Int)) = tagF a (5 - ((2 : Nat) : Int)) := by
    have ha := HABa.out
    have hb := HABb.out
    have e : bits .and .u64 (a / 1073741824) 1099511627775 = bits .and .u64 (b / 1073741824) 1099511627775 := by simpa using hsm
    rw [and40 (by omega) (by omega), and40 (by omega) (by omega)] at e
    unfold tagF
    simp
    omega
  have HO2 : Hid (deepK L 1 b = some (2, t, W, U, X, dd, mm)) := Lib.hid (hL ▸ hy ▸ full_deep a b (lineF T) (n := 2) (by decide) (by decide) htag)
  have hq := eqlPlace 2 t W U X
  clear htag
  obtain ⟨ia, hia⟩ : ∃ i, bits .and .u64 (a / 1073741824) 1099511627775 = i := ⟨_, rfl⟩
  obtain ⟨ib, hib⟩ : ∃ i, bits .and .u64 (b / 1073741824) 1099511627775 = i := ⟨_, rfl⟩
  rw [hia, hib] at hsm
  clear hy
  clear hP hp hp' hL
  go_enter Tryd.func5, Tryd.ntmps5
  go_upto_region 7 with (first | (go_at_call 9; refine (awake11_any _ HS.out).mono ?_; rintro e w1 ⟨rfl, hb1⟩; have H1 := Lib.hid ((Has.start0 w (fun _ => False)).quiet hb1); clear hb1) | (go_at_call 17; refine (builtH_any _ _ c ds HL1.out (puts_below HD.out H1.out.below0) HOK.out).mono ?_; rw [HFF.out]; rintro e w2 ⟨m, G, rfl, hH⟩; have H2 := Lib.hid (H1.out.join hH); clear hH H1) | (go_at_call 10; refine (newP_any 8 _).mono ?_; rintro e w3 ⟨q, Gp, rfl, hH⟩; have H3 := Lib.hid (H2.out.join hH); clear hH H2) | (go_at_call 19; refine (HNEa.out _).mono ?_; rintro e _ ⟨rfl, rfl⟩))
  go_upto_region 8 with (go_at_call 21; refine (top_any 0 _ w0).mono ?_; rintro e w4 ⟨rfl, hb⟩; have H4 := Lib.hid (H3.out.quiet hb); clear hb H3)
  generalize hq : w4.alloc _ = w5
  have H5 := Lib.hid ((H4.out.new (b := w4.heap.size) rfl #[.int .i64 4, .int .u64 (tableF 0), .bool true, .bool true, .bool true] 41).world hq)
  clear hq H4
  generalize w4.heap.size = bt at *
  obtain ⟨s0, s1, s2, s3, s4⟩ := (H5.out.at_ 0 rfl).five
  go_upto_region 9 with (go_at_call 20; refine (H5.out.walk HS.out (fun h => h) 0 rfl (by decide) 4 (tableF 0) a true true true true (w64_table _) HAWa.out _ HP.out 3 HPL.out).mono ?_; rintro e w6 ⟨A1, c1, G1, tr1, rfl, hW⟩; have H6 := Lib.hid hW; clear hW H5)
  generalize hq9 : w6.alloc _ = w7
  have H7 := Lib.hid ((H6.out.new (b := w6.heap.size) rfl #[.slice A1 3 c1, .int .i64 y, .bool V1, .bool V2, .bool V3, .int .i64 lv, .int .u64 fr] 39).world hq9)
  clear hq9 H6 s0 s1 s2 s3 s4
  generalize w6.heap.size = bw at *
  obtain ⟨u0, u1, u2, u3, u4, u5, u6⟩ := (H7.out.at_ 0 rfl).seven
  obtain ⟨s0, s1, s2, s3, s4⟩ := (H7.out.at_ 1 rfl).five
  go_upto_region 10 with (go_at_call 22; refine (fillP_any (H7.out.the 1 rfl) (H7.out.shifts HS.out (fun h => h)) (H7.out.no0 HS.out (fun h => h) 1 rfl) 1 a i64_1 HAWa.out A1 3 c1 T _ _ _ _ _ _ HPL.out (by decide) (own_steps (H7.out.of_ 0 rfl) HPL.out) (off_block' fun i hi hg => H7.out.off 0 rfl i hi ⟨_, List.mem_cons_of_mem _ (List.mem_cons_self ..), hg⟩) HTW.out 4 (tableF 0) true true true 0 0 0 i64_0 i64_0 i64_0).mono ?_; rw [HFI.out, HLL.out]; rintro e w8 ⟨rfl, hP, hT⟩; have H8 := Lib.hid (H7.out.did 1 rfl (firm_psc _ _ _) hP hT); clear hP hT H7)
  clear u0 u1 u2 u3 u4 u5 u6 s0 s1 s2 s3 s4
  obtain ⟨u0, u1, u2, u3, u4, u5, u6⟩ := (H8.out.at_ 0 rfl).seven
  go_upto_region 11 with fail
  clear u0 u1 u2 u3 u4 u5 u6
  go_upto_region 12 with (go_at_call 13; refine (deepP_any (H8.out.the 1 rfl) (H8.out.shifts HS.out (fun h => h)) 1 a i64_1 HAWa.out).mono ?_; rw [HO.out, deepV_some]; rintro e w9 ⟨rfl, hb⟩; have H9 := Lib.hid (H8.out.quiet hb); clear hb H8)
  generalize hq : w9.alloc _ = w10
  have H10 := Lib.hid ((H9.out.new (b := w9.heap.size) rfl #[.int .i64 2, .int .u64 t, .bool W, .bool U, .bool X] 41).world hq)
  clear hq H9
  generalize w9.heap.size = b1 at *
  go_upto_region 14 with (first | (go_at_call 19; refine (HNEb.out _).mono ?_; rintro e _ ⟨rfl, rfl⟩) | (go_at_call 13; refine (deepP_any (H10.out.the 1 rfl) (H10.out.shifts HS.out (fun h => h)) 1 b i64_1 HAWb.out).mono ?_; rw [HO2.out, deepV_some]; rintro e w11 ⟨rfl, hb⟩; have H11 := Lib.hid (H10.out.quiet hb); clear hb H10))
  generalize hq : w11.alloc _ = w12
  have H12 := Lib.hid ((H11.out.new (b := w11.heap.size) rfl #[.int .i64 2, .int .u64 t, .bool W, .bool U, .bool X] 41).world hq)
  clear hq H11
  generalize w11.heap.size = b2 at *
  go_upto_region 18 with (first | (go_at_call 16; first | (refine (lenP_any (H12.out.the 1 rfl) 4).mono ?_; rw [HLN.out 4 (by decide) (by decide)]; rintro e w13 ⟨rfl, hb⟩; have H13 := Lib.hid (H12.out.quiet hb); clear hb H12) | (refine (lenP_any (H13.out.the 1 rfl) 3).mono ?_; rw [HLN.out 3 (by decide) (by decide)]; rintro e w14 ⟨rfl, hb⟩; have H14 := Lib.hid (H13.out.quiet hb); clear hb H13) | (refine (lenP_any (H14.out.the 1 rfl) 2).mono ?_; rw [HLN.out 2 (by decide) (by decide)]; rintro e w15 ⟨rfl, hb⟩; have H15 := Lib.hid (H14.out.quiet hb); clear hb H14)) | (go_at_call 23; refine (one_any _ _).mono ?_; rintro e _ ⟨rfl, rfl⟩))
  go_upto_region 19 with (go_at_call 13; refine (deepP_any (H15.out.the 1 rfl) (H15.out.shifts HS.out (fun h => h)) 2 a i64_2 HAWa.out).mono ?_; rw [HE.out, deepV_none]; rintro e w16 ⟨rfl, hb⟩; have H16 := Lib.hid (H15.out.quiet hb); clear hb H15)
  generalize hq : w16.alloc _ = w17
  have H17 := Lib.hid ((H16.out.quiet (below_alloc1 w16 (.cells #[.int .i64 0, .int .u64 0, .bool false, .bool false, .bool false] 41))).world hq)
  clear hq H16
  obtain ⟨r0, r1, r2, r3, r4⟩ := (H17.out.at_ 0 rfl).five
  obtain ⟨s0, s1, s2, s3, s4⟩ := (H17.out.at_ 1 rfl).five
  go_wp2
  go_ret
  exact ⟨rfl, H17.out.below0⟩

set_option maxRecDepth 100000 in
set_option maxHeartbeats 12800000 in
theorem pscFills_2o (A : Option Addr) (c : Nat) (ds : List (Int × Int × Int × Int)) (n1 n2 : Int) (w : World) (hs : Shifts w) (hl : ds.length ≤ maxLen) (hd : PutsIn w A ds) (hok : PutsOk ds) (h10 : 0 ≤ n1) (h11 : n1 < 4294967296) (h20 : 0 ≤ n2) (h21 : n2 < 4294967296) (hp : (walkZ 16 (putSt ds (mostP ds)) (nearF n1) true 4 0 true true true).steps.length = 3) (hsm : (bits .and .u64 (nearF n1 / 1073741824) 1099511627775 == bits .and .u64 (nearF n2 / 1073741824) 1099511627775) = false) :
    Calls Tryd.prog 5 #[.slice A ds.length c, .int .u32 n1, .int .u32 n2] w fun e w' => e = .returned (.bool true) ∧ Below w.heap.size w w' := by
  have HS := Lib.hid hs
  have HD := Lib.hid hd
  have HOK := Lib.hid hok
  have HL1 := Lib.hid hl
  obtain ⟨f, hf⟩ : ∃ f, putSt ds (mostP ds) = f := ⟨_, rfl⟩
  have HFF := Lib.hid hf
  clear hs hd hok hl hf
  rw [HFF.out] at hp
  obtain ⟨a, ha⟩ : ∃ a, nearF n1 = a := ⟨_, rfl⟩
  have HAWa := Lib.hid (ha ▸ near_w n1)
  have HABa := Lib.hid (ha ▸ near_lt n1)
  have HNEa := Lib.hid (ha ▸ fun w => near_any n1 w h10 h11)
  rw [ha] at hp
  rw [ha] at hsm
  clear ha h10 h11
  obtain ⟨b, hb⟩ : ∃ a, nearF n2 = a := ⟨_, rfl⟩
  have HAWb := Lib.hid (hb ▸ near_w n2)
  have HABb := Lib.hid (hb ▸ near_lt n2)
  have HNEb := Lib.hid (hb ▸ fun w => near_any n2 w h20 h21)
  rw [hb] at hsm
  clear hb h20 h21
  obtain ⟨⟨T, y, V1, V2, V3, lv, fr⟩, hP⟩ : ∃ P, walkZ 16 f a true 4 0 true true true = P := ⟨_, rfl⟩
  have HTW := Lib.hid (hP ▸ walk_few f (fun s => by rw [← HFF.out]; exact putSt_w ds _ s) a true 4 0 true true true).2
  have HP : Hid (walkZ 16 f a true 4 (tableF 0) true true true = ⟨T, y, V1, V2, V3, lv, fr⟩) := Lib.hid hP
  have hp' : T.length = 3 := by rw [hP] at hp; exact hp
  have HPL := Lib.hid hp'
  have HFI : Hid (fillK (roomF 8) 1 a (pkF 0 0 0) T true true true noL = fullF a (lineF T) 2) := Lib.hid (full_all (by rw [hP]) hp')
  obtain ⟨L, hL⟩ : ∃ L, fullF a (lineF T) 2 = L := ⟨_, rfl⟩
  have HLL := Lib.hid hL
  have HLN := Lib.hid (hL ▸ full_len a (lineF T) 2)
  have HE : Hid (∀ b, deepK L 2 b = none) := Lib.hid (fun b => hL ▸ full_other a (lineF T) 2 b (by decide))
  obtain ⟨⟨t, W, U, X, dd, mm⟩, hy⟩ : ∃ z, lineF T 1 = z := ⟨_, rfl⟩
  have HO : Hid (deepK L 1 a = some (2, t, W, U, X, dd, mm)) := Lib.hid (hL ▸ hy ▸ full_deep a a (lineF T) (n := 2) (by decide) (by decide) rfl)
  obtain ⟨o, ho⟩ : ∃ o, deepK L 1 b = o := ⟨_, rfl⟩
  have HO2 := Lib.hid ho
  clear ho
  obtain ⟨⟨l2, t2, W2, U2, X2, is2⟩, hV2⟩ : ∃ z, deepZ o = z := ⟨_, rfl⟩
  have HV2 := Lib.hid hV2
  clear hV2
  obtain ⟨ia, hia⟩ : ∃ i, bits .and .u64 (a / 1073741824) 1099511627775 = i := ⟨_, rfl⟩
  obtain ⟨ib, hib⟩ : ∃ i, bits .and .u64 (b / 1073741824) 1099511627775 = i := ⟨_, rfl⟩
  rw [hia, hib] at hsm
  clear hy
  clear hP hp hp' hL
  go_enter Tryd.func5, Tryd.ntmps5
  go_upto_region 7 with (first | (go_at_call 9; refine (awake11_any _ HS.out).mono ?_; rintro e w1 ⟨rfl, hb1⟩; have H1 := Lib.hid ((Has.start0 w (fun _ => False)).quiet hb1); clear hb1) | (go_at_call 17; refine (builtH_any _ _ c ds HL1.out (puts_below HD.out H1.out.below0) HOK.out).mono ?_; rw [HFF.out]; rintro e w2 ⟨m, G, rfl, hH⟩; have H2 := Lib.hid (H1.out.join hH); clear hH H1) | (go_at_call 10; refine (newP_any 8 _).mono ?_; rintro e w3 ⟨q, Gp, rfl, hH⟩; have H3 := Lib.hid (H2.out.join hH); clear hH H2) | (go_at_call 19; refine (HNEa.out _).mono ?_; rintro e _ ⟨rfl, rfl⟩))
  go_upto_region 8 with (go_at_call 21; refine (top_any 0 _ w0).mono ?_; rintro e w4 ⟨rfl, hb⟩; have H4 := Lib.hid (H3.out.quiet hb); clear hb H3)
  generalize hq : w4.alloc _ = w5
  have H5 := Lib.hid ((H4.out.new (b := w4.heap.size) rfl #[.int .i64 4, .int .u64 (tableF 0), .bool true, .bool true, .bool true] 41).world hq)
  clear hq H4
  generalize w4.heap.size = bt at *
  obtain ⟨s0, s1, s2, s3, s4⟩ := (H5.out.at_ 0 rfl).five
  go_upto_region 9 with (go_at_call 20; refine (H5.out.walk HS.out (fun h => h) 0 rfl (by decide) 4 (tableF 0) a true true true true (w64_table _) HAWa.out _ HP.out 3 HPL.out).mono ?_; rintro e w6 ⟨A1, c1, G1, tr1, rfl, hW⟩; have H6 := Lib.hid hW; clear hW H5)
  generalize hq9 : w6.alloc _ = w7
  have H7 := Lib.hid ((H6.out.new (b := w6.heap.size) rfl #[.slice A1 3 c1, .int .i64 y, .bool V1, .bool V2, .bool V3, .int .i64 lv, .int .u64 fr] 39).world hq9)
  clear hq9 H6 s0 s1 s2 s3 s4
  generalize w6.heap.size = bw at *
  obtain ⟨u0, u1, u2, u3, u4, u5, u6⟩ := (H7.out.at_ 0 rfl).seven
  obtain ⟨s0, s1, s2, s3, s4⟩ := (H7.out.at_ 1 rfl).five
  go_upto_region 10 with (go_at_call 22; refine (fillP_any (H7.out.the 1 rfl) (H7.out.shifts HS.out (fun h => h)) (H7.out.no0 HS.out (fun h => h) 1 rfl) 1 a i64_1 HAWa.out A1 3 c1 T _ _ _ _ _ _ HPL.out (by decide) (own_steps (H7.out.of_ 0 rfl) HPL.out) (off_block' fun i hi hg => H7.out.off 0 rfl i hi ⟨_, List.mem_cons_of_mem _ (List.mem_cons_self ..), hg⟩) HTW.out 4 (tableF 0) true true true 0 0 0 i64_0 i64_0 i64_0).mono ?_; rw [HFI.out, HLL.out]; rintro e w8 ⟨rfl, hP, hT⟩; have H8 := Lib.hid (H7.out.did 1 rfl (firm_psc _ _ _) hP hT); clear hP hT H7)
  clear u0 u1 u2 u3 u4 u5 u6 s0 s1 s2 s3 s4
  obtain ⟨u0, u1, u2, u3, u4, u5, u6⟩ := (H8.out.at_ 0 rfl).seven
  go_upto_region 11 with fail
  clear u0 u1 u2 u3 u4 u5 u6
  go_upto_region 12 with (go_at_call 13; refine (deepP_any (H8.out.the 1 rfl) (H8.out.shifts HS.out (fun h => h)) 1 a i64_1 HAWa.out).mono ?_; rw [HO.out, deepV_some]; rintro e w9 ⟨rfl, hb⟩; have H9 := Lib.hid (H8.out.quiet hb); clear hb H8)
  generalize hq : w9.alloc _ = w10
  have H10 := Lib.hid ((H9.out.new (b := w9.heap.size) rfl #[.int .i64 2, .int .u64 t, .bool W, .bool U, .bool X] 41).world hq)
  clear hq H9
  generalize w9.heap.size = b1 at *
  go_upto_region 14 with (first | (go_at_call 19; refine (HNEb.out _).mono ?_; rintro e _ ⟨rfl, rfl⟩) | (go_at_call 13; refine (deepP_any (H10.out.the 1 rfl) (H10.out.shifts HS.out (fun h => h)) 1 b i64_1 HAWb.out).mono ?_; rw [HO2.out, deepV_z HV2.out]; rintro e w11 ⟨rfl, hb⟩; have H11 := Lib.hid (H10.out.quiet hb); clear hb H10))
  generalize hq : w11.alloc _ = w12
  have H12 := Lib.hid ((H11.out.new (b := w11.heap.size) rfl #[.int .i64 l2, .int .u64 t2, .bool W2, .bool U2, .bool X2] 41).world hq)
  clear hq H11
  generalize w11.heap.size = b2 at *
  go_upto_region 18 with (first | (go_at_call 16; first | (refine (lenP_any (H12.out.the 1 rfl) 4).mono ?_; rw [HLN.out 4 (by decide) (by decide)]; rintro e w13 ⟨rfl, hb⟩; have H13 := Lib.hid (H12.out.quiet hb); clear hb H12) | (refine (lenP_any (H13.out.the 1 rfl) 3).mono ?_; rw [HLN.out 3 (by decide) (by decide)]; rintro e w14 ⟨rfl, hb⟩; have H14 := Lib.hid (H13.out.quiet hb); clear hb H13) | (refine (lenP_any (H14.out.the 1 rfl) 2).mono ?_; rw [HLN.out 2 (by decide) (by decide)]; rintro e w15 ⟨rfl, hb⟩; have H15 := Lib.hid (H14.out.quiet hb); clear hb H14)) | (go_at_call 23; refine (one_any _ _).mono ?_; rintro e _ ⟨rfl, rfl⟩))
  go_upto_region 19 with (go_at_call 13; refine (deepP_any (H15.out.the 1 rfl) (H15.out.shifts HS.out (fun h => h)) 2 a i64_2 HAWa.out).mono ?_; rw [HE.out, deepV_none]; rintro e w16 ⟨rfl, hb⟩; have H16 := Lib.hid (H15.out.quiet hb); clear hb H15)
  generalize hq : w16.alloc _ = w17
  have H17 := Lib.hid ((H16.out.quiet (below_alloc1 w16 (.cells #[.int .i64 0, .int .u64 0, .bool false, .bool false, .bool false] 41))).world hq)
  clear hq H16
  obtain ⟨r0, r1, r2, r3, r4⟩ := (H17.out.at_ 0 rfl).five
  obtain ⟨s0, s1, s2, s3, s4⟩ := (H17.out.at_ 1 rfl).five
  go_wp2
  go_ret
  exact ⟨rfl, H17.out.below0⟩

set_option maxRecDepth 100000 in
set_option maxHeartbeats 12800000 in
theorem pscFills_3s (A : Option Addr) (c : Nat) (ds : List (Int × Int × Int × Int)) (n1 n2 : Int) (w : World) (hs : Shifts w) (hl : ds.length ≤ maxLen) (hd : PutsIn w A ds) (hok : PutsOk ds) (h10 : 0 ≤ n1) (h11 : n1 < 4294967296) (h20 : 0 ≤ n2) (h21 : n2 < 4294967296) (hp : (walkZ 16 (putSt ds (mostP ds)) (nearF n1) true 4 0 true true true).steps.length = 4) (hsm : (bits .and .u64 (nearF n1 / 2097152) 1099511627775 == bits .and .u64 (nearF n2 / 2097152) 1099511627775) = true) :
    Calls Tryd.prog 5 #[.slice A ds.length c, .int .u32 n1, .int .u32 n2] w fun e w' => e = .returned (.bool true) ∧ Below w.heap.size w w' := by
  have HS := Lib.hid hs
  have HD := Lib.hid hd
  have HOK := Lib.hid hok
  have HL1 := Lib.hid hl
  obtain ⟨f, hf⟩ : ∃ f, putSt ds (mostP ds) = f := ⟨_, rfl⟩
  have HFF := Lib.hid hf
  clear hs hd hok hl hf
  rw [HFF.out] at hp
  obtain ⟨a, ha⟩ : ∃ a, nearF n1 = a := ⟨_, rfl⟩
  have HAWa := Lib.hid (ha ▸ near_w n1)
  have HABa := Lib.hid (ha ▸ near_lt n1)
  have HNEa := Lib.hid (ha ▸ fun w => near_any n1 w h10 h11)
  rw [ha] at hp
  rw [ha] at hsm
  clear ha h10 h11
  obtain ⟨b, hb⟩ : ∃ a, nearF n2 = a := ⟨_, rfl⟩
  have HAWb := Lib.hid (hb ▸ near_w n2)
  have HABb := Lib.hid (hb ▸ near_lt n2)
  have HNEb := Lib.hid (hb ▸ fun w => near_any n2 w h20 h21)
  rw [hb] at hsm
  clear hb h20 h21
  obtain ⟨⟨T, y, V1, V2, V3, lv, fr⟩, hP⟩ : ∃ P, walkZ 16 f a true 4 0 true true true = P := ⟨_, rfl⟩
  have HTW := Lib.hid (hP ▸ walk_few f (fun s => by rw [← HFF.out]; exact putSt_w ds _ s) a true 4 0 true true true).2
  have HP : Hid (walkZ 16 f a true 4 (tableF 0) true true true = ⟨T, y, V1, V2, V3, lv, fr⟩) := Lib.hid hP
  have hp' : T.length = 4 := by rw [hP] at hp; exact hp
  have HPL := Lib.hid hp'
  have HFI : Hid (fillK (roomF 8) 1 a (pkF 0 0 0) T true true true noL = fullF a (lineF T) 3) := Lib.hid (full_all (by rw [hP]) hp')
  obtain ⟨L, hL⟩ : ∃ L, fullF a (lineF T) 3 = L := ⟨_, rfl⟩
  have HLL := Lib.hid hL
  have HLN := Lib.hid (hL ▸ full_len a (lineF T) 3)
  have HE : Hid (∀ b, deepK L 2 b = none) := Lib.hid (fun b => hL ▸ full_other a (lineF T) 3 b (by decide))
  obtain ⟨⟨t, W, U, X, dd, mm⟩, hy⟩ : ∃ z, lineF T 2 = z := ⟨_, rfl⟩
  have HO : Hid (deepK L 1 a = some (1, t, W, U, X, dd, mm)) := Lib.hid (hL ▸ hy ▸ full_deep a a (lineF T) (n := 3) (by decide) (by decide) rfl)
  have htag : tagF b (5 - ((3 : Nat) : Int)) = tagF a (5 - ((3 : Nat) : Int)) := by
    have ha := HABa.out
    have hb := HABb.out
    have e : bits .and .u64 (a / 2097152) 1099511627775 = bits .and .u64 (b / 2097152) 1099511627775 := by simpa using hsm
    rw [and40 (by omega) (by omega), and40 (by omega) (by omega)] at e
    unfold tagF
    simp
    omega
  have HO2 : Hid (deepK L 1 b = some (1, t, W, U, X, dd, mm)) := Lib.hid (hL ▸ hy ▸ full_deep a b (lineF T) (n := 3) (by decide) (by decide) htag)
  have hq := eqlPlace 1 t W U X
  clear htag
  obtain ⟨ia, hia⟩ : ∃ i, bits .and .u64 (a / 2097152) 1099511627775 = i := ⟨_, rfl⟩
  obtain ⟨ib, hib⟩ : ∃ i, bits .and .u64 (b / 2097152) 1099511627775 = i := ⟨_, rfl⟩
  rw [hia, hib] at hsm
  clear hy
  clear hP hp hp' hL
  go_enter Tryd.func5, Tryd.ntmps5
  go_upto_region 7 with (first | (go_at_call 9; refine (awake11_any _ HS.out).mono ?_; rintro e w1 ⟨rfl, hb1⟩; have H1 := Lib.hid ((Has.start0 w (fun _ => False)).quiet hb1); clear hb1) | (go_at_call 17; refine (builtH_any _ _ c ds HL1.out (puts_below HD.out H1.out.below0) HOK.out).mono ?_; rw [HFF.out]; rintro e w2 ⟨m, G, rfl, hH⟩; have H2 := Lib.hid (H1.out.join hH); clear hH H1) | (go_at_call 10; refine (newP_any 8 _).mono ?_; rintro e w3 ⟨q, Gp, rfl, hH⟩; have H3 := Lib.hid (H2.out.join hH); clear hH H2) | (go_at_call 19; refine (HNEa.out _).mono ?_; rintro e _ ⟨rfl, rfl⟩))
  go_upto_region 8 with (go_at_call 21; refine (top_any 0 _ w0).mono ?_; rintro e w4 ⟨rfl, hb⟩; have H4 := Lib.hid (H3.out.quiet hb); clear hb H3)
  generalize hq : w4.alloc _ = w5
  have H5 := Lib.hid ((H4.out.new (b := w4.heap.size) rfl #[.int .i64 4, .int .u64 (tableF 0), .bool true, .bool true, .bool true] 41).world hq)
  clear hq H4
  generalize w4.heap.size = bt at *
  obtain ⟨s0, s1, s2, s3, s4⟩ := (H5.out.at_ 0 rfl).five
  go_upto_region 9 with (go_at_call 20; refine (H5.out.walk HS.out (fun h => h) 0 rfl (by decide) 4 (tableF 0) a true true true true (w64_table _) HAWa.out _ HP.out 4 HPL.out).mono ?_; rintro e w6 ⟨A1, c1, G1, tr1, rfl, hW⟩; have H6 := Lib.hid hW; clear hW H5)
  generalize hq9 : w6.alloc _ = w7
  have H7 := Lib.hid ((H6.out.new (b := w6.heap.size) rfl #[.slice A1 4 c1, .int .i64 y, .bool V1, .bool V2, .bool V3, .int .i64 lv, .int .u64 fr] 39).world hq9)
  clear hq9 H6 s0 s1 s2 s3 s4
  generalize w6.heap.size = bw at *
  obtain ⟨u0, u1, u2, u3, u4, u5, u6⟩ := (H7.out.at_ 0 rfl).seven
  obtain ⟨s0, s1, s2, s3, s4⟩ := (H7.out.at_ 1 rfl).five
  go_upto_region 10 with (go_at_call 22; refine (fillP_any (H7.out.the 1 rfl) (H7.out.shifts HS.out (fun h => h)) (H7.out.no0 HS.out (fun h => h) 1 rfl) 1 a i64_1 HAWa.out A1 4 c1 T _ _ _ _ _ _ HPL.out (by decide) (own_steps (H7.out.of_ 0 rfl) HPL.out) (off_block' fun i hi hg => H7.out.off 0 rfl i hi ⟨_, List.mem_cons_of_mem _ (List.mem_cons_self ..), hg⟩) HTW.out 4 (tableF 0) true true true 0 0 0 i64_0 i64_0 i64_0).mono ?_; rw [HFI.out, HLL.out]; rintro e w8 ⟨rfl, hP, hT⟩; have H8 := Lib.hid (H7.out.did 1 rfl (firm_psc _ _ _) hP hT); clear hP hT H7)
  clear u0 u1 u2 u3 u4 u5 u6 s0 s1 s2 s3 s4
  obtain ⟨u0, u1, u2, u3, u4, u5, u6⟩ := (H8.out.at_ 0 rfl).seven
  go_upto_region 11 with fail
  clear u0 u1 u2 u3 u4 u5 u6
  go_upto_region 12 with (go_at_call 13; refine (deepP_any (H8.out.the 1 rfl) (H8.out.shifts HS.out (fun h => h)) 1 a i64_1 HAWa.out).mono ?_; rw [HO.out, deepV_some]; rintro e w9 ⟨rfl, hb⟩; have H9 := Lib.hid (H8.out.quiet hb); clear hb H8)
  generalize hq : w9.alloc _ = w10
  have H10 := Lib.hid ((H9.out.new (b := w9.heap.size) rfl #[.int .i64 1, .int .u64 t, .bool W, .bool U, .bool X] 41).world hq)
  clear hq H9
  generalize w9.heap.size = b1 at *
  go_upto_region 14 with (first | (go_at_call 19; refine (HNEb.out _).mono ?_; rintro e _ ⟨rfl, rfl⟩) | (go_at_call 13; refine (deepP_any (H10.out.the 1 rfl) (H10.out.shifts HS.out (fun h => h)) 1 b i64_1 HAWb.out).mono ?_; rw [HO2.out, deepV_some]; rintro e w11 ⟨rfl, hb⟩; have H11 := Lib.hid (H10.out.quiet hb); clear hb H10))
  generalize hq : w11.alloc _ = w12
  have H12 := Lib.hid ((H11.out.new (b := w11.heap.size) rfl #[.int .i64 1, .int .u64 t, .bool W, .bool U, .bool X] 41).world hq)
  clear hq H11
  generalize w11.heap.size = b2 at *
  go_upto_region 18 with (first | (go_at_call 16; first | (refine (lenP_any (H12.out.the 1 rfl) 4).mono ?_; rw [HLN.out 4 (by decide) (by decide)]; rintro e w13 ⟨rfl, hb⟩; have H13 := Lib.hid (H12.out.quiet hb); clear hb H12) | (refine (lenP_any (H13.out.the 1 rfl) 3).mono ?_; rw [HLN.out 3 (by decide) (by decide)]; rintro e w14 ⟨rfl, hb⟩; have H14 := Lib.hid (H13.out.quiet hb); clear hb H13) | (refine (lenP_any (H14.out.the 1 rfl) 2).mono ?_; rw [HLN.out 2 (by decide) (by decide)]; rintro e w15 ⟨rfl, hb⟩; have H15 := Lib.hid (H14.out.quiet hb); clear hb H14)) | (go_at_call 23; refine (one_any _ _).mono ?_; rintro e _ ⟨rfl, rfl⟩))
  go_upto_region 19 with (go_at_call 13; refine (deepP_any (H15.out.the 1 rfl) (H15.out.shifts HS.out (fun h => h)) 2 a i64_2 HAWa.out).mono ?_; rw [HE.out, deepV_none]; rintro e w16 ⟨rfl, hb⟩; have H16 := Lib.hid (H15.out.quiet hb); clear hb H15)
  generalize hq : w16.alloc _ = w17
  have H17 := Lib.hid ((H16.out.quiet (below_alloc1 w16 (.cells #[.int .i64 0, .int .u64 0, .bool false, .bool false, .bool false] 41))).world hq)
  clear hq H16
  obtain ⟨r0, r1, r2, r3, r4⟩ := (H17.out.at_ 0 rfl).five
  obtain ⟨s0, s1, s2, s3, s4⟩ := (H17.out.at_ 1 rfl).five
  go_wp2
  go_ret
  exact ⟨rfl, H17.out.below0⟩

set_option maxRecDepth 100000 in
set_option maxHeartbeats 12800000 in
theorem pscFills_3o (A : Option Addr) (c : Nat) (ds : List (Int × Int × Int × Int)) (n1 n2 : Int) (w : World) (hs : Shifts w) (hl : ds.length ≤ maxLen) (hd : PutsIn w A ds) (hok : PutsOk ds) (h10 : 0 ≤ n1) (h11 : n1 < 4294967296) (h20 : 0 ≤ n2) (h21 : n2 < 4294967296) (hp : (walkZ 16 (putSt ds (mostP ds)) (nearF n1) true 4 0 true true true).steps.length = 4) (hsm : (bits .and .u64 (nearF n1 / 2097152) 1099511627775 == bits .and .u64 (nearF n2 / 2097152) 1099511627775) = false) :
    Calls Tryd.prog 5 #[.slice A ds.length c, .int .u32 n1, .int .u32 n2] w fun e w' => e = .returned (.bool true) ∧ Below w.heap.size w w' := by
  have HS := Lib.hid hs
  have HD := Lib.hid hd
  have HOK := Lib.hid hok
  have HL1 := Lib.hid hl
  obtain ⟨f, hf⟩ : ∃ f, putSt ds (mostP ds) = f := ⟨_, rfl⟩
  have HFF := Lib.hid hf
  clear hs hd hok hl hf
  rw [HFF.out] at hp
  obtain ⟨a, ha⟩ : ∃ a, nearF n1 = a := ⟨_, rfl⟩
  have HAWa := Lib.hid (ha ▸ near_w n1)
  have HABa := Lib.hid (ha ▸ near_lt n1)
  have HNEa := Lib.hid (ha ▸ fun w => near_any n1 w h10 h11)
  rw [ha] at hp
  rw [ha] at hsm
  clear ha h10 h11
  obtain ⟨b, hb⟩ : ∃ a, nearF n2 = a := ⟨_, rfl⟩
  have HAWb := Lib.hid (hb ▸ near_w n2)
  have HABb := Lib.hid (hb ▸ near_lt n2)
  have HNEb := Lib.hid (hb ▸ fun w => near_any n2 w h20 h21)
  rw [hb] at hsm
  clear hb h20 h21
  obtain ⟨⟨T, y, V1, V2, V3, lv, fr⟩, hP⟩ : ∃ P, walkZ 16 f a true 4 0 true true true = P := ⟨_, rfl⟩
  have HTW := Lib.hid (hP ▸ walk_few f (fun s => by rw [← HFF.out]; exact putSt_w ds _ s) a true 4 0 true true true).2
  have HP : Hid (walkZ 16 f a true 4 (tableF 0) true true true = ⟨T, y, V1, V2, V3, lv, fr⟩) := Lib.hid hP
  have hp' : T.length = 4 := by rw [hP] at hp; exact hp
  have HPL := Lib.hid hp'
  have HFI : Hid (fillK (roomF 8) 1 a (pkF 0 0 0) T true true true noL = fullF a (lineF T) 3) := Lib.hid (full_all (by rw [hP]) hp')
  obtain ⟨L, hL⟩ : ∃ L, fullF a (lineF T) 3 = L := ⟨_, rfl⟩
  have HLL := Lib.hid hL
  have HLN := Lib.hid (hL ▸ full_len a (lineF T) 3)
  have HE : Hid (∀ b, deepK L 2 b = none) := Lib.hid (fun b => hL ▸ full_other a (lineF T) 3 b (by decide))
  obtain ⟨⟨t, W, U, X, dd, mm⟩, hy⟩ : ∃ z, lineF T 2 = z := ⟨_, rfl⟩
  have HO : Hid (deepK L 1 a = some (1, t, W, U, X, dd, mm)) := Lib.hid (hL ▸ hy ▸ full_deep a a (lineF T) (n := 3) (by decide) (by decide) rfl)
  obtain ⟨o, ho⟩ : ∃ o, deepK L 1 b = o := ⟨_, rfl⟩
  have HO2 := Lib.hid ho
  clear ho
  obtain ⟨⟨l2, t2, W2, U2, X2, is2⟩, hV2⟩ : ∃ z, deepZ o = z := ⟨_, rfl⟩
  have HV2 := Lib.hid hV2
  clear hV2
  obtain ⟨ia, hia⟩ : ∃ i, bits .and .u64 (a / 2097152) 1099511627775 = i := ⟨_, rfl⟩
  obtain ⟨ib, hib⟩ : ∃ i, bits .and .u64 (b / 2097152) 1099511627775 = i := ⟨_, rfl⟩
  rw [hia, hib] at hsm
  clear hy
  clear hP hp hp' hL
  go_enter Tryd.func5, Tryd.ntmps5
  go_upto_region 7 with (first | (go_at_call 9; refine (awake11_any _ HS.out).mono ?_; rintro e w1 ⟨rfl, hb1⟩; have H1 := Lib.hid ((Has.start0 w (fun _ => False)).quiet hb1); clear hb1) | (go_at_call 17; refine (builtH_any _ _ c ds HL1.out (puts_below HD.out H1.out.below0) HOK.out).mono ?_; rw [HFF.out]; rintro e w2 ⟨m, G, rfl, hH⟩; have H2 := Lib.hid (H1.out.join hH); clear hH H1) | (go_at_call 10; refine (newP_any 8 _).mono ?_; rintro e w3 ⟨q, Gp, rfl, hH⟩; have H3 := Lib.hid (H2.out.join hH); clear hH H2) | (go_at_call 19; refine (HNEa.out _).mono ?_; rintro e _ ⟨rfl, rfl⟩))
  go_upto_region 8 with (go_at_call 21; refine (top_any 0 _ w0).mono ?_; rintro e w4 ⟨rfl, hb⟩; have H4 := Lib.hid (H3.out.quiet hb); clear hb H3)
  generalize hq : w4.alloc _ = w5
  have H5 := Lib.hid ((H4.out.new (b := w4.heap.size) rfl #[.int .i64 4, .int .u64 (tableF 0), .bool true, .bool true, .bool true] 41).world hq)
  clear hq H4
  generalize w4.heap.size = bt at *
  obtain ⟨s0, s1, s2, s3, s4⟩ := (H5.out.at_ 0 rfl).five
  go_upto_region 9 with (go_at_call 20; refine (H5.out.walk HS.out (fun h => h) 0 rfl (by decide) 4 (tableF 0) a true true true true (w64_table _) HAWa.out _ HP.out 4 HPL.out).mono ?_; rintro e w6 ⟨A1, c1, G1, tr1, rfl, hW⟩; have H6 := Lib.hid hW; clear hW H5)
  generalize hq9 : w6.alloc _ = w7
  have H7 := Lib.hid ((H6.out.new (b := w6.heap.size) rfl #[.slice A1 4 c1, .int .i64 y, .bool V1, .bool V2, .bool V3, .int .i64 lv, .int .u64 fr] 39).world hq9)
  clear hq9 H6 s0 s1 s2 s3 s4
  generalize w6.heap.size = bw at *
  obtain ⟨u0, u1, u2, u3, u4, u5, u6⟩ := (H7.out.at_ 0 rfl).seven
  obtain ⟨s0, s1, s2, s3, s4⟩ := (H7.out.at_ 1 rfl).five
  go_upto_region 10 with (go_at_call 22; refine (fillP_any (H7.out.the 1 rfl) (H7.out.shifts HS.out (fun h => h)) (H7.out.no0 HS.out (fun h => h) 1 rfl) 1 a i64_1 HAWa.out A1 4 c1 T _ _ _ _ _ _ HPL.out (by decide) (own_steps (H7.out.of_ 0 rfl) HPL.out) (off_block' fun i hi hg => H7.out.off 0 rfl i hi ⟨_, List.mem_cons_of_mem _ (List.mem_cons_self ..), hg⟩) HTW.out 4 (tableF 0) true true true 0 0 0 i64_0 i64_0 i64_0).mono ?_; rw [HFI.out, HLL.out]; rintro e w8 ⟨rfl, hP, hT⟩; have H8 := Lib.hid (H7.out.did 1 rfl (firm_psc _ _ _) hP hT); clear hP hT H7)
  clear u0 u1 u2 u3 u4 u5 u6 s0 s1 s2 s3 s4
  obtain ⟨u0, u1, u2, u3, u4, u5, u6⟩ := (H8.out.at_ 0 rfl).seven
  go_upto_region 11 with fail
  clear u0 u1 u2 u3 u4 u5 u6
  go_upto_region 12 with (go_at_call 13; refine (deepP_any (H8.out.the 1 rfl) (H8.out.shifts HS.out (fun h => h)) 1 a i64_1 HAWa.out).mono ?_; rw [HO.out, deepV_some]; rintro e w9 ⟨rfl, hb⟩; have H9 := Lib.hid (H8.out.quiet hb); clear hb H8)
  generalize hq : w9.alloc _ = w10
  have H10 := Lib.hid ((H9.out.new (b := w9.heap.size) rfl #[.int .i64 1, .int .u64 t, .bool W, .bool U, .bool X] 41).world hq)
  clear hq H9
  generalize w9.heap.size = b1 at *
  go_upto_region 14 with (first | (go_at_call 19; refine (HNEb.out _).mono ?_; rintro e _ ⟨rfl, rfl⟩) | (go_at_call 13; refine (deepP_any (H10.out.the 1 rfl) (H10.out.shifts HS.out (fun h => h)) 1 b i64_1 HAWb.out).mono ?_; rw [HO2.out, deepV_z HV2.out]; rintro e w11 ⟨rfl, hb⟩; have H11 := Lib.hid (H10.out.quiet hb); clear hb H10))
  generalize hq : w11.alloc _ = w12
  have H12 := Lib.hid ((H11.out.new (b := w11.heap.size) rfl #[.int .i64 l2, .int .u64 t2, .bool W2, .bool U2, .bool X2] 41).world hq)
  clear hq H11
  generalize w11.heap.size = b2 at *
  go_upto_region 18 with (first | (go_at_call 16; first | (refine (lenP_any (H12.out.the 1 rfl) 4).mono ?_; rw [HLN.out 4 (by decide) (by decide)]; rintro e w13 ⟨rfl, hb⟩; have H13 := Lib.hid (H12.out.quiet hb); clear hb H12) | (refine (lenP_any (H13.out.the 1 rfl) 3).mono ?_; rw [HLN.out 3 (by decide) (by decide)]; rintro e w14 ⟨rfl, hb⟩; have H14 := Lib.hid (H13.out.quiet hb); clear hb H13) | (refine (lenP_any (H14.out.the 1 rfl) 2).mono ?_; rw [HLN.out 2 (by decide) (by decide)]; rintro e w15 ⟨rfl, hb⟩; have H15 := Lib.hid (H14.out.quiet hb); clear hb H14)) | (go_at_call 23; refine (one_any _ _).mono ?_; rintro e _ ⟨rfl, rfl⟩))
  go_upto_region 19 with (go_at_call 13; refine (deepP_any (H15.out.the 1 rfl) (H15.out.shifts HS.out (fun h => h)) 2 a i64_2 HAWa.out).mono ?_; rw [HE.out, deepV_none]; rintro e w16 ⟨rfl, hb⟩; have H16 := Lib.hid (H15.out.quiet hb); clear hb H15)
  generalize hq : w16.alloc _ = w17
  have H17 := Lib.hid ((H16.out.quiet (below_alloc1 w16 (.cells #[.int .i64 0, .int .u64 0, .bool false, .bool false, .bool false] 41))).world hq)
  clear hq H16
  obtain ⟨r0, r1, r2, r3, r4⟩ := (H17.out.at_ 0 rfl).five
  obtain ⟨s0, s1, s2, s3, s4⟩ := (H17.out.at_ 1 rfl).five
  go_wp2
  go_ret
  exact ⟨rfl, H17.out.below0⟩

theorem pscFills_walk (A : Option Addr) (c : Nat) (ds : List (Int × Int × Int × Int)) (n1 n2 : Int) (w : World) (hs : Shifts w) (hl : ds.length ≤ maxLen) (hd : PutsIn w A ds) (hok : PutsOk ds) (h10 : 0 ≤ n1) (h11 : n1 < 4294967296) (h20 : 0 ≤ n2) (h21 : n2 < 4294967296) :
    Calls Tryd.prog 5 #[.slice A ds.length c, .int .u32 n1, .int .u32 n2] w fun e w' => e = .returned (.bool true) ∧ Below w.heap.size w w' := by
  have h4 := (walk_few (putSt ds (mostP ds)) (putSt_w ds _) (nearF n1) true 4 0 true true true).1
  have h1 := root_step (putSt ds (mostP ds)) (nearF n1) true 0 (by decide) (by decide) true true true
  rw [show tableF ((0 : Int) * 4096) = 0 from rfl] at h1
  have hn : (walkZ 16 (putSt ds (mostP ds)) (nearF n1) true 4 0 true true true).steps.length = 1 ∨ (walkZ 16 (putSt ds (mostP ds)) (nearF n1) true 4 0 true true true).steps.length = 2 ∨ (walkZ 16 (putSt ds (mostP ds)) (nearF n1) true 4 0 true true true).steps.length = 3 ∨ (walkZ 16 (putSt ds (mostP ds)) (nearF n1) true 4 0 true true true).steps.length = 4 := by omega
  rcases hn with h | h | h | h
  · exact pscFills_0s A c ds n1 n2 w hs hl hd hok h10 h11 h20 h21 h
  · cases hsm : (bits .and .u64 (nearF n1 / 549755813888) 1099511627775 == bits .and .u64 (nearF n2 / 549755813888) 1099511627775)
    · exact pscFills_1o A c ds n1 n2 w hs hl hd hok h10 h11 h20 h21 h hsm
    · exact pscFills_1s A c ds n1 n2 w hs hl hd hok h10 h11 h20 h21 h hsm
  · cases hsm : (bits .and .u64 (nearF n1 / 1073741824) 1099511627775 == bits .and .u64 (nearF n2 / 1073741824) 1099511627775)
    · exact pscFills_2o A c ds n1 n2 w hs hl hd hok h10 h11 h20 h21 h hsm
    · exact pscFills_2s A c ds n1 n2 w hs hl hd hok h10 h11 h20 h21 h hsm
  · cases hsm : (bits .and .u64 (nearF n1 / 2097152) 1099511627775 == bits .and .u64 (nearF n2 / 2097152) 1099511627775)
    · exact pscFills_3o A c ds n1 n2 w hs hl hd hok h10 h11 h20 h21 h hsm
    · exact pscFills_3s A c ds n1 n2 w hs hl hd hok h10 h11 h20 h21 h hsm
end Go.Proofs.YtiihhlmddmicjaaDoor
