/- Several texts of ours in one: L13f, L13h, L13o. -/
import Derived.Test.YtddbjbdhbeijjaaDoorGQmQnL13p
import Derived.Deep.RegionHeld3
import Derived.Test.YtddbjbdhbeijjaaDoorGL13gL13dL13e
/- The walk of TlbDrops. (Laid by tools/gen_l13.py.) -/
namespace Go.Proofs.YtddbjbdhbeijjaaDoor
set_option linter.unusedVariables false
set_option linter.unusedSimpArgs false
open Go.ChangeShapes Go.WideShapes Go.ChangeAt Go.RowKit Go.Joins

set_option maxRecDepth 100000 in
set_option maxHeartbeats 6400000 in
theorem tlbDrops_3a (A : Option Addr) (c : Nat) (ds : List Dt) (w : World) (ht : Tabs w) (hl : ds.length ≤ maxLen) (hd : DtsIn w A ds) (hok : DtsOk ds) (kd p pk a l0 l5 h0 h1 : Int) (l1 l2 l3 l4 h2 h3 h4 h5 : Bool) (b : Int) (hp : I64 p) (hk : I64 pk) (ha : W64 a) (hol : OkL (l0, l1, l2, l3, l4, l5)) (hb : W64 b) (x0 : Int) (x2 x3 x4 x5 : Bool) (ho : lookT (playD 5 ds (mostT ds)) p b = some (x0, 3, x2, x3, x4, x5)) (hpg : pageF a 3 ≠ pageF b 3) :
    Calls Tryd.prog 6 #[.slice A ds.length c, .agg #[.int .i64 kd, .int .i64 p, .int .i64 pk, .int .u64 a, .int .u64 l0, .bool l1, .bool l2, .bool l3, .bool l4, .int .u8 l5, .int .u64 h0, .int .i64 h1, .bool h2, .bool h3, .bool h4, .bool h5], .int .u64 b] w fun e w' => e = .returned (.bool true) ∧ Below w.heap.size w w' := by
  have HT := Lib.hid ht
  have HL1 := Lib.hid hl
  have HD := Lib.hid hd
  have HOK := Lib.hid hok
  have HP := Lib.hid hp
  have HPK := Lib.hid hk
  have HA := Lib.hid ha
  have HOL := Lib.hid hol
  have HB := Lib.hid hb
  obtain ⟨L, hL⟩ : ∃ L, playD 5 ds (mostT ds) = L := ⟨_, rfl⟩
  rw [hL] at ho
  have HLL := Lib.hid hL
  clear hL
  obtain ⟨p1, hp1⟩ : ∃ p1, IntKind.i64.wrap (p + 1) = p1 := ⟨_, rfl⟩
  have HPN : Hid (p1 ≠ p ∧ I64 p1) := Lib.hid (hp1 ▸ pcid_next hp)
  obtain ⟨g, is, hx, _⟩ := ans_h (lookT L p1 b)
  have HX := Lib.hid hx
  have hq := eqlH g g
  rw [decide_eq_true rfl] at hq
  have HPA := Lib.hid fun l w1 => rpage_any a l w1 ha
  have HPB := Lib.hid fun l w1 => rpage_any b l w1 hb
  obtain ⟨pa, hpa⟩ : ∃ z, pageF a 1 = z := ⟨_, rfl⟩
  obtain ⟨pb, hpb⟩ : ∃ z, pageF b 1 = z := ⟨_, rfl⟩
  have HPA1 := Lib.hid (HPA.out 1)
  have HPB1 := Lib.hid (HPB.out 1)
  rw [hpa] at HPA1
  rw [hpb] at HPB1
  have HXW : Hid (ansT (lookT L p b) = .tuple #[.agg #[.int .u64 x0, .int .i64 3, .bool x2, .bool x3, .bool x4, .bool x5], .bool true]) := Lib.hid (by rw [ho]; rfl)
  obtain ⟨qa, hqa⟩ : ∃ z, pageF a 3 = z := ⟨_, rfl⟩
  obtain ⟨qb, hqb⟩ : ∃ z, pageF b 3 = z := ⟨_, rfl⟩
  have HPAL := Lib.hid (HPA.out 3)
  have HPBL := Lib.hid (HPB.out 3)
  rw [hqa] at HPAL
  rw [hqb] at HPBL
  have hap : (qa != qb) = true := by
    have hpg2 := hpg
    rw [hqa, hqb] at hpg2
    simp [hpg2]
  have HX2 : Hid ((keysK L).Nodup → OkLs L → ansT (lookT (dropT 5 L p a) p b) = .tuple #[.agg #[.int .u64 x0, .int .i64 3, .bool x2, .bool x3, .bool x4, .bool x5], .bool true]) := Lib.hid fun h1 h2 => by rw [dropT_stays h1 h2 (R := 5) ho hpg]; rfl
  have hqn := neqH (x0, 3, x2, x3, x4, x5)
  have H0 := Lib.hid ((Has.start0 w (fun _ => False)).new (b := w.heap.size) rfl #[.int .i64 kd, .int .i64 p, .int .i64 pk, .int .u64 a, .int .u64 l0, .bool l1, .bool l2, .bool l3, .bool l4, .int .u8 l5, .int .u64 h0, .int .i64 h1, .bool h2, .bool h3, .bool h4, .bool h5] 39)
  clear ht hl hd hok hp hk ha hol hb hx ho hpa hpb hqa hqb hpg
  go_enter Tryd.func6, Tryd.ntmps6
  go_upto_region 1 with fail
  generalize hw0 : w.alloc _ = v0
  have H1 := Lib.hid (H0.out.world hw0)
  clear hw0 H0
  generalize w.heap.size = bd at H1 ⊢
  go_upto_region 5 with (first | (go_at_call 9; refine (awake13_any _ (H1.out.tabs HT.out off_no)).mono ?_; rintro e w1 ⟨rfl, hb1⟩; have H2 := Lib.hid (H1.out.quiet hb1); clear hb1 H1) | (go_at_call 17; refine (run13_any A c ds _ (H2.out.tabs HT.out off_no) HL1.out (dts_below HD.out H2.out.below0) HOK.out).mono ?_; rw [HLL.out]; rintro e w3 ⟨q, rfl, G, hH⟩; have H3 : Hid (Has w w3 (fun _ => False) [⟨tlbT q 5 L, G⟩] [⟨bd, #[.int .i64 kd, .int .i64 p, .int .i64 pk, .int .u64 a, .int .u64 l0, .bool l1, .bool l2, .bool l3, .bool l4, .int .u8 l5, .int .u64 h0, .int .i64 h1, .bool h2, .bool h3, .bool h4, .bool h5], 39⟩] []) := Lib.hid (H2.out.join hH); clear hH H2))
  have HND := Lib.hid (H3.out.the 0 rfl).nodup
  have HKL := Lib.hid (H3.out.the 0 rfl).ok
  have HX2 := Lib.hid (HX2.out HND.out HKL.out)
  have HXS : Hid (ansT (lookT (dropT 5 L p a) p a) = .tuple #[.agg #[.int .u64 0, .int .i64 0, .bool false, .bool false, .bool false, .bool false], .bool false]) := Lib.hid (by rw [dropT_gone HND.out HKL.out]; rfl)
  have HX3 : Hid (ansT (lookT (dropT 5 L p a) p1 b) = .tuple #[.agg #[.int .u64 g.1, .int .i64 g.2.1, .bool g.2.2.1, .bool g.2.2.2.1, .bool g.2.2.2.2.1, .bool g.2.2.2.2.2], .bool is]) := Lib.hid (by rw [dropT_pcid HND.out HPN.out.1]; exact HX.out)
  obtain ⟨e0, e1, e2, e3, e4, e5, e6, e7, e8, e9, e10, e11, e12, e13, e14, e15⟩ := (H3.out.at_ 0 rfl).c16
  go_upto_region 6 with (go_at_call 13; refine (H3.out.tLook HT.out off_no p b HP.out HB.out).mono ?_; rw [HXW.out]; rintro e w4 ⟨rfl, hb⟩; have H4 := Lib.hid (H3.out.quiet hb); clear hb H3)
  clear e0 e1 e2 e3 e4 e5 e6 e7 e8 e9 e10 e11 e12 e13 e14 e15
  generalize hq9 : w4.alloc _ = w5
  have H5 := Lib.hid ((H4.out.new (b := w4.heap.size) rfl #[.int .u64 x0, .int .i64 3, .bool x2, .bool x3, .bool x4, .bool x5] 37).world hq9)
  clear hq9 H4
  generalize w4.heap.size = b5 at *
  obtain ⟨e0, e1, e2, e3, e4, e5, e6, e7, e8, e9, e10, e11, e12, e13, e14, e15⟩ := (H5.out.at_ 1 rfl).c16
  go_upto_region 7 with (go_at_call 13; refine (H5.out.tLook HT.out off_no p1 b HPN.out.2 HB.out).mono ?_; rw [HX.out]; rintro e w6 ⟨rfl, hb⟩; have H6 := Lib.hid (H5.out.quiet hb); clear hb H5)
  clear e0 e1 e2 e3 e4 e5 e6 e7 e8 e9 e10 e11 e12 e13 e14 e15
  generalize hq9 : w6.alloc _ = w7
  have H7 := Lib.hid ((H6.out.new (b := w6.heap.size) rfl #[.int .u64 g.1, .int .i64 g.2.1, .bool g.2.2.1, .bool g.2.2.2.1, .bool g.2.2.2.2.1, .bool g.2.2.2.2.2] 37).world hq9)
  clear hq9 H6
  generalize w6.heap.size = b7 at *
  obtain ⟨e0, e1, e2, e3, e4, e5, e6, e7, e8, e9, e10, e11, e12, e13, e14, e15⟩ := (H7.out.at_ 2 rfl).c16
  go_upto_region 8 with (go_at_call 22; refine (H7.out.tDrop HT.out off_no p a HP.out HA.out).mono ?_; rintro e w8 ⟨rfl, hE⟩; obtain ⟨G8, hE2⟩ := hE.out; have H8 := Lib.hid hE2; clear hE hE2 H7)
  clear e0 e1 e2 e3 e4 e5 e6 e7 e8 e9 e10 e11 e12 e13 e14 e15
  obtain ⟨e0, e1, e2, e3, e4, e5, e6, e7, e8, e9, e10, e11, e12, e13, e14, e15⟩ := (H8.out.at_ 2 rfl).c16
  go_upto_region 9 with (go_at_call 13; refine (H8.out.tLook HT.out off_no p a HP.out HA.out).mono ?_; rw [HXS.out]; rintro e w9 ⟨rfl, hb⟩; have H9 := Lib.hid (H8.out.quiet hb); clear hb H8)
  clear e0 e1 e2 e3 e4 e5 e6 e7 e8 e9 e10 e11 e12 e13 e14 e15
  generalize hq9 : w9.alloc _ = w10
  have H10 := Lib.hid ((H9.out.new (b := w9.heap.size) rfl #[.int .u64 0, .int .i64 0, .bool false, .bool false, .bool false, .bool false] 37).world hq9)
  clear hq9 H9
  generalize w9.heap.size = b10 at *
  obtain ⟨e0, e1, e2, e3, e4, e5, e6, e7, e8, e9, e10, e11, e12, e13, e14, e15⟩ := (H10.out.at_ 3 rfl).c16
  go_upto_region 10 with (go_at_call 13; refine (H10.out.tLook HT.out off_no p b HP.out HB.out).mono ?_; rw [HX2.out]; rintro e w11 ⟨rfl, hb⟩; have H11 := Lib.hid (H10.out.quiet hb); clear hb H10)
  clear e0 e1 e2 e3 e4 e5 e6 e7 e8 e9 e10 e11 e12 e13 e14 e15
  generalize hq9 : w11.alloc _ = w12
  have H12 := Lib.hid ((H11.out.new (b := w11.heap.size) rfl #[.int .u64 x0, .int .i64 3, .bool x2, .bool x3, .bool x4, .bool x5] 37).world hq9)
  clear hq9 H11
  generalize w11.heap.size = b12 at *
  obtain ⟨e0, e1, e2, e3, e4, e5, e6, e7, e8, e9, e10, e11, e12, e13, e14, e15⟩ := (H12.out.at_ 4 rfl).c16
  go_upto_region 11 with (go_at_call 13; refine (H12.out.tLook HT.out off_no p1 b HPN.out.2 HB.out).mono ?_; rw [HX3.out]; rintro e w13 ⟨rfl, hb⟩; have H13 := Lib.hid (H12.out.quiet hb); clear hb H12)
  clear e0 e1 e2 e3 e4 e5 e6 e7 e8 e9 e10 e11 e12 e13 e14 e15
  generalize hq9 : w13.alloc _ = w14
  have H14 := Lib.hid ((H13.out.new (b := w13.heap.size) rfl #[.int .u64 g.1, .int .i64 g.2.1, .bool g.2.2.1, .bool g.2.2.2.1, .bool g.2.2.2.2.1, .bool g.2.2.2.2.2] 37).world hq9)
  clear hq9 H13
  generalize w13.heap.size = b14 at *
  obtain ⟨e0, e1, e2, e3, e4, e5, e6, e7, e8, e9, e10, e11, e12, e13, e14, e15⟩ := (H14.out.at_ 5 rfl).c16
  go_upto_region 12 with (go_at_call 23; first | ((with_reducible refine (HPA1.out _).mono ?_); rintro e _ ⟨rfl, rfl⟩) | ((with_reducible refine (HPB1.out _).mono ?_); rintro e _ ⟨rfl, rfl⟩))
  obtain ⟨q0, q1, q2, q3, q4, q5⟩ := (H14.out.at_ 1 rfl).c6
  obtain ⟨r0, r1, r2, r3, r4, r5⟩ := (H14.out.at_ 4 rfl).c6
  go_quiet (first | (go_at_call 23; first | (with_reducible exact quietOf (HPAL.out _)) | (with_reducible exact quietOf (HPBL.out _))))
  generalize hw : w14.drewN _ = w15
  have H15 := Lib.hid ((H14.out.quiet (below_drewN (Below.refl _ _) _)).world hw)
  clear hw H14 q0 q1 q2 q3 q4 q5 r0 r1 r2 r3 r4 r5 e0 e1 e2 e3 e4 e5 e6 e7 e8 e9 e10 e11 e12 e13 e14 e15
  obtain ⟨q0, q1, q2, q3, q4, q5⟩ := (H15.out.at_ 0 rfl).c6
  obtain ⟨r0, r1, r2, r3, r4, r5⟩ := (H15.out.at_ 3 rfl).c6
  go_wp2
  go_ret
  exact ⟨rfl, H15.out.below0⟩
set_option maxRecDepth 100000 in
set_option maxHeartbeats 6400000 in
theorem tlbDrops_3s (A : Option Addr) (c : Nat) (ds : List Dt) (w : World) (ht : Tabs w) (hl : ds.length ≤ maxLen) (hd : DtsIn w A ds) (hok : DtsOk ds) (kd p pk a l0 l5 h0 h1 : Int) (l1 l2 l3 l4 h2 h3 h4 h5 : Bool) (b : Int) (hp : I64 p) (hk : I64 pk) (ha : W64 a) (hol : OkL (l0, l1, l2, l3, l4, l5)) (hb : W64 b) (x0 : Int) (x2 x3 x4 x5 : Bool) (ho : lookT (playD 5 ds (mostT ds)) p b = some (x0, 3, x2, x3, x4, x5)) (hpg : pageF a 3 = pageF b 3) :
    Calls Tryd.prog 6 #[.slice A ds.length c, .agg #[.int .i64 kd, .int .i64 p, .int .i64 pk, .int .u64 a, .int .u64 l0, .bool l1, .bool l2, .bool l3, .bool l4, .int .u8 l5, .int .u64 h0, .int .i64 h1, .bool h2, .bool h3, .bool h4, .bool h5], .int .u64 b] w fun e w' => e = .returned (.bool true) ∧ Below w.heap.size w w' := by
  have HT := Lib.hid ht
  have HL1 := Lib.hid hl
  have HD := Lib.hid hd
  have HOK := Lib.hid hok
  have HP := Lib.hid hp
  have HPK := Lib.hid hk
  have HA := Lib.hid ha
  have HOL := Lib.hid hol
  have HB := Lib.hid hb
  obtain ⟨L, hL⟩ : ∃ L, playD 5 ds (mostT ds) = L := ⟨_, rfl⟩
  rw [hL] at ho
  have HLL := Lib.hid hL
  clear hL
  obtain ⟨p1, hp1⟩ : ∃ p1, IntKind.i64.wrap (p + 1) = p1 := ⟨_, rfl⟩
  have HPN : Hid (p1 ≠ p ∧ I64 p1) := Lib.hid (hp1 ▸ pcid_next hp)
  obtain ⟨g, is, hx, _⟩ := ans_h (lookT L p1 b)
  have HX := Lib.hid hx
  have hq := eqlH g g
  rw [decide_eq_true rfl] at hq
  have HPA := Lib.hid fun l w1 => rpage_any a l w1 ha
  have HPB := Lib.hid fun l w1 => rpage_any b l w1 hb
  obtain ⟨pa, hpa⟩ : ∃ z, pageF a 1 = z := ⟨_, rfl⟩
  obtain ⟨pb, hpb⟩ : ∃ z, pageF b 1 = z := ⟨_, rfl⟩
  have HPA1 := Lib.hid (HPA.out 1)
  have HPB1 := Lib.hid (HPB.out 1)
  rw [hpa] at HPA1
  rw [hpb] at HPB1
  have HXW : Hid (ansT (lookT L p b) = .tuple #[.agg #[.int .u64 x0, .int .i64 3, .bool x2, .bool x3, .bool x4, .bool x5], .bool true]) := Lib.hid (by rw [ho]; rfl)
  obtain ⟨qa, hqa⟩ : ∃ z, pageF a 3 = z := ⟨_, rfl⟩
  obtain ⟨qb, hqb⟩ : ∃ z, pageF b 3 = z := ⟨_, rfl⟩
  have HPAL := Lib.hid (HPA.out 3)
  have HPBL := Lib.hid (HPB.out 3)
  rw [hqa] at HPAL
  rw [hqb] at HPBL
  have hap : (qa != qb) = false := by
    have hpg2 := hpg
    rw [hqa, hqb] at hpg2
    simp [hpg2]
  obtain ⟨g2, is2, hx2, _⟩ := ans_h (lookT (dropT 5 L p a) p b)
  have HX2 : Hid ((keysK L).Nodup → OkLs L → ansT (lookT (dropT 5 L p a) p b) = .tuple #[.agg #[.int .u64 g2.1, .int .i64 g2.2.1, .bool g2.2.2.1, .bool g2.2.2.2.1, .bool g2.2.2.2.2.1, .bool g2.2.2.2.2.2], .bool is2]) := Lib.hid fun _ _ => hx2
  clear hx2
  have H0 := Lib.hid ((Has.start0 w (fun _ => False)).new (b := w.heap.size) rfl #[.int .i64 kd, .int .i64 p, .int .i64 pk, .int .u64 a, .int .u64 l0, .bool l1, .bool l2, .bool l3, .bool l4, .int .u8 l5, .int .u64 h0, .int .i64 h1, .bool h2, .bool h3, .bool h4, .bool h5] 39)
  clear ht hl hd hok hp hk ha hol hb hx ho hpa hpb hqa hqb hpg
  go_enter Tryd.func6, Tryd.ntmps6
  go_upto_region 1 with fail
  generalize hw0 : w.alloc _ = v0
  have H1 := Lib.hid (H0.out.world hw0)
  clear hw0 H0
  generalize w.heap.size = bd at H1 ⊢
  go_upto_region 5 with (first | (go_at_call 9; refine (awake13_any _ (H1.out.tabs HT.out off_no)).mono ?_; rintro e w1 ⟨rfl, hb1⟩; have H2 := Lib.hid (H1.out.quiet hb1); clear hb1 H1) | (go_at_call 17; refine (run13_any A c ds _ (H2.out.tabs HT.out off_no) HL1.out (dts_below HD.out H2.out.below0) HOK.out).mono ?_; rw [HLL.out]; rintro e w3 ⟨q, rfl, G, hH⟩; have H3 : Hid (Has w w3 (fun _ => False) [⟨tlbT q 5 L, G⟩] [⟨bd, #[.int .i64 kd, .int .i64 p, .int .i64 pk, .int .u64 a, .int .u64 l0, .bool l1, .bool l2, .bool l3, .bool l4, .int .u8 l5, .int .u64 h0, .int .i64 h1, .bool h2, .bool h3, .bool h4, .bool h5], 39⟩] []) := Lib.hid (H2.out.join hH); clear hH H2))
  have HND := Lib.hid (H3.out.the 0 rfl).nodup
  have HKL := Lib.hid (H3.out.the 0 rfl).ok
  have HX2 := Lib.hid (HX2.out HND.out HKL.out)
  have HXS : Hid (ansT (lookT (dropT 5 L p a) p a) = .tuple #[.agg #[.int .u64 0, .int .i64 0, .bool false, .bool false, .bool false, .bool false], .bool false]) := Lib.hid (by rw [dropT_gone HND.out HKL.out]; rfl)
  have HX3 : Hid (ansT (lookT (dropT 5 L p a) p1 b) = .tuple #[.agg #[.int .u64 g.1, .int .i64 g.2.1, .bool g.2.2.1, .bool g.2.2.2.1, .bool g.2.2.2.2.1, .bool g.2.2.2.2.2], .bool is]) := Lib.hid (by rw [dropT_pcid HND.out HPN.out.1]; exact HX.out)
  obtain ⟨e0, e1, e2, e3, e4, e5, e6, e7, e8, e9, e10, e11, e12, e13, e14, e15⟩ := (H3.out.at_ 0 rfl).c16
  go_upto_region 6 with (go_at_call 13; refine (H3.out.tLook HT.out off_no p b HP.out HB.out).mono ?_; rw [HXW.out]; rintro e w4 ⟨rfl, hb⟩; have H4 := Lib.hid (H3.out.quiet hb); clear hb H3)
  clear e0 e1 e2 e3 e4 e5 e6 e7 e8 e9 e10 e11 e12 e13 e14 e15
  generalize hq9 : w4.alloc _ = w5
  have H5 := Lib.hid ((H4.out.new (b := w4.heap.size) rfl #[.int .u64 x0, .int .i64 3, .bool x2, .bool x3, .bool x4, .bool x5] 37).world hq9)
  clear hq9 H4
  generalize w4.heap.size = b5 at *
  obtain ⟨e0, e1, e2, e3, e4, e5, e6, e7, e8, e9, e10, e11, e12, e13, e14, e15⟩ := (H5.out.at_ 1 rfl).c16
  go_upto_region 7 with (go_at_call 13; refine (H5.out.tLook HT.out off_no p1 b HPN.out.2 HB.out).mono ?_; rw [HX.out]; rintro e w6 ⟨rfl, hb⟩; have H6 := Lib.hid (H5.out.quiet hb); clear hb H5)
  clear e0 e1 e2 e3 e4 e5 e6 e7 e8 e9 e10 e11 e12 e13 e14 e15
  generalize hq9 : w6.alloc _ = w7
  have H7 := Lib.hid ((H6.out.new (b := w6.heap.size) rfl #[.int .u64 g.1, .int .i64 g.2.1, .bool g.2.2.1, .bool g.2.2.2.1, .bool g.2.2.2.2.1, .bool g.2.2.2.2.2] 37).world hq9)
  clear hq9 H6
  generalize w6.heap.size = b7 at *
  obtain ⟨e0, e1, e2, e3, e4, e5, e6, e7, e8, e9, e10, e11, e12, e13, e14, e15⟩ := (H7.out.at_ 2 rfl).c16
  go_upto_region 8 with (go_at_call 22; refine (H7.out.tDrop HT.out off_no p a HP.out HA.out).mono ?_; rintro e w8 ⟨rfl, hE⟩; obtain ⟨G8, hE2⟩ := hE.out; have H8 := Lib.hid hE2; clear hE hE2 H7)
  clear e0 e1 e2 e3 e4 e5 e6 e7 e8 e9 e10 e11 e12 e13 e14 e15
  obtain ⟨e0, e1, e2, e3, e4, e5, e6, e7, e8, e9, e10, e11, e12, e13, e14, e15⟩ := (H8.out.at_ 2 rfl).c16
  go_upto_region 9 with (go_at_call 13; refine (H8.out.tLook HT.out off_no p a HP.out HA.out).mono ?_; rw [HXS.out]; rintro e w9 ⟨rfl, hb⟩; have H9 := Lib.hid (H8.out.quiet hb); clear hb H8)
  clear e0 e1 e2 e3 e4 e5 e6 e7 e8 e9 e10 e11 e12 e13 e14 e15
  generalize hq9 : w9.alloc _ = w10
  have H10 := Lib.hid ((H9.out.new (b := w9.heap.size) rfl #[.int .u64 0, .int .i64 0, .bool false, .bool false, .bool false, .bool false] 37).world hq9)
  clear hq9 H9
  generalize w9.heap.size = b10 at *
  obtain ⟨e0, e1, e2, e3, e4, e5, e6, e7, e8, e9, e10, e11, e12, e13, e14, e15⟩ := (H10.out.at_ 3 rfl).c16
  go_upto_region 10 with (go_at_call 13; refine (H10.out.tLook HT.out off_no p b HP.out HB.out).mono ?_; rw [HX2.out]; rintro e w11 ⟨rfl, hb⟩; have H11 := Lib.hid (H10.out.quiet hb); clear hb H10)
  clear e0 e1 e2 e3 e4 e5 e6 e7 e8 e9 e10 e11 e12 e13 e14 e15
  generalize hq9 : w11.alloc _ = w12
  have H12 := Lib.hid ((H11.out.new (b := w11.heap.size) rfl #[.int .u64 g2.1, .int .i64 g2.2.1, .bool g2.2.2.1, .bool g2.2.2.2.1, .bool g2.2.2.2.2.1, .bool g2.2.2.2.2.2] 37).world hq9)
  clear hq9 H11
  generalize w11.heap.size = b12 at *
  obtain ⟨e0, e1, e2, e3, e4, e5, e6, e7, e8, e9, e10, e11, e12, e13, e14, e15⟩ := (H12.out.at_ 4 rfl).c16
  go_upto_region 11 with (go_at_call 13; refine (H12.out.tLook HT.out off_no p1 b HPN.out.2 HB.out).mono ?_; rw [HX3.out]; rintro e w13 ⟨rfl, hb⟩; have H13 := Lib.hid (H12.out.quiet hb); clear hb H12)
  clear e0 e1 e2 e3 e4 e5 e6 e7 e8 e9 e10 e11 e12 e13 e14 e15
  generalize hq9 : w13.alloc _ = w14
  have H14 := Lib.hid ((H13.out.new (b := w13.heap.size) rfl #[.int .u64 g.1, .int .i64 g.2.1, .bool g.2.2.1, .bool g.2.2.2.1, .bool g.2.2.2.2.1, .bool g.2.2.2.2.2] 37).world hq9)
  clear hq9 H13
  generalize w13.heap.size = b14 at *
  obtain ⟨e0, e1, e2, e3, e4, e5, e6, e7, e8, e9, e10, e11, e12, e13, e14, e15⟩ := (H14.out.at_ 5 rfl).c16
  go_upto_region 12 with (go_at_call 23; first | ((with_reducible refine (HPA1.out _).mono ?_); rintro e _ ⟨rfl, rfl⟩) | ((with_reducible refine (HPB1.out _).mono ?_); rintro e _ ⟨rfl, rfl⟩))
  obtain ⟨q0, q1, q2, q3, q4, q5⟩ := (H14.out.at_ 1 rfl).c6
  obtain ⟨r0, r1, r2, r3, r4, r5⟩ := (H14.out.at_ 4 rfl).c6
  go_quiet (first | (go_at_call 23; first | (with_reducible exact quietOf (HPAL.out _)) | (with_reducible exact quietOf (HPBL.out _))))
  generalize hw : w14.drewN _ = w15
  have H15 := Lib.hid ((H14.out.quiet (below_drewN (Below.refl _ _) _)).world hw)
  clear hw H14 q0 q1 q2 q3 q4 q5 r0 r1 r2 r3 r4 r5 e0 e1 e2 e3 e4 e5 e6 e7 e8 e9 e10 e11 e12 e13 e14 e15
  obtain ⟨q0, q1, q2, q3, q4, q5⟩ := (H15.out.at_ 0 rfl).c6
  obtain ⟨r0, r1, r2, r3, r4, r5⟩ := (H15.out.at_ 3 rfl).c6
  go_wp2
  go_ret
  exact ⟨rfl, H15.out.below0⟩
end Go.Proofs.YtddbjbdhbeijjaaDoor
/- The walk of TlbDrops. (Laid by tools/gen_l13.py.) -/
namespace Go.Proofs.YtddbjbdhbeijjaaDoor
set_option linter.unusedVariables false
set_option linter.unusedSimpArgs false
open Go.ChangeShapes Go.WideShapes Go.ChangeAt Go.RowKit Go.Joins

theorem tlbDrops_walk (A : Option Addr) (c : Nat) (ds : List Dt) (w : World) (ht : Tabs w) (hl : ds.length ≤ maxLen) (hd : DtsIn w A ds) (hok : DtsOk ds) (kd p pk a l0 l5 h0 h1 : Int) (l1 l2 l3 l4 h2 h3 h4 h5 : Bool) (b : Int) (hp : I64 p) (hk : I64 pk) (ha : W64 a) (hol : OkL (l0, l1, l2, l3, l4, l5)) (hb : W64 b) :
    Calls Tryd.prog 6 #[.slice A ds.length c, .agg #[.int .i64 kd, .int .i64 p, .int .i64 pk, .int .u64 a, .int .u64 l0, .bool l1, .bool l2, .bool l3, .bool l4, .int .u8 l5, .int .u64 h0, .int .i64 h1, .bool h2, .bool h3, .bool h4, .bool h5], .int .u64 b] w fun e w' => e = .returned (.bool true) ∧ Below w.heap.size w w' := by
  cases ho : lookT (playD 5 ds (mostT ds)) p b with
  | none => exact tlbDrops_n A c ds w ht hl hd hok kd p pk a l0 l5 h0 h1 l1 l2 l3 l4 h2 h3 h4 h5 b hp hk ha hol hb ho
  | some x =>
    have hlv : x.2.1 = 1 ∨ x.2.1 = 2 ∨ x.2.1 = 3 := by
      rcases look_parts ho with ⟨_, e⟩ | ⟨_, _, e⟩ | ⟨_, _, _, e⟩
      · exact Or.inl e
      · exact Or.inr (Or.inl e)
      · exact Or.inr (Or.inr e)
    obtain ⟨x0, x1, x2, x3, x4, x5⟩ := x
    simp only [] at hlv
    rcases hlv with rfl | rfl | rfl
    · by_cases hpg : pageF a 1 = pageF b 1
      · exact tlbDrops_1s A c ds w ht hl hd hok kd p pk a l0 l5 h0 h1 l1 l2 l3 l4 h2 h3 h4 h5 b hp hk ha hol hb x0 x2 x3 x4 x5 ho hpg
      · exact tlbDrops_1a A c ds w ht hl hd hok kd p pk a l0 l5 h0 h1 l1 l2 l3 l4 h2 h3 h4 h5 b hp hk ha hol hb x0 x2 x3 x4 x5 ho hpg
    · by_cases hpg : pageF a 2 = pageF b 2
      · exact tlbDrops_2s A c ds w ht hl hd hok kd p pk a l0 l5 h0 h1 l1 l2 l3 l4 h2 h3 h4 h5 b hp hk ha hol hb x0 x2 x3 x4 x5 ho hpg
      · exact tlbDrops_2a A c ds w ht hl hd hok kd p pk a l0 l5 h0 h1 l1 l2 l3 l4 h2 h3 h4 h5 b hp hk ha hol hb x0 x2 x3 x4 x5 ho hpg
    · by_cases hpg : pageF a 3 = pageF b 3
      · exact tlbDrops_3s A c ds w ht hl hd hok kd p pk a l0 l5 h0 h1 l1 l2 l3 l4 h2 h3 h4 h5 b hp hk ha hol hb x0 x2 x3 x4 x5 ho hpg
      · exact tlbDrops_3a A c ds w ht hl hd hok kd p pk a l0 l5 h0 h1 l1 l2 l3 l4 h2 h3 h4 h5 b hp hk ha hol hb x0 x2 x3 x4 x5 ho hpg
end Go.Proofs.YtddbjbdhbeijjaaDoor
/- The walk of TlbOf. (Laid by tools/gen_l13.py.) -/
namespace Go.Proofs.YtddbjbdhbeijjaaDoor
set_option linter.unusedVariables false
set_option linter.unusedSimpArgs false
open Go.ChangeShapes Go.WideShapes Go.ChangeAt Go.RowKit Go.Joins

set_option maxRecDepth 100000 in
set_option maxHeartbeats 6400000 in
theorem tlbOf_walk (A : Option Addr) (c : Nat) (ds : List Dt) (w : World) (ht : Tabs w) (hl : ds.length ≤ maxLen) (hd : DtsIn w A ds) (hok : DtsOk ds) (kd p pk a l0 l5 h0 h1 : Int) (l1 l2 l3 l4 h2 h3 h4 h5 : Bool) (b : Int) (hp : I64 p) (hk : I64 pk) (ha : W64 a) (hol : OkL (l0, l1, l2, l3, l4, l5)) (hb : W64 b) :
    Calls Tryd.prog 7 #[.slice A ds.length c, .agg #[.int .i64 kd, .int .i64 p, .int .i64 pk, .int .u64 a, .int .u64 l0, .bool l1, .bool l2, .bool l3, .bool l4, .int .u8 l5, .int .u64 h0, .int .i64 h1, .bool h2, .bool h3, .bool h4, .bool h5], .int .u64 b] w fun e w' => e = .returned (.bool true) ∧ Below w.heap.size w w' := by
  have HT := Lib.hid ht
  have HL1 := Lib.hid hl
  have HD := Lib.hid hd
  have HOK := Lib.hid hok
  have HP := Lib.hid hp
  have HPK := Lib.hid hk
  have HA := Lib.hid ha
  have HOL := Lib.hid hol
  have HB := Lib.hid hb
  obtain ⟨L, hL⟩ : ∃ L, playD 5 ds (mostT ds) = L := ⟨_, rfl⟩
  have HLL := Lib.hid hL
  clear hL
  obtain ⟨p1, hp1⟩ : ∃ p1, IntKind.i64.wrap (p + 1) = p1 := ⟨_, rfl⟩
  have HPN : Hid (p1 ≠ p ∧ I64 p1) := Lib.hid (hp1 ▸ pcid_next hp)
  obtain ⟨g, is, hx, _⟩ := ans_h (lookT L p1 b)
  have HX := Lib.hid hx
  have hq := eqlH g g
  rw [decide_eq_true rfl] at hq
  have HNR : Hid (nearF 0 = 0) := Lib.hid (by decide +kernel)
  have H0 := Lib.hid ((Has.start0 w (fun _ => False)).new (b := w.heap.size) rfl #[.int .i64 kd, .int .i64 p, .int .i64 pk, .int .u64 a, .int .u64 l0, .bool l1, .bool l2, .bool l3, .bool l4, .int .u8 l5, .int .u64 h0, .int .i64 h1, .bool h2, .bool h3, .bool h4, .bool h5] 39)
  clear ht hl hd hok hp hk ha hol hb hx
  go_enter Tryd.func7, Tryd.ntmps7
  go_upto_region 1 with fail
  generalize hw0 : w.alloc _ = v0
  have H1 := Lib.hid (H0.out.world hw0)
  clear hw0 H0
  generalize w.heap.size = bd at H1 ⊢
  go_upto_region 5 with (first | (go_at_call 9; refine (awake13_any _ (H1.out.tabs HT.out off_no)).mono ?_; rintro e w1 ⟨rfl, hb1⟩; have H2 := Lib.hid (H1.out.quiet hb1); clear hb1 H1) | (go_at_call 17; refine (run13_any A c ds _ (H2.out.tabs HT.out off_no) HL1.out (dts_below HD.out H2.out.below0) HOK.out).mono ?_; rw [HLL.out]; rintro e w3 ⟨q, rfl, G, hH⟩; have H3 : Hid (Has w w3 (fun _ => False) [⟨tlbT q 5 L, G⟩] [⟨bd, #[.int .i64 kd, .int .i64 p, .int .i64 pk, .int .u64 a, .int .u64 l0, .bool l1, .bool l2, .bool l3, .bool l4, .int .u8 l5, .int .u64 h0, .int .i64 h1, .bool h2, .bool h3, .bool h4, .bool h5], 39⟩] []) := Lib.hid (H2.out.join hH); clear hH H2))
  have HND := Lib.hid (H3.out.the 0 rfl).nodup
  have HX2 : Hid (ansT (lookT (ofK L p) p b) = .tuple #[.agg #[.int .u64 0, .int .i64 0, .bool false, .bool false, .bool false, .bool false], .bool false]) := Lib.hid (by rw [ofT_gone HND.out]; rfl)
  have HX3 : Hid (ansT (lookT (ofK L p) p1 b) = .tuple #[.agg #[.int .u64 g.1, .int .i64 g.2.1, .bool g.2.2.1, .bool g.2.2.2.1, .bool g.2.2.2.2.1, .bool g.2.2.2.2.2], .bool is]) := Lib.hid (by rw [ofT_pcid HND.out HPN.out.1]; exact HX.out)
  obtain ⟨e0, e1, e2, e3, e4, e5, e6, e7, e8, e9, e10, e11, e12, e13, e14, e15⟩ := (H3.out.at_ 0 rfl).c16
  go_upto_region 6 with (go_at_call 13; refine (H3.out.tLook HT.out off_no p1 b HPN.out.2 HB.out).mono ?_; rw [HX.out]; rintro e w4 ⟨rfl, hb⟩; have H4 := Lib.hid (H3.out.quiet hb); clear hb H3)
  clear e0 e1 e2 e3 e4 e5 e6 e7 e8 e9 e10 e11 e12 e13 e14 e15
  generalize hq9 : w4.alloc _ = w5
  have H5 := Lib.hid ((H4.out.new (b := w4.heap.size) rfl #[.int .u64 g.1, .int .i64 g.2.1, .bool g.2.2.1, .bool g.2.2.2.1, .bool g.2.2.2.2.1, .bool g.2.2.2.2.2] 37).world hq9)
  clear hq9 H4
  generalize w4.heap.size = b5 at *
  obtain ⟨e0, e1, e2, e3, e4, e5, e6, e7, e8, e9, e10, e11, e12, e13, e14, e15⟩ := (H5.out.at_ 1 rfl).c16
  go_upto_region 7 with (go_at_call 24; refine (H5.out.tOf p).mono ?_; rintro e w6 ⟨rfl, hE⟩; obtain ⟨G6, hE2⟩ := hE.out; have H6 := Lib.hid hE2; clear hE hE2 H5)
  clear e0 e1 e2 e3 e4 e5 e6 e7 e8 e9 e10 e11 e12 e13 e14 e15
  obtain ⟨e0, e1, e2, e3, e4, e5, e6, e7, e8, e9, e10, e11, e12, e13, e14, e15⟩ := (H6.out.at_ 1 rfl).c16
  go_upto_region 8 with (go_at_call 13; refine (H6.out.tLook HT.out off_no p b HP.out HB.out).mono ?_; rw [HX2.out]; rintro e w7 ⟨rfl, hb⟩; have H7 := Lib.hid (H6.out.quiet hb); clear hb H6)
  clear e0 e1 e2 e3 e4 e5 e6 e7 e8 e9 e10 e11 e12 e13 e14 e15
  generalize hq9 : w7.alloc _ = w8
  have H8 := Lib.hid ((H7.out.new (b := w7.heap.size) rfl #[.int .u64 0, .int .i64 0, .bool false, .bool false, .bool false, .bool false] 37).world hq9)
  clear hq9 H7
  generalize w7.heap.size = b8 at *
  obtain ⟨e0, e1, e2, e3, e4, e5, e6, e7, e8, e9, e10, e11, e12, e13, e14, e15⟩ := (H8.out.at_ 2 rfl).c16
  go_upto_region 9 with (go_at_call 13; refine (H8.out.tLook HT.out off_no p1 b HPN.out.2 HB.out).mono ?_; rw [HX3.out]; rintro e w9 ⟨rfl, hb⟩; have H9 := Lib.hid (H8.out.quiet hb); clear hb H8)
  clear e0 e1 e2 e3 e4 e5 e6 e7 e8 e9 e10 e11 e12 e13 e14 e15
  generalize hq9 : w9.alloc _ = w10
  have H10 := Lib.hid ((H9.out.new (b := w9.heap.size) rfl #[.int .u64 g.1, .int .i64 g.2.1, .bool g.2.2.1, .bool g.2.2.2.1, .bool g.2.2.2.2.1, .bool g.2.2.2.2.2] 37).world hq9)
  clear hq9 H9
  generalize w9.heap.size = b10 at *
  go_upto_region 10 with (go_at_call 25; refine (H10.out.tClear).mono ?_; rintro e w11 ⟨rfl, hE⟩; obtain ⟨G11, hE2⟩ := hE.out; have H11 := Lib.hid hE2; clear hE hE2 H10)
  obtain ⟨e0, e1, e2, e3, e4, e5, e6, e7, e8, e9, e10, e11, e12, e13, e14, e15⟩ := (H11.out.at_ 3 rfl).c16
  have HZ1 := Lib.hid fun w1 (ht : Tabs w1) => tlbSmall_any 1 0 (TV.none w1 (fun _ => False)) ht i64_1T w0 (l0, l1, l2, l3, l4, l5) HOL.out 0 i64_0T
  have HZ2 := Lib.hid fun w1 (ht : Tabs w1) => tlbGreatP_any 1 0 (TV.none w1 (fun _ => False)) ht i64_1T w0 (h0, h1, h2, h3, h4, h5) 0 i64_0T
  have HZ3 := Lib.hid fun w1 (ht : Tabs w1) => tlbDropPage_any 1 0 (TV.none w1 (fun _ => False)) ht off_no i64_1T w0
  have HZ4 := Lib.hid fun w1 => tlbDropOf_any 1 (TV.none w1 (fun _ => False))
  have HZ5 := Lib.hid fun w1 => tlbClear_any (TV.none w1 (fun _ => False))
  have HZ6 := Lib.hid fun w1 => tlbEvict_any 0 (TV.none w1 (fun _ => False)) i64_0T
  have HZ7 := Lib.hid fun w1 (ht : Tabs w1) => tlbLook_any 1 0 (TV.none w1 (fun _ => False)) ht i64_1T w0
  have HZ8 := Lib.hid fun w1 => tlbLen_any (TV.none w1 (fun _ => False))
  rw [show ansT (lookT [] 1 0) = .tuple #[.agg #[.int .u64 0, .int .i64 0, .bool false, .bool false, .bool false, .bool false], .bool false] by kernel_rfl] at HZ7
  go_upto_region 12 with (go_at_call 18; refine (HZ1.out _ (H11.out.tabs HT.out off_no)).mono ?_; rintro e w12 ⟨rfl, hv⟩; have H12 := Lib.hid (H11.out.quiet hv.below); clear hv H11)
  clear e0 e1 e2 e3 e4 e5 e6 e7 e8 e9 e10 e11 e12 e13 e14 e15
  obtain ⟨e0, e1, e2, e3, e4, e5, e6, e7, e8, e9, e10, e11, e12, e13, e14, e15⟩ := (H12.out.at_ 3 rfl).c16
  go_upto_region 13 with (go_at_call 20; refine (HZ2.out _ (H12.out.tabs HT.out off_no)).mono ?_; rintro e w13 ⟨rfl, hv⟩; have H13 := Lib.hid (H12.out.quiet hv.below); clear hv H12)
  clear e0 e1 e2 e3 e4 e5 e6 e7 e8 e9 e10 e11 e12 e13 e14 e15
  go_upto_region 17 with (first | (go_at_call 22; refine (HZ3.out _ (H13.out.tabs HT.out off_no)).mono ?_; rintro e w14 ⟨rfl, hv⟩; have H14 := Lib.hid (H13.out.quiet hv.below); clear hv H13) | (go_at_call 24; refine (HZ4.out _).mono ?_; rintro e w15 ⟨rfl, hv⟩; have H15 := Lib.hid (H14.out.quiet hv.below); clear hv H14) | (go_at_call 25; refine (HZ5.out _).mono ?_; rintro e w16 ⟨rfl, hv⟩; have H16 := Lib.hid (H15.out.quiet hv.below); clear hv H15) | (go_at_call 26; refine (HZ6.out _).mono ?_; rintro e w17 ⟨rfl, hv⟩; have H17 := Lib.hid (H16.out.quiet hv.below); clear hv H16))
  go_upto_region 18 with (go_at_call 13; refine (HZ7.out _ (H17.out.tabs HT.out off_no)).mono ?_; rintro e w18 ⟨rfl, hb⟩; have H18 := Lib.hid (H17.out.quiet hb); clear hb H17)
  generalize hq9 : w18.alloc _ = w19
  have H19 := Lib.hid ((H18.out.new (b := w18.heap.size) rfl #[.int .u64 0, .int .i64 0, .bool false, .bool false, .bool false, .bool false] 37).world hq9)
  clear hq9 H18
  generalize w18.heap.size = b19 at *
  obtain ⟨r0, r1, r2, r3, r4, r5⟩ := (H19.out.at_ 1 rfl).c6
  obtain ⟨s0, s1, s2, s3, s4, s5⟩ := (H19.out.at_ 3 rfl).c6
  go_wp2_with (first | (go_at_call 16; first | (refine H19.out.tLen.mono ?_; rintro e w20 ⟨rfl, hb⟩; have H20 := Lib.hid (H19.out.quiet hb); clear hb H19) | (refine (HZ8.out _).mono ?_; rintro e w21 ⟨rfl, hb⟩; have H21 := Lib.hid (H20.out.quiet hb); clear hb H20)) | (go_at_call 27; refine (near_any 0 _ (by decide) (by decide)).mono ?_; rw [HNR.out]; rintro e _ ⟨rfl, rfl⟩))
  go_ret
  exact ⟨rfl, H21.out.below0⟩
end Go.Proofs.YtddbjbdhbeijjaaDoor
