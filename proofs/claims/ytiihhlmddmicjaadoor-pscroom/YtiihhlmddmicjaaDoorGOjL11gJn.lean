/- Several texts of ours in one: Oj, L11g, Jn. -/
import Derived.Test.YtiihhlmddmicjaaDoorGJhJkJl
import Derived.Test.YtiihhlmddmicjaaDoorGJmL11aOq
import Derived.Test.YtiihhlmddmicjaaDoorGVmRN
import Derived.Test.YtiihhlmddmicjaaDoorGVaVrFr
import Derived.ChangeSlices
import Derived.Deep.RegionLaw
/- A slice of numbers of 32 bits that came in; a pair of such numbers. -/
namespace Go.Proofs.YtiihhlmddmicjaaDoor
set_option linter.unusedVariables false
set_option linter.unusedSimpArgs false
open Go.ChangeShapes Go.WideShapes Go.ChangeAt Go.RowKit Go.Joins

theorem ns_ok {ns : List Int} (h : ∀ z ∈ ns, (Lit.int .u32 z).wf = true) : NsOk ns := fun k => by
  rcases Nat.lt_or_ge k ns.length with hk | hk
  · rw [List.getD, List.getElem?_eq_getElem hk]
    exact bounds_u32 (h _ (List.getElem_mem hk))
  · rw [List.getD, List.getElem?_eq_none hk]
    exact ⟨by decide, by decide⟩

set_option maxRecDepth 100000 in
theorem open_ns {H : Type} {enc : TypeId × Value → H} {w : World} {base : Nat} {spare : Nat → Bool} {held : Bool} {r : Reach} {b0 : Nat} {v : Value} {d : DataW H} {p : List MemPlace}
    (hv : Value.okWide Tryd.prog w r b0 56 v) (h : DataW.Trod enc Tryd.prog w base spare held 56 v d p) :
    ∃ A ns c, v = .slice A ns.length c ∧ ns.length ≤ maxLen ∧ NsIn w A ns ∧ NsOk ns := by
  obtain ⟨a, len, cap, rfl⟩ := okWide_slice Tryd.underlying56 hv
  obtain ⟨fuel, hf⟩ := h
  rcases open_ints Tryd.underlying56 Tryd.underlying57 (by kernel_rfl) hf with ⟨hcs, _⟩ | ⟨ad, len', cap', zs, hcs, _, hl, hm, hlen, _, hcell, hwf⟩
  · have e : Value.slice a len cap = .slice none 0 0 := by simpa [Value.cells] using hcs
    rw [e]
    exact ⟨none, [], 0, rfl, by simp [maxLen], fun k hk => absurd hk (by simp), ns_ok (by intro z hz; cases hz)⟩
  · have e : Value.slice a len cap = .slice (some ad) len' cap' := by simpa [Value.cells] using hcs
    rw [e]
    have hle : len' ≤ zs.length := by rw [hlen]; split <;> omega
    have hlt : (zs.take len').length = len' := by rw [List.length_take]; omega
    refine ⟨some ad, zs.take len', cap', by rw [hlt], by rw [hlt]; omega, fun k hk => ⟨ad, rfl, ?_⟩, ns_ok (fun z hz => hwf z (List.mem_of_mem_take hz))⟩
    rw [hlt] at hk
    rw [hcell k (by omega)]
    simp [List.getD, List.getElem?_take, hk]
theorem pair_u32 {zs : List Int} (hl : zs.length = 2) (hz : ∀ z ∈ zs, (Lit.int .u32 z).wf = true) : ∃ n0 n1, zs = [n0, n1] ∧ (0 ≤ n0 ∧ n0 < 4294967296) ∧ 0 ≤ n1 ∧ n1 < 4294967296 := by
  obtain ⟨t, u, rfl⟩ := list2 hl
  exact ⟨t, u, rfl, bounds_u32 (hz t (by simp)), bounds_u32 (hz u (by simp))⟩
end Go.Proofs.YtiihhlmddmicjaaDoor
/- The walk of PscGoes. (Laid by tools/gen_l11.py.) -/
namespace Go.Proofs.YtiihhlmddmicjaaDoor
set_option linter.unusedVariables false
set_option linter.unusedSimpArgs false
open Go.ChangeShapes Go.WideShapes Go.ChangeAt Go.RowKit Go.Joins

set_option maxRecDepth 100000 in
set_option maxHeartbeats 6400000 in
theorem pscGoes_walk (A : Option Addr) (c : Nat) (ds : List (Int × Int × Int × Int)) (B : Option Addr) (d : Nat) (ns : List Int) (n : Int) (w : World) (hs : Shifts w) (hl : ds.length ≤ maxLen) (hd : PutsIn w A ds) (hok : PutsOk ds) (hl2 : ns.length ≤ maxLen) (hn : NsIn w B ns) (hnk : NsOk ns) (n0 : 0 ≤ n) (n1 : n < 4294967296) :
    Calls Tryd.prog 4 #[.slice A ds.length c, .slice B ns.length d, .int .u32 n] w fun e w' => e = .returned (.bool true) ∧ Below w.heap.size w w' := by
  have HS := Lib.hid hs
  have HD := Lib.hid hd
  have HOK := Lib.hid hok
  have HL1 := Lib.hid hl
  obtain ⟨f, hf⟩ : ∃ f, putSt ds (mostP ds) = f := ⟨_, rfl⟩
  have HFF := Lib.hid hf
  clear hs hd hok hl hf
  have HN := Lib.hid hn
  have HNK := Lib.hid hnk
  have HL2 := Lib.hid hl2
  obtain ⟨R, hR⟩ : ∃ R : Nat, roomF 3 = R := ⟨_, rfl⟩
  have HRR := Lib.hid hR
  obtain ⟨L, hL⟩ : ∃ L, warmN f R ns (mostN ns) = L := ⟨_, rfl⟩
  have HLL := Lib.hid hL
  have HW := Lib.hid (hL ▸ warm_warm f R ns (mostN ns))
  clear hn hnk hR hL hl2
  obtain ⟨a, ha⟩ : ∃ a, nearF n = a := ⟨_, rfl⟩
  have HAWa := Lib.hid (ha ▸ near_w n)
  have HABa := Lib.hid (ha ▸ near_lt n)
  have HNEa := Lib.hid (ha ▸ fun w => near_any n w n0 n1)
  clear ha
  clear n0 n1
  cases ho : deepK L 1 a with
  | none =>
    have HO1 := Lib.hid ho
    obtain ⟨P, hP⟩ : ∃ P, walkZ 16 f a true 4 (tableF 0) true true true = P := ⟨_, rfl⟩
    have HP := Lib.hid hP
    obtain ⟨p, hp⟩ : ∃ p, P.steps.length = p := ⟨_, rfl⟩
    have HPL := Lib.hid hp
    clear ho hP hp
    have hq := eqlPlace 0 0 false false false
    go_enter Tryd.func4, Tryd.ntmps4
    go_upto_region 8 with (first | (go_at_call 9; refine (awake11_any _ HS.out).mono ?_; rintro e w1 ⟨rfl, hb1⟩; have H1 := Lib.hid ((Has.start0 w (fun _ => False)).quiet hb1); clear hb1) | (go_at_call 17; refine (builtH_any _ _ c ds HL1.out (puts_below HD.out H1.out.below0) HOK.out).mono ?_; rw [HFF.out]; rintro e w2 ⟨m, G, rfl, hH⟩; have H2 := Lib.hid (H1.out.join hH); clear hH H1) | (go_at_call 18; refine (warm_any (H2.out.the 0 rfl) (by decide) (H2.out.shifts HS.out (fun h => h)) (H2.out.no0 HS.out (fun h => h) 0 rfl) 3 B ns d HL2.out (ns_same HN.out H2.out.turn) (ns_off HN.out (H2.out.late 0 rfl)) HNK.out).mono ?_; rw [HRR.out, HLL.out]; rintro e w3 ⟨q, rfl, tr, Gm, Gp, hH⟩; have H3 : Hid (Has w w3 (fun _ => False) [⟨memT m 16 f tr 200, Gm⟩, ⟨pscT q R L, Gp⟩] [] []) := Lib.hid (H2.out.call 0 rfl hH); clear hH H2) | (go_at_call 19; refine (HNEa.out _).mono ?_; rintro e _ ⟨rfl, rfl⟩) | (go_at_call 13; refine (deepP_any (H3.out.the 1 rfl) (H3.out.shifts HS.out (fun h => h)) 1 a i64_1 HAWa.out).mono ?_; rw [HO1.out, deepV_none]; rintro e w4 ⟨rfl, hb⟩; have H4 := Lib.hid (H3.out.quiet hb); clear hb H3))
    generalize hq : w4.alloc _ = w5
    have H5 := Lib.hid ((H4.out.new (b := w4.heap.size) rfl #[.int .i64 0, .int .u64 0, .bool false, .bool false, .bool false] 41).world hq)
    clear hq H4
    generalize w4.heap.size = bt at *
    go_upto_region 10 with (first | (go_at_call 21; refine (top_any 0 _ w0).mono ?_; rintro e w6 ⟨rfl, hb⟩; have H6 := Lib.hid (H5.out.quiet hb); clear hb H5) | (go_at_call 20; refine (H6.out.walk HS.out (fun h => h) 0 rfl (by decide) 4 (tableF 0) a true true true true (w64_table _) HAWa.out P HP.out p HPL.out).mono ?_; rintro e w7 ⟨A1, c1, G1, tr1, rfl, hW⟩; have H7 := Lib.hid hW; clear hW H6))
    generalize hq9 : w7.alloc _ = w8
    have H8 := Lib.hid ((H7.out.quiet (below_alloc1 w7 _)).world hq9)
    clear hq9 H7
    obtain ⟨s0, s1, s2, s3, s4⟩ := (H8.out.at_ 0 rfl).five
    go_wp2
    go_ret
    exact ⟨rfl, H8.out.below0⟩
  | some y =>
    obtain ⟨l, t, W, U, X, dd, mm⟩ := y
    have HO1 := Lib.hid ho
    obtain ⟨hr, hl3, _⟩ := HW.out.deep ho
    have hlv := hr.lev
    have HT := Lib.hid hlv.2.2.1
    obtain ⟨S, hS, hSl⟩ := hr.through
    obtain ⟨⟨QS, y, V1, V2, V3, lv, fr⟩, hQ⟩ : ∃ Q, walkZ 16 f a true l t W U X = Q := ⟨_, rfl⟩
    have HQ := Lib.hid hQ
    rw [hQ] at hS
    obtain ⟨T, hT⟩ : ∃ T, S ++ QS = T := ⟨_, rfl⟩
    have HP : Hid (walkZ 16 f a true 4 (tableF 0) true true true = ⟨T, y, V1, V2, V3, lv, fr⟩) := Lib.hid (by rw [← hT]; exact hS)
    obtain ⟨p, hp⟩ : ∃ p, T.length = p := ⟨_, rfl⟩
    obtain ⟨qn, hqn⟩ : ∃ q, QS.length = q := ⟨_, rfl⟩
    obtain ⟨k9, hk9⟩ : ∃ k, S.length = k := ⟨_, rfl⟩
    have hsum : p = k9 + qn := by rw [← hp, ← hT, List.length_append, hqn, hk9]
    rw [hk9] at hSl
    have HPL := Lib.hid hp
    have HQL := Lib.hid hqn
    have HBH : Hid (∀ i, stepAt T (k9 + i) = stepAt QS i) := Lib.hid fun i => by rw [← hT, ← hk9]; exact step_behind S QS i
    have hq4 : qn ≤ 4 := by
      have := (walk_few f (fun s => by rw [← HFF.out]; exact putSt_w ds _ s) a true l t W U X).1
      rw [hQ] at this
      have h5 : QS.length ≤ 4 := this
      omega
    have e1 : IntKind.i64.wrap ((p : Int) - (qn : Int)) = k9 := by rw [IntKind.wrap_i64]; omega
    have e2 : decide ((k9 : Int) < 1) = false := decide_eq_false (by omega)
    have e3 : IntKind.i64.wrap (4 - (k9 : Int)) = l := by rw [IntKind.wrap_i64]; omega
    have HK9 := Lib.hid hsum
    have hk4 : k9 ≤ 4 := by omega
    have hr1 := neqRight V1 V2 V3
    clear ho hr hl3 hlv hS hSl hQ hT hp hqn hk9 hsum
    go_enter Tryd.func4, Tryd.ntmps4
    go_upto_region 8 with (first | (go_at_call 9; refine (awake11_any _ HS.out).mono ?_; rintro e w1 ⟨rfl, hb1⟩; have H1 := Lib.hid ((Has.start0 w (fun _ => False)).quiet hb1); clear hb1) | (go_at_call 17; refine (builtH_any _ _ c ds HL1.out (puts_below HD.out H1.out.below0) HOK.out).mono ?_; rw [HFF.out]; rintro e w2 ⟨m, G, rfl, hH⟩; have H2 := Lib.hid (H1.out.join hH); clear hH H1) | (go_at_call 18; refine (warm_any (H2.out.the 0 rfl) (by decide) (H2.out.shifts HS.out (fun h => h)) (H2.out.no0 HS.out (fun h => h) 0 rfl) 3 B ns d HL2.out (ns_same HN.out H2.out.turn) (ns_off HN.out (H2.out.late 0 rfl)) HNK.out).mono ?_; rw [HRR.out, HLL.out]; rintro e w3 ⟨q, rfl, tr, Gm, Gp, hH⟩; have H3 : Hid (Has w w3 (fun _ => False) [⟨memT m 16 f tr 200, Gm⟩, ⟨pscT q R L, Gp⟩] [] []) := Lib.hid (H2.out.call 0 rfl hH); clear hH H2) | (go_at_call 19; refine (HNEa.out _).mono ?_; rintro e _ ⟨rfl, rfl⟩) | (go_at_call 13; refine (deepP_any (H3.out.the 1 rfl) (H3.out.shifts HS.out (fun h => h)) 1 a i64_1 HAWa.out).mono ?_; rw [HO1.out, deepV_some]; rintro e w4 ⟨rfl, hb⟩; have H4 := Lib.hid (H3.out.quiet hb); clear hb H3))
    generalize hq : w4.alloc _ = w5
    have H5 := Lib.hid ((H4.out.new (b := w4.heap.size) rfl #[.int .i64 l, .int .u64 t, .bool W, .bool U, .bool X] 41).world hq)
    clear hq H4
    generalize w4.heap.size = bt at *
    go_upto_region 9 with (first | (go_at_call 21; refine (top_any 0 _ w0).mono ?_; rintro e w6 ⟨rfl, hb⟩; have H6 := Lib.hid (H5.out.quiet hb); clear hb H5) | (go_at_call 20; refine (H6.out.walk HS.out (fun h => h) 0 rfl (by decide) 4 (tableF 0) a true true true true (w64_table _) HAWa.out _ HP.out p HPL.out).mono ?_; rintro e w7 ⟨A1, c1, G1, tr1, rfl, hW⟩; have H7 := Lib.hid hW; clear hW H6))
    generalize hq9 : w7.alloc _ = w8
    have H8 := Lib.hid ((H7.out.new (b := w7.heap.size) rfl #[.slice A1 p c1, .int .i64 y, .bool V1, .bool V2, .bool V3, .int .i64 lv, .int .u64 fr] 39).world hq9)
    clear hq9 H7
    generalize w7.heap.size = bw at *
    obtain ⟨s0, s1, s2, s3, s4⟩ := (H8.out.at_ 1 rfl).five
    go_upto_region 12 with (go_at_call 20; refine (H8.out.walk HS.out (fun h => h) 0 rfl (by decide) l t a W U X true (HT.out) HAWa.out _ HQ.out qn HQL.out).mono ?_; rintro e w9 ⟨A2, c2, G2, tr2, rfl, hW⟩; have H9 := Lib.hid hW; clear hW H8)
    generalize hq10 : w9.alloc _ = w10
    have H10 := Lib.hid ((H9.out.new (b := w9.heap.size) rfl #[.slice A2 qn c2, .int .i64 y, .bool V1, .bool V2, .bool V3, .int .i64 lv, .int .u64 fr] 39).world hq10)
    clear hq10 H9 s0 s1 s2 s3 s4
    generalize w9.heap.size = bv at *
    obtain ⟨v0, v1, v2, v3, v4, v5, v6⟩ := (H10.out.at_ 0 rfl).seven
    obtain ⟨u0, u1, u2, u3, u4, u5, u6⟩ := (H10.out.at_ 1 rfl).seven
    go_wp2
    clear v0 v1 v2 v3 v4 v5 v6 u0 u1 u2 u3 u4 u5 u6
    go_loopw [16] (fun i wr => ∃ (k : Nat), k ≤ qn ∧ i = .int .i64 k ∧ Hid (Has w wr (fun _ => False) [⟨memT m 16 f tr2 210, G2⟩, ⟨pscT q R L, Gp⟩] [⟨bv, #[.slice A2 qn c2, .int .i64 y, .bool V1, .bool V2, .bool V3, .int .i64 lv, .int .u64 fr], 39⟩, ⟨bw, #[.slice A1 p c1, .int .i64 y, .bool V1, .bool V2, .bool V3, .int .i64 lv, .int .u64 fr], 39⟩, ⟨bt, #[.int .i64 l, .int .u64 t, .bool W, .bool U, .bool X], 41⟩] [⟨65, 3, .slice A2 qn c2, qn, stepCells QS⟩, ⟨65, 3, .slice A1 p c1, p, stepCells T⟩])) (fun i _ => (qn - intOf i).toNat)
    case atStart => exact ⟨0, by omega, rfl, H10⟩
    case round =>
      obtain ⟨k, hk, rfl, HL⟩ := hrel
      clear H10
      obtain ⟨v0, v1, v2, v3, v4, v5, v6⟩ := (HL.out.at_ 0 rfl).seven
      obtain ⟨u0, u1, u2, u3, u4, u5, u6⟩ := (HL.out.at_ 1 rfl).seven
      obtain ⟨s0, s1, s2, s3, s4⟩ := (HL.out.at_ 2 rfl).five
      by_cases hlt : k < qn
      · have e4 : (k9 : Int) + (k : Int) = ((k9 + k : Nat) : Int) := by omega
        have e5 : IntKind.i64.wrap ((k9 + k : Nat) : Int) = ((k9 + k : Nat) : Int) := by rw [IntKind.wrap_i64]; omega
        have hkp : k9 + k < p := by have := HK9.out; omega
        obtain ⟨ad, hAd, d0, d1, d2⟩ := steps_at (own_steps (HL.out.of_ 0 rfl) HQL.out) (k := k) (by rw [HQL.out]; exact hlt)
        obtain ⟨ae, hAe, g0, g1, g2⟩ := steps_at (own_steps (HL.out.of_ 1 rfl) HPL.out) (k := k9 + k) (by rw [HPL.out]; exact hkp)
        rw [HBH.out] at g0 g1 g2
        generalize stepAt QS k = st at *
        obtain ⟨sl, ss, sx⟩ := st
        have hq := neqStep sl ss sx
        subst hAd hAe
        generalize hkk : k9 + k = kk at *
        go_upto_region 18 with fail
        have HL2 := Lib.hid (HL.out.quiet (Kept.drew0 wr))
        clear HL
        go_region
        go_wp2
        go_roundw
        case rel => exact ⟨k + 1, by omega, by go_num, HL2⟩
        case measure => simp [intOf]; omega
      · obtain rfl : k = qn := by omega
        go_wp2
        go_ret
        exact ⟨rfl, HL.out.below0⟩
end Go.Proofs.YtiihhlmddmicjaaDoor
/- Layer 11: Fill of a nil psc; one. -/
namespace Go.Proofs.YtiihhlmddmicjaaDoor
set_option linter.unusedVariables false
set_option linter.unusedSimpArgs false
open Go.ChangeShapes Go.WideShapes Go.ChangeAt Go.RowKit Go.Joins

set_option maxRecDepth 100000 in
theorem fillP_nil (p a : Int) (w : World) :
    Calls Tryd.prog 22 #[.pointer none, .int .i64 p, .int .u64 a, pathV (.slice none 0 0) 0 false false false 0 0, placeV 0 0 false false false, .agg #[.int .i64 0, .int .i64 0, .int .i64 0]] w fun e w' => e = .returned (.tuple #[]) ∧ Below w.heap.size w w' := by
  have H0 := Lib.hid (((((Mine.start w).new (b := w.heap.size) rfl #[.slice none 0 0, .int .i64 0, .bool false, .bool false, .bool false, .int .i64 0, .int .u64 0] 39).new (b := w.heap.size + 1) (by simp) #[.int .i64 0, .int .u64 0, .bool false, .bool false, .bool false] 41).new (b := w.heap.size + 1 + 1) (by simp) #[.int .i64 0, .int .i64 0, .int .i64 0] 42).new (b := w.heap.size + 1 + 1 + 1) (by simp) #[.bool false, .bool false, .bool false] 37)
  go_enter Tryd.func22, Tryd.ntmps22
  go_upto_region 2 with fail
  generalize hw0 : (((w.alloc _).alloc _).alloc _).alloc _ = w0
  have H1 := Lib.hid (H0.out.world hw0)
  clear hw0 H0
  obtain ⟨a0, a1, a2, a3, a4, a5, a6⟩ := (H1.out.at_ 3 rfl).seven
  go_wp2_with fail
  refine wp_loop_rounds 1 ?_
  rw [rounds_succ]
  go_wp2_with fail
  go_end0
  exact ⟨rfl, H1.out.below⟩
theorem one_any (b : Bool) (w : World) :
    Calls Tryd.prog 23 #[.bool b] w fun e w' => e = .returned (.int .i64 (if b then 1 else 0)) ∧ w = w' := by
  cases b
  all_goals
    go_enter Tryd.func23, Tryd.ntmps23
    go_wp2
    go_ret
    exact ⟨rfl, rfl⟩

theorem len_le {L : Ls} {R : Nat} (h : ∀ k : Nat, k < 3 → (L k).length ≤ R) (l : Int) : lenF L l ≤ R := by
  unfold lenF
  split
  · rename_i hl
    have := h _ (kOf_lt hl.1 hl.2).1
    omega
  · omega
theorem len_ev {L : Ls} {R : Nat} (h : (L 0).length ≤ R) (a : Int) : lenF (evL L 4 a) 4 ≤ (R - 1 : Nat) ∧ 0 ≤ lenF (evL L 4 a) 4 := by
  have e : lenF (evL L 4 a) 4 = ((evK (L 0) a).length : Int) := rfl
  rw [e, evK_len]
  omega
theorem len_none (L : Ls) (l : Int) : lenF (noneL L) l = 0 := by
  unfold lenF
  split
  · rename_i hl
    have hk := (kOf_lt hl.1 hl.2).1
    unfold noneL
    rw [if_pos hk]; rfl
  · rfl
theorem least_top : leastF false false false true true true = true := rfl
end Go.Proofs.YtiihhlmddmicjaaDoor
