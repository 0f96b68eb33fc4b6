/- The walk of WalkFlags. -/
import Derived.Test.YtlpjbmlkpmhdlaaDoorHt
import Derived.Deep.Cut
import Derived.Deep.CutBlock
namespace Go.Proofs.YtlpjbmlkpmhdlaaDoor
set_option linter.unusedVariables false
set_option linter.unusedSimpArgs false
open Go.ChangeShapes Go.WideShapes Go.ChangeAt Go.RowKit Go.Joins

/-- the turns that came in -/
def TurnsIn (w : World) (A : Option Addr) (ts : List (Int × Int)) : Prop := ∀ k, k < ts.length → ∃ ad, A = some ad ∧ w.cell? (ad.add (k * 2)) = some (.int .u16 (ts.getD k (0, 0)).1) ∧ w.cell? ((ad.add (k * 2)).add 1) = some (.int .u16 (ts.getD k (0, 0)).2)
def TurnsOk (ts : List (Int × Int)) : Prop := ∀ k, k < ts.length → (0 ≤ (ts.getD k (0, 0)).1 ∧ (ts.getD k (0, 0)).1 < 65536) ∧ (0 ≤ (ts.getD k (0, 0)).2 ∧ (ts.getD k (0, 0)).2 < 65536)
theorem turns_below {w w' : World} {A : Option Addr} {ts : List (Int × Int)} (h : TurnsIn w A ts) (hb : Below w.heap.size w w') : TurnsIn w' A ts := by
  intro k hk
  obtain ⟨ad, hA, c0, c1⟩ := h k hk
  exact ⟨ad, hA, (hb.cell (World.block_lt_of_cell? _ _ c0)).trans c0, (hb.cell (World.block_lt_of_cell? _ _ c1)).trans c1⟩

theorem par_start {w w1 w2 w3 : World} {f : Int → Int} {m mk : Nat} (hs : Shifts w) (hz : 0 < w.heap.size) (h1 : Below w.heap.size w w1) (hM2 : Mem w2 (From w1.heap.size) m 16 f [] 100) (hB2 : Below w1.heap.size w1 w2) (hM3 : Mem w3 (From w2.heap.size) mk 16 f [] 100) (hB3 : Below w2.heap.size w2 w3) :
    Par w w3 mk f [] 100 (fun i => From w2.heap.size i ∧ i < w3.heap.size) m f [] 100 (fun i => From w1.heap.size i ∧ i < w2.heap.size) := by
  have b2 := h1.trans (hB2.mono h1.size)
  have b3 := b2.trans (hB3.mono b2.size)
  exact ⟨Wk.made hM3 b3 b2.size, (Wk.made hM2 b2 h1.size).quiet hB3, fun i hi hh => by have h4 : w2.heap.size ≤ i := hi.1; have := hh.2; omega, shifts_under hs b3 hz⟩

theorem al_store {f h : Int → Int} {s t : Int} (hA : ∀ z, Al (f z) (h z)) (he : errS 16 s = 0) (t0 : 0 ≤ t) (t4 : t < 4) : ∀ z, Al (f z) (storeS 16 h s (bits .xor .u64 (h (s / 8)) (t * 32)) z) := by
  intro z
  unfold storeS updF
  rw [if_pos he]
  split
  · rename_i e
    subst e
    exact (hA _).trans (al_turn (hA _).wy t0 t4)
  · exact hA z

set_option maxRecDepth 100000 in
set_option maxHeartbeats 3200000 in
theorem walkFlags_walk (A : Option Addr) (c : Nat) (ds : List (Int × Int × Int × Int)) (n : Int) (At : Option Addr) (ct : Nat) (ts : List (Int × Int)) (w : World) (hs : Shifts w) (hl : ds.length ≤ maxLen) (hd : PutsIn w A ds) (hok : PutsOk ds) (n0 : 0 ≤ n) (n1 : n < 4294967296) (hlt : ts.length ≤ maxLen) (hdt : TurnsIn w At ts) (hokt : TurnsOk ts) :
    Calls Tryd.prog 5 #[.slice A ds.length c, .int .u32 n, .slice At ts.length ct] w fun e w' => e = .returned (.bool true) ∧ Below w.heap.size w w' := by
  have HS := Lib.hid hs
  have hz := size_shifts hs
  have HD := Lib.hid hd
  have HDT := Lib.hid hdt
  have HOT := Lib.hid hokt
  have HN := Lib.hid (⟨n0, n1⟩ : 0 ≤ n ∧ n < 4294967296)
  clear hs hd n0 n1 hdt hokt
  obtain ⟨f, hf⟩ : ∃ f, putSt ds (mostP ds) = f := ⟨_, rfl⟩
  have HB := Lib.hid (fun w1 hb => built_any w1 A c ds hl (puts_below HD.out hb) hok)
  rw [hf] at HB
  unfold maxLen at hlt
  clear hf hok HD hl
  go_enter Tryd.func5, Tryd.ntmps5
  go_upto_region 6 with (first | (go_at_call 9; refine (awake8_any _ HS.out).mono ?_; rintro e w1 ⟨rfl, hB1⟩; have HB1 := Lib.hid hB1; clear hB1) | (go_at_call 10; ((with_reducible refine (HB.out _ HB1.out).mono ?_)); rintro e w2 ⟨rfl, hM2, hB2⟩; have HM2 := Lib.hid hM2; have HQ2 := Lib.hid hB2; have HB2 := Lib.hid (HB1.out.trans (hB2.mono HB1.out.size)); have HB1' := Lib.hid HB1.out; clear hM2 hB2 HB1) | (go_at_call 10; ((with_reducible refine (HB.out _ HB2.out).mono ?_)); rintro e w3 ⟨rfl, hM3, hB3⟩; have HP := Lib.hid (par_start HS.out hz HB1'.out HM2.out HQ2.out hM3 hB3); clear hM3 hB3 HM2 HQ2 HB2 HB1'))
  have HA0 : Hid (∀ z, Al (f z) (f z)) := Lib.hid (fun z => Al.refl (HP.out.k.mem.words z))
  obtain ⟨m, hm⟩ : ∃ m, w1.heap.size + 1 = m := ⟨_, rfl⟩
  obtain ⟨mk, hmk⟩ : ∃ mk, w2.heap.size + 1 = mk := ⟨_, rfl⟩
  obtain ⟨G0, hG0⟩ : ∃ G0 : Nat → Prop, (fun i => From w2.heap.size i ∧ i < w3.heap.size) = G0 := ⟨_, rfl⟩
  obtain ⟨H, hH⟩ : ∃ H : Nat → Prop, (fun i => From w1.heap.size i ∧ i < w2.heap.size) = H := ⟨_, rfl⟩
  rw [hm, hmk, hG0, hH] at HP
  rw [hm, hmk]
  clear hm hmk hG0 hH HB HS
  go_upto_block 0 with fail
  go_cut [10, 11, 12, 13, 14] from 30 (fun _ _ _ _ _ wc => ∃ (h : Int → Int) (nk : Nat) (G : Nat → Prop), nk ≤ 200 ∧ Hid (Par w wc mk h [] nk G m f [] 100 H) ∧ Hid (∀ z, Al (f z) (h z)))
  case first =>
    go_wp2
    go_loopw [10] (fun i wr => ∃ (j : Nat) (h : Int → Int) (G : Nat → Prop), j ≤ min ts.length 50 ∧ i = .int .i64 j ∧ Hid (Par w wr mk h [] (100 + j) G m f [] 100 H) ∧ Hid (∀ z, Al (f z) (h z))) (fun i _ => (50 - intOf i).toNat)
    case atStart => exact ⟨0, f, G0, Nat.zero_le _, rfl, HP, HA0⟩
    case round =>
      obtain ⟨j, h, G, hj, rfl, HQ, HAl⟩ := hrel
      clear HP HA0
      by_cases hjl : j < min ts.length 50
      · have hks : j < ts.length := by omega
        have h50 : (j : Int) < 50 := by omega
        obtain ⟨ad, hAd, d0, d1⟩ := turns_below HDT.out HQ.out.k.belowW j hks
        subst hAd
        obtain ⟨⟨s0, s1⟩, t0, t1⟩ := HOT.out j hks
        have d1' : wr.cell? ⟨(ad.add (j * 2)).block, (ad.add (j * 2)).off + 1, none⟩ = some (.int .u16 (ts.getD j (0, 0)).2) := d1
        generalize (ts.getD j (0, 0)).1 = sl at *
        generalize (ts.getD j (0, 0)).2 = tv at *
        obtain ⟨q, hq⟩ : ∃ q, tv % 4 = q := ⟨_, rfl⟩
        have e1 : tv.tmod 4 = q := by rw [Int.tmod_eq_emod_of_nonneg t0, hq]
        have e2 : IntKind.u16.wrap q = q := wrap16 (by omega) (by omega)
        have e3 : IntKind.u64.wrap q = q := wrap_in (by omega) (by omega)
        have e4 : IntKind.u64.wrap (q * 32) = q * 32 := wrap_in (by omega) (by omega)
        have HAn := Lib.hid (al_store (t := q) HAl.out (atS_err sl) (by omega) (by omega))
        have CA := fun w' => at_any sl 0 0 0 w' s0 s1 (by decide) (by decide) (by decide) (by decide)
        have hep : errS 16 (atS sl) = 0 := atS_err sl
        have hpv : peekV 16 h (atS sl) = h (atS sl / 8) := if_pos hep
        have HEp := Lib.hid hep
        have HPv := Lib.hid hpv
        have HSw := Lib.hid (atS_w sl)
        clear d1 s0 s1 t0 t1 hq hep hpv HAl
        generalize atS sl = s at *
        go_upto_region 10 with (first | (go_at_call 23; refine (CA _).mono ?_; rintro e w4 ⟨rfl, hB4⟩; have HQ4 := Lib.hid (HQ.out.quiet hB4); have HDT4 := Lib.hid (fun p v (hc : wr.cell? p = some v) => (hB4.cell (World.block_lt_of_cell? _ _ hc)).trans hc); clear hB4))
        have g1 := HDT4.out _ _ d1'
        have g0 := HDT4.out _ _ d0
        have C1 := mpeek_any HQ4.out.k.mem s HSw.out
        rw [HEp.out, HPv.out] at C1
        have C2 := mstore_any HQ4.out.k.mem (by omega) s (bits .xor .u64 (h (s / 8)) (q * 32)) HSw.out (w64_bits _ _ _)
        rw [HEp.out] at C2
        clear d0 d1' HDT4 CA HQ
        generalize h (s / 8) = x at *
        go_wp2_with (first | (go_at_call 24; ((with_reducible refine C1.mono ?_)); rintro e w' ⟨rfl, rfl⟩) | (go_at_call 25; ((with_reducible refine C2.mono ?_)); rintro e w5 ⟨rfl, hM5, hT5⟩; have HQ5 := Lib.hid (HQ4.out.step hz (wk_store hM5 hT5)); clear hM5 hT5))
        go_roundw
        case rel => exact ⟨j + 1, _, _, by omega, by go_num, HQ5, HAn⟩
        case measure => simp [intOf]; omega
      · by_cases h1 : j < ts.length
        · have h2 : j = 50 := by omega
          clear hj hjl
          subst h2
          go_wp2
          go_meet
          case rel => exact ⟨h, _, G, by omega, HQ, HAl⟩
        · have h2 : ts.length ≤ j := by omega
          have h3 : j ≤ 50 := by omega
          clear hj hjl h1
          go_wp2
          go_meet
          case rel => exact ⟨h, _, G, by omega, HQ, HAl⟩
  case rest =>
    obtain ⟨wA, rfl⟩ : ∃ wA, wA = wc := ⟨_, rfl⟩
    obtain ⟨h, nk, G, hnk, HQ, HAl⟩ := hcut
    clear HP HA0 HDT HOT
    have hwf := Lib.hid HQ.out.m.mem.words
    have HPQ := Lib.hid (walk_alike HAl.out (nearF n) true 4 (by decide) (tableF 0) true true true)
    have HSn := Lib.hid (walk_snd h HQ.out.k.mem.words (nearF n) true 4 (by decide) (tableF 0) true true true)
    have HMr := Lib.hid (fun full L S => walk_alike (f := h) (h := markN 16 h S full L) (fun z => (mark_up HQ.out.k.mem.words L).al HQ.out.k.mem.words z) (nearF n) true 4 (by decide) (tableF 0) true true true)
    rw [show ((4 : Nat) : Int) = 4 from rfl] at HPQ HSn HMr
    obtain ⟨P, hP⟩ : ∃ P, walkZ 16 f (nearF n) true 4 (tableF 0) true true true = P := ⟨_, rfl⟩
    obtain ⟨Q, hQ⟩ : ∃ Q, walkZ 16 h (nearF n) true 4 (tableF 0) true true true = Q := ⟨_, rfl⟩
    rw [hP, hQ] at HPQ
    rw [hQ] at HSn HMr
    have HHP := Lib.hid hP
    have HHQ := Lib.hid hQ
    clear hP hQ
    go_upto_region 16 with (first | (go_at_call 26; refine (near_any _ _ HN.out.1 HN.out.2).mono ?_; rintro e w' ⟨rfl, rfl⟩) | (go_at_call 19; refine (top_any _ _ w0).mono ?_; rintro e w4 ⟨rfl, hB4⟩; have HQ4 := Lib.hid (HQ.out.quiet hB4).swap; clear hB4 HQ) | (go_at_call 12; refine (from_any HQ4.out.k.mem (by decide) (HQ4.out.k.no0 hz) HQ4.out.sh 4 (tableF 0) (nearF n) true true true true (w64_table _) (near_w n)).mono ?_; rw [HHP.out]; rintro e w5 ⟨v, H5, rfl, hW5, hS5, hn5, hsh5⟩; have HQ5 := Lib.hid (HQ4.out.step hz hW5); have HV5 : Hid (∀ i, v.ownBlock = some i → ¬ G i) := Lib.hid (fun i hi hg => by have := (HQ4.out.m.foot i hg).1; have := (hS5.lt hi).1; omega); obtain ⟨A5, c5, rfl⟩ := hS5.form; have HT5 := Lib.hid (Pat.new HQ5.out hS5 hn5 HV5.out); clear hW5 hS5 hn5 hsh5 HQ4 HV5))
    generalize hw6 : w5.alloc _ = w6
    have HQ6 := Lib.hid (HQ5.out.quiet (w3 := w6) (by rw [← hw6]; exact below_alloc1 _ _)).swap
    have HT6 : Hid (Pat w6 w5.heap.size (.slice A5 P.steps.length c5) P H5 G) := Lib.hid (by rw [← hw6]; exact HT5.out)
    clear hw6 HQ5 HT5
    obtain ⟨pb, hpb⟩ : ∃ pb, w5.heap.size = pb := ⟨_, rfl⟩
    rw [hpb] at HT6
    rw [hpb]
    clear hpb
    have hQL : Q.steps.length ≤ 4 := by have := HSn.out.len; omega
    have hPL : P.steps.length ≤ 4 := by rw [HPQ.out.len]; exact hQL
    go_upto_region 17 with (first | (go_at_call 19; refine (top_any _ _ w0).mono ?_; rintro e w7 ⟨rfl, hB7⟩; have HQ7 := Lib.hid (HQ6.out.quiet hB7); have HT7 := Lib.hid (HT6.out.quiet hB7).swap; clear hB7 HQ6 HT6) | (go_at_call 12; refine (from_any HQ7.out.k.mem (by omega) (HQ7.out.k.no0 hz) HQ7.out.sh 4 (tableF 0) (nearF n) true true true true (w64_table _) (near_w n)).mono ?_; rw [HHQ.out]; rintro e w8 ⟨v, G8, rfl, hW8, hS8, hn8, hsh8⟩; have HQ8 := Lib.hid (HQ7.out.step hz hW8); have HT8 := Lib.hid (HT7.out.step hW8); have HV8 : Hid (∀ i, v.ownBlock = some i → ¬ H5 i) := Lib.hid (fun i hi hg => by have := (HQ7.out.m.foot i hg).1; have := (hS8.lt hi).1; omega); obtain ⟨A8, c8, rfl⟩ := hS8.form; have HU8 := Lib.hid (Pat.new HQ8.out hS8 hn8 HV8.out); clear hW8 hS8 hn8 hsh8 HQ7 HV8 HT7))
    generalize hw9 : w8.alloc _ = w9
    have HK9 : Hid (Below w8.heap.size w8 w9) := Lib.hid (by rw [← hw9]; exact below_alloc1 _ _)
    have HQ9 := Lib.hid (HQ8.out.quiet HK9.out)
    have HT9 := Lib.hid (HT8.out.quiet HK9.out)
    have HU9 : Hid (Pat w9 w8.heap.size (.slice A8 Q.steps.length c8) Q G8 H5) := Lib.hid (by rw [← hw9]; exact HU8.out)
    clear hw9 HQ8 HT8 HU8 HK9
    obtain ⟨qb, hqb⟩ : ∃ qb, w8.heap.size = qb := ⟨_, rfl⟩
    rw [hqb] at HU9
    rw [hqb]
    clear hqb
    obtain ⟨q0, q1, q2, q3, q4, q5, q6⟩ := HU9.out.box.seven
    have HW9 : Hid (∀ k, k < Q.steps.length → W64 (stepAt Q.steps k).2.1) := Lib.hid (fun k hk => slot_w8 (HSn.out.at_ k hk).1 (HSn.out.at_ k hk).2.2)
    go_upto_region 18 with (first | (go_at_call 17; refine (mark_any HQ9.out.k.mem A8 Q.steps.length c8 Q.steps rfl HU9.out.own (fun i hi => (HU9.out.nv i hi).1) (by omega) (by omega) HW9.out Q.why Q.W Q.U Q.X Q.lev Q.fr true).mono ?_; rintro e wm ⟨rfl, Gm, hWm⟩; have HQm := Lib.hid (HQ9.out.step hz hWm); have HTm := Lib.hid (HT9.out.step hWm); have HUm := Lib.hid (HU9.out.step hWm); clear hWm HQ9 HT9 HU9 q0 q1 q2 q3 q4 q5 q6))
    have HMs := Lib.hid (HMr.out (true && decide (Q.why = 0)) Q.steps.length Q.steps)
    obtain ⟨g, hg⟩ : ∃ g, markN 16 h Q.steps (true && decide (Q.why = 0)) Q.steps.length = g := ⟨_, rfl⟩
    rw [hg] at HMs HQm
    obtain ⟨R, hR⟩ : ∃ R, walkZ 16 g (nearF n) true 4 (tableF 0) true true true = R := ⟨_, rfl⟩
    rw [hR] at HMs
    have HHR := Lib.hid hR
    clear hR hg HMr
    go_upto_region 19 with (first | (go_at_call 19; refine (top_any _ _ w0).mono ?_; rintro e wt ⟨rfl, hBt⟩; have HQt := Lib.hid (HQm.out.quiet hBt); have HTt := Lib.hid (HTm.out.quiet hBt); have HUt := Lib.hid (HUm.out.quiet hBt); clear hBt HQm HTm HUm) | (go_at_call 12; refine (from_any HQt.out.k.mem (by omega) (HQt.out.k.no0 hz) HQt.out.sh 4 (tableF 0) (nearF n) true true true true (w64_table _) (near_w n)).mono ?_; rw [HHR.out]; rintro e wv ⟨v, Gv, rfl, hWv, hSv, hnv, hshv⟩; have HQv := Lib.hid (HQt.out.step hz hWv); have HTv := Lib.hid (HTt.out.step hWv); have HUv := Lib.hid (HUt.out.step hWv); have HVv : Hid (∀ i, v.ownBlock = some i → ¬ H5 i) := Lib.hid (fun i hi hg => by have := (HQt.out.m.foot i hg).1; have := (hSv.lt hi).1; omega); obtain ⟨Av, cv, rfl⟩ := hSv.form; have HXv := Lib.hid (Pat.new HQv.out hSv hnv HVv.out); clear hWv hSv hnv hshv HQt HVv HTt HUt))
    generalize hwz : wv.alloc _ = wz
    have HKz : Hid (Below wv.heap.size wv wz) := Lib.hid (by rw [← hwz]; exact below_alloc1 _ _)
    have HBz := Lib.hid (HQv.out.quiet HKz.out).k.belowW
    have HTz := Lib.hid (HTv.out.quiet HKz.out)
    have HUz := Lib.hid (HUv.out.quiet HKz.out)
    have HXz : Hid (Pat wz wv.heap.size (.slice Av R.steps.length cv) R Gv H5) := Lib.hid (by rw [← hwz]; exact HXv.out)
    clear hwz HQv HTv HUv HXv HKz
    obtain ⟨rb, hrb⟩ : ∃ rb, wv.heap.size = rb := ⟨_, rfl⟩
    rw [hrb] at HXz
    rw [hrb]
    clear hrb
    obtain ⟨p0, p1, p2, p3, p4, p5, p6⟩ := HTz.out.box.seven
    obtain ⟨q0, q1, q2, q3, q4, q5, q6⟩ := HUz.out.box.seven
    obtain ⟨r0, r1, r2, r3, r4, r5, r6⟩ := HXz.out.box.seven
    go_wp2_with (first | (go_at_call 21; ((with_reducible refine (same_alike HPQ.out _ _ _ _ (by unfold maxLen; omega) HTz.out.own.into HUz.out.own.into).mono ?_)); rintro e wy ⟨rfl, hBy⟩; have HUy := Lib.hid (HUz.out.quiet hBy); have HXy := Lib.hid (HXz.out.quiet hBy); have HBy := Lib.hid (HBz.out.trans (hBy.mono HBz.out.size)); clear hBy p0 p1 p2 p3 p4 p5 p6 q0 q1 q2 q3 q4 q5 q6 r0 r1 r2 r3 r4 r5 r6 HTz HUz HXz; obtain ⟨q0, q1, q2, q3, q4, q5, q6⟩ := HUy.out.box.seven; obtain ⟨r0, r1, r2, r3, r4, r5, r6⟩ := HXy.out.box.seven) | (go_at_call 21; ((with_reducible refine (same_alike HMs.out _ _ _ _ (by unfold maxLen; omega) HUy.out.own.into HXy.out.own.into).mono ?_)); rintro e wx ⟨rfl, hBx⟩; have HBx := Lib.hid (HBy.out.trans (hBx.mono HBy.out.size)); clear hBx))
    go_ret
    exact ⟨rfl, HBx.out⟩
end Go.Proofs.YtlpjbmlkpmhdlaaDoor
