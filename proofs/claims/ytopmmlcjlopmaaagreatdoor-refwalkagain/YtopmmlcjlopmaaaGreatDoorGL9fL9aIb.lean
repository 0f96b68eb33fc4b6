/- Several texts of ours in one: L9f, L9a, Ib. -/
import Derived.Test.YtopmmlcjlopmaaaGreatDoorGL4cHrL9s
import Derived.Test.YtopmmlcjlopmaaaGreatDoorGHsHtKh
import Derived.Test.YtopmmlcjlopmaaaGreatDoorGVaVrFr
import Derived.Test.YtopmmlcjlopmaaaGreatDoorGRjIaEr
import Derived.StillTailTactics
/- The walk of RefwalkFaults. (Laid by tools/gen_l9.py.) -/
namespace Go.Proofs.YtopmmlcjlopmaaaGreatDoor
set_option linter.unusedVariables false
set_option linter.unusedSimpArgs false
open Go.ChangeShapes Go.WideShapes Go.ChangeAt Go.RowKit Go.Joins

set_option maxRecDepth 100000 in
set_option maxHeartbeats 3200000 in
theorem refwalkFaults_walk (A : Option Addr) (c : Nat) (ds : List (Int × Int × Int × Int)) (u : Usx) (a : Int) (w : World) (hs : Shifts w) (hg : ErrT w) (hl : ds.length ≤ maxLen) (hd : PutsIn w A ds) (hok : PutsOk ds) (hr : W64 u.root) (ha : W64 a) :
    Calls Tryz.prog 4 #[.slice A ds.length c, useV u, .int .u64 a] w fun e w' => e = .returned (.bool true) ∧ Below w.heap.size w w' := by
  have HS := Lib.hid hs
  have HE := Lib.hid hg
  have hz := size_shifts hs
  obtain ⟨f, hf⟩ : ∃ f, putSt ds (mostP ds) = f := ⟨_, rfl⟩
  have HB := Lib.hid (fun w1 (hb : Below w.heap.size w w1) => built_any w1 A c ds hl (puts_below hd hb) hok)
  rw [hf] at HB
  have H0 := Lib.hid ((Mine.start w).new (b := w.heap.size) rfl (useCells u) 29)
  clear hs hg hd hok hl hf
  go_enter Tryz.func4, Tryz.ntmps4
  go_upto_region 1 with fail
  generalize hw0 : w.alloc _ = w0
  have H1 := Lib.hid (H0.out.world hw0)
  clear hw0 H0
  go_upto_region 5 with (first | (go_at_call 7; refine (awake9_any _ (shifts_under HS.out H1.out.below hz) (errT_keep HE.out H1.out.below)).mono ?_; rintro e w1 ⟨rfl, hB1⟩; have H2 := Lib.hid (H1.out.quiet hB1); clear hB1 H1) | (go_at_call 8; ((with_reducible refine (HB.out _ H2.out.below).mono ?_)); rintro e w2 ⟨rfl, hM2, hB2⟩; have H3 := Lib.hid (Law.start H2.out hM2 hB2); clear hM2 hB2 H2 HB))
  obtain ⟨m, hm⟩ : ∃ m, w1.heap.size + 1 = m := ⟨_, rfl⟩
  obtain ⟨G, hG⟩ : ∃ G : Nat → Prop, (fun i => From w1.heap.size i ∧ i < w2.heap.size) = G := ⟨_, rfl⟩
  rw [hm, hG] at H3
  rw [hm]
  clear hm hG
  go_upto_region 6 with (first | (go_at_call 16; refine (copy_mem H3.out.wk.mem (by decide)).mono ?_; rintro e w3 ⟨rfl, hC3, hB3⟩; have H4 := Lib.hid (H3.out.two hC3 hB3); clear hC3 hB3 H3))
  obtain ⟨m0, hm⟩ : ∃ m0, w2.heap.size + 1 = m0 := ⟨_, rfl⟩
  obtain ⟨H, hH⟩ : ∃ H : Nat → Prop, (fun i => From w2.heap.size i ∧ i < w3.heap.size) = H := ⟨_, rfl⟩
  rw [hm, hH] at H4
  rw [hm]
  clear hm hH
  have HS4 := Lib.hid (shifts_under HS.out H4.out.below hz)
  obtain ⟨q0, q1, q2, q3, q4, q5, q6, q7⟩ := (H4.out.at_ 0 rfl).eight
  rcases canon_cases a with hc | hc
  · have CT := fun w' => trans_gp (w := w') (.pointer (some ⟨m, 0, none⟩)) u a ha hc
    have CR := fun w' => rcanon_any a w' ha
    rw [hc] at CR
    go_upto_region 7 with (first | (go_at_call 9; refine (CT _).mono ?_; rintro e w4 ⟨g, rfl, hN, hB4⟩; have H5 := Lib.hid (H4.out.quiet hB4); have HN := Lib.hid hN; clear hB4 H4 hN q0 q1 q2 q3 q4 q5 q6 q7))
    generalize hw5 : w4.alloc _ = w5
    have H6 := Lib.hid ((H5.out.new (b := w4.heap.size) rfl _ _).world hw5)
    have HN6 := Lib.hid (num_keep HN.out (show Kept w4 w5 by rw [← hw5]; exact below_alloc1 _ _))
    clear hw5 H5 HN
    go_upto_region 10 with (first | (go_at_call 18; refine (of_numIn 1 _ _ 5 _ (errT_keep HE.out H6.out.below) HN6.out).mono ?_; rintro e w6 ⟨rfl, hk6⟩; have H7 := Lib.hid (H6.out.quiet hk6); have HN7 := Lib.hid (num_keep HN6.out hk6); clear hk6 H6 HN6))
    generalize hw8 : w6.alloc _ = w8
    have H8 := Lib.hid ((H7.out.new (b := w6.heap.size) rfl _ _).world hw8)
    have HN8 := Lib.hid (num_keep HN7.out (show Kept w6 w8 by rw [← hw8]; exact below_alloc1 _ _))
    clear hw8 H7 HN7
    go_wp2_with (first | (go_at_call 19; refine (diff_mem H8.out.k.mem H8.out.m.mem (by decide) (by decide)).mono ?_; rintro e w9 ⟨Ad, cd, es, rfl, _, hI, hB9⟩; obtain rfl := hI.none; have H9 := Lib.hid (H8.out.quiet hB9); have HN9 := Lib.hid (num_keep HN8.out hB9); clear hI hB9 H8 HN8) | (go_at_call 17; refine (CR _).mono ?_; rintro e w' ⟨rfl, rfl⟩) | (go_at_call 20; refine (mtrace_any H9.out.m.mem (by decide)).mono ?_; rintro e w10 ⟨v', rfl, hO, hB10⟩; obtain ⟨A10, c10, rfl⟩ := own_len hO; have H10 := Lib.hid (H9.out.quiet hB10); have HN10 := Lib.hid (num_keep HN9.out hB10); clear hO hB10 H9 HN9) | (go_at_call 21; refine (kind_numIn 1 _ _ 5 _ (errT_keep HE.out H10.out.below) HN10.out).mono ?_; rintro e w11 ⟨rfl, hk11⟩; have H11 := Lib.hid (H10.out.quiet hk11); clear hk11 H10 HN10; obtain ⟨p0, p1, p2, p3, p4, p5, p6⟩ := (H11.out.at_ 1 rfl).seven))
    go_ret
    exact ⟨rfl, H11.out.below⟩
  · have CR := fun w' => rcanon_any a w' ha
    rw [hc] at CR
    obtain ⟨P, hP⟩ : ∃ P, walkZ 16 f a u.nxe 4 (tableF u.root) true true true = P := ⟨_, rfl⟩
    have HW := Lib.hid (walk_four f H4.out.m.mem.words a u.nxe (tableF u.root) true true true P hP)
    cases hm : jmay P u
    · have CT := trans_no H4.out.m.mem (by decide) (H4.out.m.no0 hz) HS4.out u a hr ha hc P hP hm
      obtain ⟨N, hN⟩ : ∃ N, P.steps.length = N := ⟨_, rfl⟩
      have HNN := Lib.hid hN
      obtain ⟨code, hcode⟩ : ∃ code, jcode P u = code := ⟨_, rfl⟩
      obtain ⟨T4, hT4⟩ : ∃ T4, [] ++ slotsP P.steps = T4 := ⟨_, rfl⟩
      rw [hcode, hT4] at CT
      obtain ⟨x1, hx1⟩ : ∃ x1, code.tmod 2 = x1 := ⟨_, rfl⟩
      obtain ⟨d8, hd8⟩ : ∃ d8, code.tdiv 8 = d8 := ⟨_, rfl⟩
      obtain ⟨x8, hx8⟩ : ∃ x8, d8.tmod 2 = x8 := ⟨_, rfl⟩
      obtain ⟨d2, hd2⟩ : ∃ d2, code.tdiv 2 = d2 := ⟨_, rfl⟩
      obtain ⟨x2, hx2⟩ : ∃ x2, d2.tmod 2 = x2 := ⟨_, rfl⟩
      have hcp := code_parts (P.why == 0 || P.why == 2) (u.k == 2) u.user (P.why == 2) (fetF u.k u.smep u.nxe)
      rw [show codeF (P.why == 0 || P.why == 2) (u.k == 2) u.user (P.why == 2) (fetF u.k u.smep u.nxe) = code from hcode, hd8, hd2, hx1, hx8, hx2] at hcp
      obtain ⟨p1', p8', p2', c0, c32⟩ := hcp
      have hq : (P.why == 0 || P.why == 2) = !(P.why == 1) := by rcases HW.out.1.kind with h | h | h <;> rw [h] <;> decide
      have E1 : (x1 == 0) = (P.why == 1) := by rw [p1', one_is0, hq, Bool.not_not]
      have E8 : (x8 == 1) = (P.why == 2) := by rw [p8', one_is1]
      have E2 : (x2 == 1) = (u.k == 2) := by rw [p2', one_is1]
      have b1 : 0 ≤ x1 ∧ x1 ≤ 1 := by rw [p1']; cases (P.why == 0 || P.why == 2) <;> decide
      have b8 : 0 ≤ x8 ∧ x8 ≤ 1 := by rw [p8']; cases (P.why == 2) <;> decide
      have b2 : 0 ≤ x2 ∧ x2 ≤ 1 := by rw [p2']; cases (u.k == 2) <;> decide
      have v1 : IntKind.i64.wrap x1 = x1 := i64_wrap (by omega) (by omega)
      have v8 : IntKind.i64.wrap x8 = x8 := i64_wrap (by omega) (by omega)
      have v2 : IntKind.i64.wrap x2 = x2 := i64_wrap (by omega) (by omega)
      have y8 : IntKind.i64.wrap d8 = d8 := by rw [← hd8]; exact i64_wrap (by rw [Int.tdiv_eq_ediv_of_nonneg c0]; omega) (by rw [Int.tdiv_eq_ediv_of_nonneg c0]; omega)
      have y2 : IntKind.i64.wrap d2 = d2 := by rw [← hd2]; exact i64_wrap (by rw [Int.tdiv_eq_ediv_of_nonneg c0]; omega) (by rw [Int.tdiv_eq_ediv_of_nonneg c0]; omega)
      clear hP hm hc p1' p8' p2' c0 c32 hq b1 b8 b2 hcode HW hT4 hN
      go_upto_region 7 with (first | (go_at_call 9; refine CT.mono ?_; rintro e w4 ⟨v, G4, g, rfl, hPg, hT⟩; obtain ⟨A4, c4, hv⟩ := hT.own.form; rw [HNN.out] at hv; subst hv; have H5 := Lib.hid (H4.out.stepGot hT.wk hT.own (Nat.le_refl _) hT.nv); have HP5 := Lib.hid hPg; clear hT H4 CT hPg q0 q1 q2 q3 q4 q5 q6 q7))
      generalize hw5 : w4.alloc _ = w5
      have H6 := Lib.hid ((H5.out.new (b := w4.heap.size) rfl _ _).world hw5)
      have HP6 := Lib.hid (page_keep HP5.out (show Kept w4 w5 by rw [← hw5]; exact below_alloc1 _ _))
      clear hw5 H5 HP5
      go_upto_region 10 with (first | (go_at_call 18; refine (of_pageIn 0 _ _ a code _ (errT_keep HE.out H6.out.below) HP6.out).mono ?_; rintro e w6 ⟨rfl, hk6⟩; have H7 := Lib.hid (H6.out.quiet hk6); clear hk6 H6 HP6))
      generalize hw8 : w6.alloc _ = w8
      have H8 := Lib.hid ((H7.out.new (b := w6.heap.size) rfl _ _).world hw8)
      clear hw8 H7
      go_upto_region 14 with (first | (go_at_call 19; refine (diff_mem H8.out.k.mem H8.out.m.mem (by decide) (by decide)).mono ?_; rintro e w9 ⟨Ad, cd, es, rfl, _, hI, hB9⟩; obtain rfl := hI.none; have H9 := Lib.hid (H8.out.quiet hB9); clear hI hB9 H8) | (go_at_call 17; refine (CR _).mono ?_; rintro e w' ⟨rfl, rfl⟩))
      obtain ⟨p0, p1, p2, p3, p4, p5, p6⟩ := (H9.out.at_ 1 rfl).seven
      obtain ⟨f0, f1⟩ := (H9.out.at_ 0 rfl).two
      obtain ⟨q0, q1, q2, q3, q4, q5, q6, q7⟩ := (H9.out.at_ 2 rfl).eight
      generalize P.why = y at *
      generalize u.k = k at *
      go_wp2
      go_ret
      exact ⟨rfl, H9.out.below⟩
    · have CT := trans_yes H4.out.m.mem (by decide) (H4.out.m.no0 hz) HS4.out u a hr ha hc P hP hm
      clear hP hm hc
      go_wp2_with (first | (go_at_call 9; refine CT.mono ?_; rintro e w4 ⟨v, G4, rfl, hT⟩; obtain ⟨A4, c4, rfl⟩ := hT.own.form; have H5 := Lib.hid (H4.out.step hT.wk); clear hT H4 CT) | (go_at_call 17; refine (CR _).mono ?_; rintro e w' ⟨rfl, rfl⟩))
      generalize hw5 : w4.alloc _ = w5
      have H6 := Lib.hid ((H5.out.new (b := w4.heap.size) rfl _ _).world hw5)
      go_ret
      exact ⟨rfl, H6.out.below⟩
end Go.Proofs.YtopmmlcjlopmaaaGreatDoor
/- The walk of RefwalkAgain. (Laid by tools/gen_l9.py.) -/
namespace Go.Proofs.YtopmmlcjlopmaaaGreatDoor
set_option linter.unusedVariables false
set_option linter.unusedSimpArgs false
open Go.ChangeShapes Go.WideShapes Go.ChangeAt Go.RowKit Go.Joins

set_option maxRecDepth 100000 in
set_option maxHeartbeats 3200000 in
theorem refwalkAgain_walk (A : Option Addr) (c : Nat) (ds : List (Int × Int × Int × Int)) (u : Usx) (a : Int) (w : World) (hs : Shifts w) (hg : ErrT w) (hl : ds.length ≤ maxLen) (hd : PutsIn w A ds) (hok : PutsOk ds) (hr : W64 u.root) (ha : W64 a) :
    Calls Tryz.prog 5 #[.slice A ds.length c, useV u, .int .u64 a] w fun e w' => e = .returned (.bool true) ∧ Below w.heap.size w w' := by
  have HS := Lib.hid hs
  have HE := Lib.hid hg
  have hz := size_shifts hs
  obtain ⟨f, hf⟩ : ∃ f, putSt ds (mostP ds) = f := ⟨_, rfl⟩
  have HB := Lib.hid (fun w1 (hb : Below w.heap.size w w1) => built_any w1 A c ds hl (puts_below hd hb) hok)
  rw [hf] at HB
  have H0 := Lib.hid ((Mine.start w).new (b := w.heap.size) rfl (useCells u) 29)
  clear hs hg hd hok hl hf
  go_enter Tryz.func5, Tryz.ntmps5
  go_upto_region 1 with fail
  generalize hw0 : w.alloc _ = w0
  have H1 := Lib.hid (H0.out.world hw0)
  clear hw0 H0
  go_upto_region 5 with (first | (go_at_call 7; refine (awake9_any _ (shifts_under HS.out H1.out.below hz) (errT_keep HE.out H1.out.below)).mono ?_; rintro e w1 ⟨rfl, hB1⟩; have H2 := Lib.hid (H1.out.quiet hB1); clear hB1 H1) | (go_at_call 8; ((with_reducible refine (HB.out _ H2.out.below).mono ?_)); rintro e w2 ⟨rfl, hM2, hB2⟩; have H3 := Lib.hid (Law.start H2.out hM2 hB2); clear hM2 hB2 H2 HB))
  obtain ⟨m, hm⟩ : ∃ m, w1.heap.size + 1 = m := ⟨_, rfl⟩
  obtain ⟨G, hG⟩ : ∃ G : Nat → Prop, (fun i => From w1.heap.size i ∧ i < w2.heap.size) = G := ⟨_, rfl⟩
  rw [hm, hG] at H3
  rw [hm]
  clear hm hG
  have HS3 := Lib.hid (shifts_under HS.out H3.out.below hz)
  obtain ⟨q0, q1, q2, q3, q4, q5, q6, q7⟩ := (H3.out.at_ 0 rfl).eight
  rcases canon_cases a with hc | hc
  · have CT := fun w' => trans_gp (w := w') (.pointer (some ⟨m, 0, none⟩)) u a ha hc
    go_wp2_with (first | (go_at_call 9; refine (CT _).mono ?_; rintro e w4 ⟨g, rfl, _, hB4⟩; have H5 := Lib.hid (H3.out.quiet hB4); clear hB4 H3))
    generalize hw5 : w4.alloc _ = w5
    have H6 := Lib.hid ((H5.out.new (b := w4.heap.size) rfl _ _).world hw5)
    go_ret
    exact ⟨rfl, H6.out.below⟩
  · obtain ⟨P, hP⟩ : ∃ P, walkZ 16 f a u.nxe 4 (tableF u.root) true true true = P := ⟨_, rfl⟩
    have HW := Lib.hid (walk_four f H3.out.wk.mem.words a u.nxe (tableF u.root) true true true P hP)
    have HWd := Lib.hid H3.out.wk.mem.words
    cases hm : jmay P u
    · have CT := trans_no H3.out.wk.mem (by decide) (H3.out.wk.no0 hz) HS3.out u a hr ha hc P hP hm
      clear hP hm hc
      go_wp2_with (first | (go_at_call 9; refine CT.mono ?_; rintro e w4 ⟨v, G4, g, rfl, _, hT⟩; obtain ⟨A4, c4, rfl⟩ := hT.own.form; have H5 := Lib.hid (H3.out.step hT.wk); clear hT H3 CT))
      generalize hw5 : w4.alloc _ = w5
      have H6 := Lib.hid ((H5.out.new (b := w4.heap.size) rfl _ _).world hw5)
      go_ret
      exact ⟨rfl, H6.out.below⟩
    · have CT := trans_yes H3.out.wk.mem (by decide) (H3.out.wk.no0 hz) HS3.out u a hr ha hc P hP hm
      have HPg : Hid (P.fr % 4096 = 0) := Lib.hid (by rw [← hP]; exact walk_page f a u.nxe 4 (by decide) _ _ _ _)
      have hj := jpa_facts HW.out.1 HPg.out (jmay_yes hm).1 ha.1
      obtain ⟨N, hN⟩ : ∃ N, P.steps.length = N := ⟨_, rfl⟩
      have HNN := Lib.hid hN
      have hN4 : N ≤ 4 := by rw [← hN]; exact HW.out.2.1
      obtain ⟨gm, hgm⟩ : ∃ gm, markN 16 f P.steps (u.k == 2) P.steps.length = gm := ⟨_, rfl⟩
      obtain ⟨Q, hQ⟩ : ∃ Q, walkZ 16 gm a u.nxe 4 (tableF u.root) true true true = Q := ⟨_, rfl⟩
      have hAg := again (d := u.k == 2) (Q := Q) HWd.out hP (by rw [hgm]; exact hQ)
      rw [hgm] at hAg CT
      obtain ⟨hAl, hMk⟩ := hAg
      have HAl := Lib.hid hAl
      have hmQ : jmay Q u = true := by rw [alp_jmay hAl]; exact hm
      have hjQ : jpa Q a = jpa P a := alp_jpa hAl a
      obtain ⟨T4, hT4⟩ : ∃ T4, [] ++ slotsP P.steps = T4 := ⟨_, rfl⟩
      rw [hT4] at CT
      have HGw : Hid (∀ j, W64 (gm j)) := Lib.hid (by rw [← hgm]; exact (mark_up HWd.out _).w)
      have HHc := Lib.hid hc
      have HHQ := Lib.hid hQ
      have HmQ := Lib.hid hmQ
      have HjQ := Lib.hid hjQ
      have HMk := Lib.hid hMk
      have HNQ : Hid (Q.steps.length = N) := Lib.hid (by rw [← hAl.len]; exact hN)
      obtain ⟨pa, hpa⟩ : ∃ pa, jpa P a = pa := ⟨_, rfl⟩
      rw [hpa] at hj CT HjQ
      obtain ⟨ρ, hρ⟩ : ∃ ρ, a % 4096 = ρ := ⟨_, rfl⟩
      rw [hρ] at hj
      have r1 : pa.tmod 4096 = ρ := by rw [Int.tmod_eq_emod_of_nonneg hj.2.1]; exact hj.1
      have r2 : a.tmod 4096 = ρ := by rw [Int.tmod_eq_emod_of_nonneg ha.1]; exact hρ
      have r3 : IntKind.u64.wrap ρ = ρ := wrap_in (by omega) (by omega)
      have HJ := Lib.hid (And.intro hj.2.2.1 hj.2.1)
      rw [hN] at CT
      clear hP hm hc hQ hmQ hjQ hMk hAl hT4 hgm hN hpa hj hρ HW HWd HPg
      go_upto_region 8 with (first | (go_at_call 9; refine CT.mono ?_; rintro e w4 ⟨v, G4, rfl, hT⟩; obtain ⟨A4, c4, hv⟩ := hT.own.form; rw [HNN.out] at hv; subst hv; have H5 := Lib.hid (H3.out.stepGot hT.wk hT.own hT.nv); clear hT H3 CT q0 q1 q2 q3 q4 q5 q6 q7))
      generalize hw5 : w4.alloc _ = w5
      have H6 := Lib.hid ((H5.out.new (b := w4.heap.size) rfl _ _).world hw5)
      clear hw5 H5
      go_upto_region 9 with (first | (go_at_call 16; refine (copy_mem H6.out.wk.mem (by omega)).mono ?_; rintro e w6 ⟨rfl, hC6, hB6⟩; have H7 := Lib.hid (H6.out.two hC6 hB6); clear hC6 hB6 H6))
      obtain ⟨m0, hm⟩ : ∃ m0, w5.heap.size + 1 = m0 := ⟨_, rfl⟩
      obtain ⟨H, hH⟩ : ∃ H : Nat → Prop, (fun i => From w5.heap.size i ∧ i < w6.heap.size) = H := ⟨_, rfl⟩
      rw [hm, hH] at H7
      rw [hm]
      clear hm hH
      have CT2 := trans_yes H7.out.m.mem (by omega) (H7.out.m.no0 hz) (shifts_under HS.out H7.out.below hz) u a hr ha HHc.out Q HHQ.out HmQ.out
      rw [HMk.out, HjQ.out, HNQ.out] at CT2
      obtain ⟨q0, q1, q2, q3, q4, q5, q6, q7⟩ := (H7.out.at_ 1 rfl).eight
      go_upto_region 10 with (first | (go_at_call 9; refine CT2.mono ?_; rintro e w8 ⟨v, G8, rfl, hT⟩; obtain ⟨A8, c8, hv⟩ := hT.own.form; rw [HNQ.out] at hv; subst hv; have H9 := Lib.hid (H7.out.stepGot hT.wk hT.own (Nat.le_refl _) hT.nv); clear hT H7 CT2 q0 q1 q2 q3 q4 q5 q6 q7))
      generalize hw10 : w8.alloc _ = w10
      have H10 := Lib.hid ((H9.out.new (b := w8.heap.size) rfl _ _).world hw10)
      clear hw10 H9
      obtain ⟨s0, s1, s2, s3, s4, s5, s6⟩ := (H10.out.at_ 0 rfl).seven
      obtain ⟨p0, p1, p2, p3, p4, p5, p6⟩ := (H10.out.at_ 1 rfl).seven
      have CS : ∀ w', StepsIn w' (.slice A4 N c4) P.steps → StepsIn w' (.slice A8 N c8) Q.steps → Calls Tryz.prog 22 #[pathV (.slice A4 N c4) P.why P.W P.U P.X P.lev P.fr, pathV (.slice A8 N c8) Q.why Q.W Q.U Q.X Q.lev Q.fr] w' fun e w'' => e = .returned (.bool true) ∧ Below w'.heap.size w' w'' := by
        intro w' h1 h2
        have h := same_alike (w := w') HAl.out A4 A8 c4 c8 (by rw [HNN.out]; unfold maxLen; omega)
        rw [HNN.out, HNQ.out] at h
        exact h h1 h2
      by_cases hv : P.lev = 1
      · have hv2 : (P.lev != 1) = false := by simp [hv]
        have hpl : pa < 65536 := HJ.out.1 hv
        clear hv
        go_wp2_with (first | (go_at_call 22; refine (CS _ (StepsOwn.into (base := 0) (H10.out.of_ 1 rfl)) (StepsOwn.into (base := 0) (H10.out.of_ 0 rfl))).mono ?_; rintro e w11 ⟨rfl, hB11⟩; have H11 := Lib.hid (H10.out.quiet hB11); clear hB11 H10) | (go_at_call 19; refine (diff_mem H11.out.k.mem H11.out.m.mem (by omega) (by omega)).mono ?_; rintro e w12 ⟨Ad, cd, es, rfl, _, hI, hB12⟩; obtain rfl := hI.none; have H12 := Lib.hid (H11.out.quiet hB12); clear hI hB12 H11; obtain ⟨t0, t1, t2, t3, t4, t5, t6⟩ := (H12.out.at_ 1 rfl).seven))
        go_ret
        exact ⟨rfl, H12.out.below⟩
      · have hv2 : (P.lev != 1) = true := by simpa using hv
        clear hv
        go_wp2_with (first | (go_at_call 22; refine (CS _ (StepsOwn.into (base := 0) (H10.out.of_ 1 rfl)) (StepsOwn.into (base := 0) (H10.out.of_ 0 rfl))).mono ?_; rintro e w11 ⟨rfl, hB11⟩; have H11 := Lib.hid (H10.out.quiet hB11); clear hB11 H10) | (go_at_call 19; refine (diff_mem H11.out.k.mem H11.out.m.mem (by omega) (by omega)).mono ?_; rintro e w12 ⟨Ad, cd, es, rfl, _, hI, hB12⟩; obtain rfl := hI.none; have H12 := Lib.hid (H11.out.quiet hB12); clear hI hB12 H11; obtain ⟨t0, t1, t2, t3, t4, t5, t6⟩ := (H12.out.at_ 1 rfl).seven))
        go_ret
        exact ⟨rfl, H12.out.below⟩
end Go.Proofs.YtopmmlcjlopmaaaGreatDoor
/- The document's Built and Mark. -/
namespace Go.Proofs.YtopmmlcjlopmaaaGreatDoor
set_option linter.unusedVariables false
set_option linter.unusedSimpArgs false
open Go.ChangeShapes Go.WideShapes Go.ChangeAt Go.RowKit Go.Joins

/-- Built, in its loop -/
structure Bd (w wr : World) (vs : Value) (f : Int → Int) (L : List (Int × Int)) : Prop where
  res : Blk wr w.heap.size (docCells 0 (.slice none 0 0) (.slice none 0 0)) 45
  box : Blk wr (w.heap.size + 1) (docCells 16 vs (.slice none 0 0)) 45
  doc : Doc wr 16 vs (.slice none 0 0) f [] L
  below : Below w.heap.size w wr
  new : ∀ i, vs.ownBlock = some i → w.heap.size ≤ i

section
variable {w wr w3 : World} {vs vs' : Value} {f f' : Int → Int} {L L' : List (Int × Int)}
theorem Bd.start (w : World) : Bd w ((w.alloc (.cells (docCells 0 (.slice none 0 0) (.slice none 0 0)) 45)).alloc (.cells (docCells 16 (.slice none 0 0) (.slice none 0 0)) 45)) (.slice none 0 0) (fun _ => 0) [] :=
  ⟨(Blk.new w _ _).alloc _, last_obj2 w _ _, Doc.start _ _, below2 w _ _, by simp [Value.ownBlock]⟩
theorem Bd.quiet (h : Bd w wr vs f L) (hb : Below wr.heap.size wr w3) : Bd w w3 vs f L :=
  ⟨h.res.below hb, h.box.below hb, h.doc.quiet hb, h.below.trans (hb.mono h.below.size), h.new⟩
theorem Bd.set (h : Bd w wr vs f L) (hd : Doc wr 16 vs' (.slice none 0 0) f' [] L') (hn : ∀ i, vs'.ownBlock = some i → w.heap.size ≤ i) : Bd w (((wr.setCell ⟨w.heap.size + 1, 0, none⟩ (.int .i64 16)).setCell ⟨w.heap.size + 1, 1, none⟩ vs').setCell ⟨w.heap.size + 1, 2, none⟩ (.slice none 0 0)) vs' f' L' :=
  ⟨h.res.turn (turn3 _ _ _ _ _) (by omega), h.box.set3 _ _ _, hd.box h.box (by decide) (by decide) (turn3 _ _ _ _ _), turn_below h.below (turn3 _ _ _ _ _) (by omega) h.below.size, hn⟩
end

set_option maxRecDepth 100000 in
set_option maxHeartbeats 1600000 in
theorem rbuilt_any (w : World) (A : Option Addr) (c : Nat) (ds : List (Int × Int × Int × Int)) (hl : ds.length ≤ maxLen) (hd : PutsIn w A ds) (hok : PutsOk ds) :
    Calls Tryz.prog 11 #[.slice A ds.length c] w fun e w' => ∃ vs L, e = .returned (.agg (docCells 16 vs (.slice none 0 0))) ∧ Doc w' 16 vs (.slice none 0 0) (putSt ds (mostP ds)) [] L ∧ L.length ≤ 100 ∧ (∀ i, vs.ownBlock = some i → w.heap.size ≤ i) ∧ Below w.heap.size w w' := by
  unfold maxLen at hl
  have H0 := Lib.hid (Bd.start w)
  go_enter Tryz.func11, Tryz.ntmps11
  go_wp2
  go_loopw [4] (fun i wr => ∃ (k : Nat) (vs : Value) (L : List (Int × Int)), k ≤ mostP ds ∧ i = .int .i64 k ∧ L.length ≤ k ∧ Hid (Bd w wr vs (putSt ds k) L)) (fun i _ => (100 - intOf i).toNat)
  case atStart => exact ⟨0, _, [], Nat.zero_le _, rfl, Nat.zero_le _, H0⟩
  case round =>
    obtain ⟨k, vs, L, hk, rfl, hL, HB⟩ := hrel
    clear H0
    have hm0 : mostP ds ≤ 100 := by unfold mostP; omega
    have hm1 : mostP ds ≤ ds.length := by unfold mostP; omega
    obtain ⟨A1, c1, _, _, rfl, _⟩ := HB.out.doc.form
    by_cases hlt : k < mostP ds
    · obtain ⟨ad, rfl, g0, g1, g2, g3⟩ := puts_below hd HB.out.below k (by omega)
      obtain ⟨⟨s0, s1⟩, ⟨f0, f1⟩, l0, l1⟩ := hok k (by omega)
      have hF : putSt ds (k + 1) = storeS 16 (putSt ds k) (atS (ds.getD k (0, 0, 0, 0)).1) (atX (ds.getD k (0, 0, 0, 0)).2.1 (ds.getD k (0, 0, 0, 0)).2.2.1 (ds.getD k (0, 0, 0, 0)).2.2.2) := rfl
      have g1' : wr.cell? ⟨(ad.add (k * 4)).block, (ad.add (k * 4)).off + 1, none⟩ = some (.int .u16 (ds.getD k (0, 0, 0, 0)).2.1) := g1
      have g2' : wr.cell? ⟨(ad.add (k * 4)).block, (ad.add (k * 4)).off + 2, none⟩ = some (.int .u8 (ds.getD k (0, 0, 0, 0)).2.2.1) := g2
      have g3' : wr.cell? ⟨(ad.add (k * 4)).block, (ad.add (k * 4)).off + 3, none⟩ = some (.int .u64 (ds.getD k (0, 0, 0, 0)).2.2.2) := g3
      have hks : k < ds.length := by omega
      have h100 : (k : Int) < 100 := by omega
      generalize (ds.getD k (0, 0, 0, 0)).1 = sl at *
      generalize (ds.getD k (0, 0, 0, 0)).2.1 = fr at *
      generalize (ds.getD k (0, 0, 0, 0)).2.2.1 = fl at *
      generalize (ds.getD k (0, 0, 0, 0)).2.2.2 = mo at *
      have HF := Lib.hid hF
      have CA := fun w' => at_any sl fr fl mo w' s0 s1 f0 f1 l0 l1
      have HSw := Lib.hid (atS_w sl)
      clear hF g1 g2 g3 hd hok s0 s1 f0 f1 l0 l1
      generalize atS sl = s at *
      generalize atX fr fl mo = x at *
      generalize putSt ds k = f at *
      go_upto_region 6 with (first | (go_at_call 25; refine (CA _).mono ?_; rintro e w2 ⟨rfl, hB2⟩; have HB2 := Lib.hid (HB.out.quiet hB2); clear hB2 HB g0 g1' g2' g3'))
      obtain ⟨p0, p1, p2⟩ := HB2.out.box.three
      have CS := rStore_any 16 _ _ L [] f s x w2 ⟨by decide, by decide⟩ HB2.out.doc.slots (by omega) HB2.out.doc.words HB2.out.doc.agree HSw.out
      go_upto_region 7 with (first | (go_at_call 36; refine CS.mono ?_; rintro e w3 ⟨vs', rfl, hS3, hN3, hB3⟩; have HN3 : Hid (∀ i, vs'.ownBlock = some i → w.heap.size ≤ i) := Lib.hid (fun i hi => by rcases hN3 with e | e; (rw [e] at hi; exact HB2.out.new i hi); exact Nat.le_trans HB2.out.below.size (e i hi)); have HD3 := Lib.hid (HB2.out.doc.store (own_below HB2.out.doc.words hB3) s x HSw.out hS3); have HB3 := Lib.hid (HB2.out.quiet hB3); obtain ⟨A3, c3, _, _, rfl, _⟩ := HD3.out.form; clear hS3 hB3 hN3 HB2 CS p0 p1 p2))
      generalize hw4 : w3.alloc _ = w4
      have HK4 : Hid (Below w3.heap.size w3 w4) := Lib.hid (by rw [← hw4]; exact below_alloc1 _ _)
      have HN4 : Hid (Blk w4 w3.heap.size (docCells 16 (.slice A3 (storeL 16 L s x).length c3) (.slice none 0 0)) 45) := Lib.hid (by rw [← hw4]; exact Blk.new _ _ _)
      have HD4 := Lib.hid (HD3.out.quiet HK4.out)
      have HB4 := Lib.hid (HB3.out.quiet HK4.out)
      have HB5 := Lib.hid (HB4.out.set HD4.out HN3.out)
      rw [← HF.out] at HB5
      have hLn := storeL_len 16 L s x
      clear hw4 HK4 HB3 HD3
      obtain ⟨p0, p1, p2⟩ := HN4.out.three
      obtain ⟨q0, q1, q2⟩ := HB4.out.box.three
      have r0 := HB4.out.box.fz 0; have r1 := HB4.out.box.fz 1; have r2 := HB4.out.box.fz 2
      go_wp2
      go_roundw
      case rel => exact ⟨k + 1, _, _, by omega, by go_num, by omega, HB5⟩
      case measure => simp [intOf]; omega
    · have e : k = mostP ds := by omega
      have HE : Hid (putSt ds k = putSt ds (mostP ds)) := Lib.hid (by rw [e])
      obtain ⟨p0, p1, p2⟩ := HB.out.box.three
      obtain ⟨q0, q1, q2⟩ := HB.out.res.three
      have r0 := HB.out.res.fz 0; have r1 := HB.out.res.fz 1; have r2 := HB.out.res.fz 2
      have fin : ∃ vs' L', Value.slice A1 L.length c1 = vs' ∧ Doc (((wr.setCell ⟨w.heap.size, 0, none⟩ (.int .i64 16)).setCell ⟨w.heap.size, 1, none⟩ (.slice A1 L.length c1)).setCell ⟨w.heap.size, 2, none⟩ (.slice none 0 0)) 16 vs' (.slice none 0 0) (putSt ds (mostP ds)) [] L' ∧ L'.length ≤ 100 ∧ (∀ i, vs'.ownBlock = some i → w.heap.size ≤ i) ∧ Below w.heap.size w (((wr.setCell ⟨w.heap.size, 0, none⟩ (.int .i64 16)).setCell ⟨w.heap.size, 1, none⟩ (.slice A1 L.length c1)).setCell ⟨w.heap.size, 2, none⟩ (.slice none 0 0)) :=
        ⟨_, L, rfl, by rw [← HE.out]; exact HB.out.doc.box HB.out.res (by decide) (by decide) (turn3 _ _ _ _ _), by omega, HB.out.new, turn_below HB.out.below (turn3 _ _ _ _ _) (by omega) HB.out.below.size⟩
      have HFin := Lib.hid fin
      by_cases h1 : k < ds.length
      · have h2 : k = 100 := by unfold mostP at e; omega
        clear hd hok hk hlt e fin HE hm0 hm1
        subst h2
        go_wp2
        obtain ⟨vs', L', rfl, f1, f2, f4, f3⟩ := HFin.out
        exact bodyPost_ret (results_cell_row rfl _ _ w.heap.size _ _ _ _ rfl (HB.out.res.set3 _ _ _) Tryz.underlying45 rfl rfl) rfl ⟨_, L', rfl, f1, f2, f4, f3⟩
      · have h2 : ds.length ≤ k := by omega
        clear hd hok hk hlt e fin HE hm0 hm1
        go_wp2
        obtain ⟨vs', L', rfl, f1, f2, f4, f3⟩ := HFin.out
        exact bodyPost_ret (results_cell_row rfl _ _ w.heap.size _ _ _ _ rfl (HB.out.res.set3 _ _ _) Tryz.underlying45 rfl rfl) rfl ⟨_, L', rfl, f1, f2, f4, f3⟩

/-- the document's Mark, in its loop -/
structure RMk (w wr : World) (M : Int) (vs vt : Value) (f : Int → Int) (tr : List Int) (L : List (Int × Int)) (v : Value) (P : Pth) : Prop where
  mbox : Blk wr w.heap.size (docCells M vs vt) 45
  pbox : Blk wr (w.heap.size + 1) (pathCells v P) 51
  res : Blk wr (w.heap.size + 2) (docCells 0 (.slice none 0 0) (.slice none 0 0)) 45
  doc : Doc wr M vs vt f tr L
  below : Below w.heap.size w wr

section
variable {w wr w3 : World} {M : Int} {vs vt vs' v : Value} {f f' : Int → Int} {tr : List Int} {L L' : List (Int × Int)} {P : Pth}
theorem RMk.start (h : Doc w M vs vt f tr L) (v : Value) (P : Pth) : RMk w (((w.alloc (.cells (docCells M vs vt) 45)).alloc (.cells (pathCells v P) 51)).alloc (.cells (docCells 0 (.slice none 0 0) (.slice none 0 0)) 45)) M vs vt f tr L v P := by
  have e1 : ∀ o, (w.alloc o).heap.size = w.heap.size + 1 := fun o => by simp
  have e2 : ∀ o o', ((w.alloc o).alloc o').heap.size = w.heap.size + 2 := fun o o' => by simp
  refine ⟨((Blk.new w _ _).alloc _).alloc _, ?_, ?_, h.quiet (below3 w _ _ _), below3 w _ _ _⟩
  · have := (Blk.new (w.alloc (.cells (docCells M vs vt) 45)) (pathCells v P) 51).alloc (.cells (docCells 0 (.slice none 0 0) (.slice none 0 0)) 45)
    rwa [e1] at this
  · have := Blk.new ((w.alloc (.cells (docCells M vs vt) 45)).alloc (.cells (pathCells v P) 51)) (docCells 0 (.slice none 0 0) (.slice none 0 0)) 45
    rwa [e2] at this
theorem RMk.quiet (h : RMk w wr M vs vt f tr L v P) (hb : Below wr.heap.size wr w3) : RMk w w3 M vs vt f tr L v P :=
  ⟨h.mbox.below hb, h.pbox.below hb, h.res.below hb, h.doc.quiet hb, h.below.trans (hb.mono h.below.size)⟩
theorem RMk.set (h : RMk w wr M vs vt f tr L v P) (hb : Below wr.heap.size wr w3) (hd : Doc w3 M vs' vt f' tr L') : RMk w (((w3.setCell ⟨w.heap.size, 0, none⟩ (.int .i64 M)).setCell ⟨w.heap.size, 1, none⟩ vs').setCell ⟨w.heap.size, 2, none⟩ vt) M vs' vt f' tr L' v P := by
  have h3 := h.quiet hb
  exact ⟨h3.mbox.set3 _ _ _, h3.pbox.turn (turn3 _ _ _ _ _) (by omega), h3.res.turn (turn3 _ _ _ _ _) (by omega), hd.box h3.mbox (by decide) (by decide) (turn3 _ _ _ _ _), turn_below h3.below (turn3 _ _ _ _ _) (by omega) h3.below.size⟩
end

theorem markN_words {M : Int} {f : Int → Int} {S : List (Int × Int × Int)} {full : Bool} (h : ∀ j, W64 (f j)) (k : Nat) : ∀ j, W64 (markN M f S full k j) := (mark_up h k).w

end Go.Proofs.YtopmmlcjlopmaaaGreatDoor
