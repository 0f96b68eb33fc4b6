/- Several texts of ours in one: Kh, L9f, Oq. -/
import Derived.Test.YtopmmlcjlopmaaaGreatDoorGKaHmHn
import Derived.Test.YtopmmlcjlopmaaaGreatDoorGL8sHsHt
import Derived.Test.YtopmmlcjlopmaaaGreatDoorGL4cHrL9s
import Derived.Test.YtopmmlcjlopmaaaGreatDoorGVaVrFr
import Derived.Test.YtopmmlcjlopmaaaGreatDoorGHfHgGc
import Derived.Deep.Slices
import Derived.Deep.Strs
import Derived.Deep.FieldsWide
/- Layer 9, plain mathematics: where a translation leads; that it goes again as it went; what a code tells. Nothing of the program. -/
namespace Go.Proofs.YtopmmlcjlopmaaaGreatDoor
set_option linter.unusedVariables false
set_option linter.unusedSimpArgs false

theorem code_parts (p s u r f : Bool) : (codeF p s u r f).tmod 2 = oneF p 1 ∧ ((codeF p s u r f).tdiv 8).tmod 2 = oneF r 1 ∧ ((codeF p s u r f).tdiv 2).tmod 2 = oneF s 1 ∧ 0 ≤ codeF p s u r f ∧ codeF p s u r f < 32 := by
  cases p <;> cases s <;> cases u <;> cases r <;> cases f <;> decide
theorem one_is0 (b : Bool) : (oneF b 1 == 0) = !b := by cases b <;> rfl
theorem one_is1 (b : Bool) : (oneF b 1 == 1) = b := by cases b <;> rfl
end Go.Proofs.YtopmmlcjlopmaaaGreatDoor
/- The walk of RefwalkFaults. (Laid by tools/gen_l9.py.) -/
namespace Go.Proofs.YtopmmlcjlopmaaaGreatDoor
set_option linter.unusedVariables false
set_option linter.unusedSimpArgs false
open Go.ChangeShapes Go.WideShapes Go.ChangeAt Go.RowKit Go.Joins

set_option maxRecDepth 100000 in
set_option maxHeartbeats 3200000 in
theorem refwalkFaults_walk (A : Option Addr) (c : Nat) (ds : List (Int × Int × Int × Int)) (u : Usx) (a : Int) (w : World) (hs : Shifts w) (hg : ErrT w) (hl : ds.length ≤ maxLen) (hd : PutsIn w A ds) (hok : PutsOk ds) (hr : W64 u.root) (ha : W64 a) :
    Calls Tryz.prog 4 #[.slice A ds.length c, useV u, .int .u64 a] w fun e w' => e = .returned (.bool true) ∧ Below w.heap.size w w' := by
  have HS := Lib.hid hs
  have HE := Lib.hid hg
  have hz := size_shifts hs
  obtain ⟨f, hf⟩ : ∃ f, putSt ds (mostP ds) = f := ⟨_, rfl⟩
  have HB := Lib.hid (fun w1 (hb : Below w.heap.size w w1) => built_any w1 A c ds hl (puts_below hd hb) hok)
  rw [hf] at HB
  have H0 := Lib.hid ((Mine.start w).new (b := w.heap.size) rfl (useCells u) 29)
  clear hs hg hd hok hl hf
  go_enter Tryz.func4, Tryz.ntmps4
  go_upto_region 1 with fail
  generalize hw0 : w.alloc _ = w0
  have H1 := Lib.hid (H0.out.world hw0)
  clear hw0 H0
  go_upto_region 5 with (first | (go_at_call 7; refine (awake9_any _ (shifts_under HS.out H1.out.below hz) (errT_keep HE.out H1.out.below)).mono ?_; rintro e w1 ⟨rfl, hB1⟩; have H2 := Lib.hid (H1.out.quiet hB1); clear hB1 H1) | (go_at_call 8; ((with_reducible refine (HB.out _ H2.out.below).mono ?_)); rintro e w2 ⟨rfl, hM2, hB2⟩; have H3 := Lib.hid (Law.start H2.out hM2 hB2); clear hM2 hB2 H2 HB))
  obtain ⟨m, hm⟩ : ∃ m, w1.heap.size + 1 = m := ⟨_, rfl⟩
  obtain ⟨G, hG⟩ : ∃ G : Nat → Prop, (fun i => From w1.heap.size i ∧ i < w2.heap.size) = G := ⟨_, rfl⟩
  rw [hm, hG] at H3
  rw [hm]
  clear hm hG
  go_upto_region 6 with (first | (go_at_call 16; refine (copy_mem H3.out.wk.mem (by decide)).mono ?_; rintro e w3 ⟨rfl, hC3, hB3⟩; have H4 := Lib.hid (H3.out.two hC3 hB3); clear hC3 hB3 H3))
  obtain ⟨m0, hm⟩ : ∃ m0, w2.heap.size + 1 = m0 := ⟨_, rfl⟩
  obtain ⟨H, hH⟩ : ∃ H : Nat → Prop, (fun i => From w2.heap.size i ∧ i < w3.heap.size) = H := ⟨_, rfl⟩
  rw [hm, hH] at H4
  rw [hm]
  clear hm hH
  have HS4 := Lib.hid (shifts_under HS.out H4.out.below hz)
  obtain ⟨q0, q1, q2, q3, q4, q5, q6, q7⟩ := (H4.out.at_ 0 rfl).eight
  rcases canon_cases a with hc | hc
  · have CT := fun w' => trans_gp (w := w') (.pointer (some ⟨m, 0, none⟩)) u a ha hc
    have CR := fun w' => rcanon_any a w' ha
    rw [hc] at CR
    go_upto_region 7 with (first | (go_at_call 9; refine (CT _).mono ?_; rintro e w4 ⟨g, rfl, hN, hB4⟩; have H5 := Lib.hid (H4.out.quiet hB4); have HN := Lib.hid hN; clear hB4 H4 hN q0 q1 q2 q3 q4 q5 q6 q7))
    generalize hw5 : w4.alloc _ = w5
    have H6 := Lib.hid ((H5.out.new (b := w4.heap.size) rfl _ _).world hw5)
    have HN6 := Lib.hid (num_keep HN.out (show Kept w4 w5 by rw [← hw5]; exact below_alloc1 _ _))
    clear hw5 H5 HN
    go_upto_region 10 with (first | (go_at_call 18; refine (of_numIn 1 _ _ 5 _ (errT_keep HE.out H6.out.below) HN6.out).mono ?_; rintro e w6 ⟨rfl, hk6⟩; have H7 := Lib.hid (H6.out.quiet hk6); have HN7 := Lib.hid (num_keep HN6.out hk6); clear hk6 H6 HN6))
    generalize hw8 : w6.alloc _ = w8
    have H8 := Lib.hid ((H7.out.new (b := w6.heap.size) rfl _ _).world hw8)
    have HN8 := Lib.hid (num_keep HN7.out (show Kept w6 w8 by rw [← hw8]; exact below_alloc1 _ _))
    clear hw8 H7 HN7
    go_wp2_with (first | (go_at_call 19; refine (diff_mem H8.out.k.mem H8.out.m.mem (by decide) (by decide)).mono ?_; rintro e w9 ⟨Ad, cd, es, rfl, _, hI, hB9⟩; obtain rfl := hI.none; have H9 := Lib.hid (H8.out.quiet hB9); have HN9 := Lib.hid (num_keep HN8.out hB9); clear hI hB9 H8 HN8) | (go_at_call 17; refine (CR _).mono ?_; rintro e w' ⟨rfl, rfl⟩) | (go_at_call 20; refine (mtrace_any H9.out.m.mem (by decide)).mono ?_; rintro e w10 ⟨v', rfl, hO, hB10⟩; obtain ⟨A10, c10, rfl⟩ := own_len hO; have H10 := Lib.hid (H9.out.quiet hB10); have HN10 := Lib.hid (num_keep HN9.out hB10); clear hO hB10 H9 HN9) | (go_at_call 21; refine (kind_numIn 1 _ _ 5 _ (errT_keep HE.out H10.out.below) HN10.out).mono ?_; rintro e w11 ⟨rfl, hk11⟩; have H11 := Lib.hid (H10.out.quiet hk11); clear hk11 H10 HN10; obtain ⟨p0, p1, p2, p3, p4, p5, p6⟩ := (H11.out.at_ 1 rfl).seven))
    go_ret
    exact ⟨rfl, H11.out.below⟩
  · have CR := fun w' => rcanon_any a w' ha
    rw [hc] at CR
    obtain ⟨P, hP⟩ : ∃ P, walkZ 16 f a u.nxe 4 (tableF u.root) true true true = P := ⟨_, rfl⟩
    have HW := Lib.hid (walk_four f H4.out.m.mem.words a u.nxe (tableF u.root) true true true P hP)
    cases hm : jmay P u
    · have CT := trans_no H4.out.m.mem (by decide) (H4.out.m.no0 hz) HS4.out u a hr ha hc P hP hm
      obtain ⟨N, hN⟩ : ∃ N, P.steps.length = N := ⟨_, rfl⟩
      have HNN := Lib.hid hN
      obtain ⟨code, hcode⟩ : ∃ code, jcode P u = code := ⟨_, rfl⟩
      obtain ⟨T4, hT4⟩ : ∃ T4, [] ++ slotsP P.steps = T4 := ⟨_, rfl⟩
      rw [hcode, hT4] at CT
      obtain ⟨x1, hx1⟩ : ∃ x1, code.tmod 2 = x1 := ⟨_, rfl⟩
      obtain ⟨d8, hd8⟩ : ∃ d8, code.tdiv 8 = d8 := ⟨_, rfl⟩
      obtain ⟨x8, hx8⟩ : ∃ x8, d8.tmod 2 = x8 := ⟨_, rfl⟩
      obtain ⟨d2, hd2⟩ : ∃ d2, code.tdiv 2 = d2 := ⟨_, rfl⟩
      obtain ⟨x2, hx2⟩ : ∃ x2, d2.tmod 2 = x2 := ⟨_, rfl⟩
      have hcp := code_parts (P.why == 0 || P.why == 2) (u.k == 2) u.user (P.why == 2) (fetF u.k u.smep u.nxe)
      rw [show codeF (P.why == 0 || P.why == 2) (u.k == 2) u.user (P.why == 2) (fetF u.k u.smep u.nxe) = code from hcode, hd8, hd2, hx1, hx8, hx2] at hcp
      obtain ⟨p1', p8', p2', c0, c32⟩ := hcp
      have hq : (P.why == 0 || P.why == 2) = !(P.why == 1) := by rcases HW.out.1.kind with h | h | h <;> rw [h] <;> decide
      have E1 : (x1 == 0) = (P.why == 1) := by rw [p1', one_is0, hq, Bool.not_not]
      have E8 : (x8 == 1) = (P.why == 2) := by rw [p8', one_is1]
      have E2 : (x2 == 1) = (u.k == 2) := by rw [p2', one_is1]
      have b1 : 0 ≤ x1 ∧ x1 ≤ 1 := by rw [p1']; cases (P.why == 0 || P.why == 2) <;> decide
      have b8 : 0 ≤ x8 ∧ x8 ≤ 1 := by rw [p8']; cases (P.why == 2) <;> decide
      have b2 : 0 ≤ x2 ∧ x2 ≤ 1 := by rw [p2']; cases (u.k == 2) <;> decide
      have v1 : IntKind.i64.wrap x1 = x1 := i64_wrap (by omega) (by omega)
      have v8 : IntKind.i64.wrap x8 = x8 := i64_wrap (by omega) (by omega)
      have v2 : IntKind.i64.wrap x2 = x2 := i64_wrap (by omega) (by omega)
      have y8 : IntKind.i64.wrap d8 = d8 := by rw [← hd8]; exact i64_wrap (by rw [Int.tdiv_eq_ediv_of_nonneg c0]; omega) (by rw [Int.tdiv_eq_ediv_of_nonneg c0]; omega)
      have y2 : IntKind.i64.wrap d2 = d2 := by rw [← hd2]; exact i64_wrap (by rw [Int.tdiv_eq_ediv_of_nonneg c0]; omega) (by rw [Int.tdiv_eq_ediv_of_nonneg c0]; omega)
      clear hP hm hc p1' p8' p2' c0 c32 hq b1 b8 b2 hcode HW hT4 hN
      go_upto_region 7 with (first | (go_at_call 9; refine CT.mono ?_; rintro e w4 ⟨v, G4, g, rfl, hPg, hT⟩; obtain ⟨A4, c4, hv⟩ := hT.own.form; rw [HNN.out] at hv; subst hv; have H5 := Lib.hid (H4.out.stepGot hT.wk hT.own (Nat.le_refl _) hT.nv); have HP5 := Lib.hid hPg; clear hT H4 CT hPg q0 q1 q2 q3 q4 q5 q6 q7))
      generalize hw5 : w4.alloc _ = w5
      have H6 := Lib.hid ((H5.out.new (b := w4.heap.size) rfl _ _).world hw5)
      have HP6 := Lib.hid (page_keep HP5.out (show Kept w4 w5 by rw [← hw5]; exact below_alloc1 _ _))
      clear hw5 H5 HP5
      go_upto_region 10 with (first | (go_at_call 18; refine (of_pageIn 0 _ _ a code _ (errT_keep HE.out H6.out.below) HP6.out).mono ?_; rintro e w6 ⟨rfl, hk6⟩; have H7 := Lib.hid (H6.out.quiet hk6); clear hk6 H6 HP6))
      generalize hw8 : w6.alloc _ = w8
      have H8 := Lib.hid ((H7.out.new (b := w6.heap.size) rfl _ _).world hw8)
      clear hw8 H7
      go_upto_region 14 with (first | (go_at_call 19; refine (diff_mem H8.out.k.mem H8.out.m.mem (by decide) (by decide)).mono ?_; rintro e w9 ⟨Ad, cd, es, rfl, _, hI, hB9⟩; obtain rfl := hI.none; have H9 := Lib.hid (H8.out.quiet hB9); clear hI hB9 H8) | (go_at_call 17; refine (CR _).mono ?_; rintro e w' ⟨rfl, rfl⟩))
      obtain ⟨p0, p1, p2, p3, p4, p5, p6⟩ := (H9.out.at_ 1 rfl).seven
      obtain ⟨f0, f1⟩ := (H9.out.at_ 0 rfl).two
      obtain ⟨q0, q1, q2, q3, q4, q5, q6, q7⟩ := (H9.out.at_ 2 rfl).eight
      generalize P.why = y at *
      generalize u.k = k at *
      go_wp2
      go_ret
      exact ⟨rfl, H9.out.below⟩
    · have CT := trans_yes H4.out.m.mem (by decide) (H4.out.m.no0 hz) HS4.out u a hr ha hc P hP hm
      clear hP hm hc
      go_wp2_with (first | (go_at_call 9; refine CT.mono ?_; rintro e w4 ⟨v, G4, rfl, hT⟩; obtain ⟨A4, c4, rfl⟩ := hT.own.form; have H5 := Lib.hid (H4.out.step hT.wk); clear hT H4 CT) | (go_at_call 17; refine (CR _).mono ?_; rintro e w' ⟨rfl, rfl⟩))
      generalize hw5 : w4.alloc _ = w5
      have H6 := Lib.hid ((H5.out.new (b := w4.heap.size) rfl _ _).world hw5)
      go_ret
      exact ⟨rfl, H6.out.below⟩
end Go.Proofs.YtopmmlcjlopmaaaGreatDoor
/- A slice of puts that came in. -/
namespace Go.Proofs.YtopmmlcjlopmaaaGreatDoor
set_option linter.unusedVariables false
set_option linter.unusedSimpArgs false
open Go.ChangeShapes Go.WideShapes Go.ChangeAt Go.RowKit Go.Joins

section
variable {H : Type} {enc : TypeId × Value → H} {w : World} {base : Nat} {spare : Nat → Bool} {held : Bool}

theorem list4q {α : Type} {zs : List α} (h : zs.length = 4) : ∃ t u v x, zs = [t, u, v, x] := by
  match zs, h with
  | [t, u, v, x], _ => exact ⟨t, u, v, x, rfl⟩

abbrev Put4 (y : Int × Int × Int × Int) : Prop := (0 ≤ y.1 ∧ y.1 < 65536) ∧ (0 ≤ y.2.1 ∧ y.2.1 < 65536) ∧ (0 ≤ y.2.2.1 ∧ y.2.2.1 < 256)

set_option maxRecDepth 100000 in
theorem open_put {n : Nat} {cs : List Value} {x : DataW H × List MemPlace} (h : DataW.trod enc Tryz.prog w base spare held n 76 cs = some x) :
    ∃ y : Int × Int × Int × Int, cs = [.int .u16 y.1, .int .u16 y.2.1, .int .u8 y.2.2.1, .int .u64 y.2.2.2] ∧ Put4 y := by
  obtain ⟨y0, y1, y2, y3, m, _, hl, h0, h1, h2, h3⟩ := Joins.trod_struct4 Tryz.underlying76 h
  rw [show Tryz.prog.cellsOf 76 = 4 by kernel_rfl] at hl
  have e1 : Tryz.prog.cellsOf 74 = 1 := by kernel_rfl
  have e2 : Tryz.prog.cellsOf 5 = 1 := by kernel_rfl
  have e3 : Tryz.prog.cellsOf 23 = 1 := by kernel_rfl
  obtain ⟨a, b, c, d, rfl⟩ := list4q hl
  simp [e1, e2, e3] at h0 h1 h2 h3
  obtain ⟨k, e4, _, w4⟩ := DataW.trod_int Tryz.underlying74 h0
  obtain ⟨p, e5, _, w5⟩ := DataW.trod_int Tryz.underlying74 h1
  obtain ⟨q, e6, _, w6⟩ := DataW.trod_int Tryz.underlying5 h2
  obtain ⟨r, e7, _, w7⟩ := DataW.trod_int Tryz.underlying23 h3
  simp at e4 e5 e6 e7
  subst e4 e5 e6 e7
  have b4 := bounds_u16 w4
  have b5 := bounds_u16 w5
  have b6 := bounds_u8 w6
  exact ⟨(k, p, q, r), rfl, ⟨b4.1, by show k < 65536; omega⟩, ⟨b5.1, by show p < 65536; omega⟩, ⟨b6.1, by show q < 256; omega⟩⟩

set_option maxRecDepth 100000 in
theorem open_puts {r : Reach} {b0 : Nat} {v : Value} {d : DataW H} {p : List MemPlace} (hv : Value.okWide Tryz.prog w r b0 22 v) (h : DataW.Trod enc Tryz.prog w base spare held 22 v d p) :
    ∃ A ds c, v = .slice A ds.length c ∧ ds.length ≤ maxLen ∧ PutsIn w A ds ∧ PutsOk ds := by
  obtain ⟨a, len, cap, rfl⟩ := okWide_slice Tryz.underlying22 hv
  obtain ⟨fuel, hf⟩ := h
  rcases Deep.open_slice Tryz.underlying22 hf with ⟨hcs, _⟩ | ⟨ad, len', cap', m, n, D, Pl, hcs, _, hl, hm, hmm, _, hel⟩
  · have e : Value.slice a len cap = .slice none 0 0 := by simpa [Value.cells] using hcs
    rw [e]
    exact ⟨none, [], 0, rfl, by simp [maxLen], fun k hk => absurd hk (by simp), fun k hk => absurd hk (by simp)⟩
  · have e : Value.slice a len cap = .slice (some ad) len' cap' := by simpa [Value.cells] using hcs
    rw [e]
    have e3 : Tryz.prog.cellsOf 76 = 4 := by kernel_rfl
    rw [e3] at hel
    have hle : len' ≤ m := by rw [hmm]; split <;> omega
    obtain ⟨g, hg⟩ := Deep.choose_lt (α := Int × Int × Int × Int) (n := len') (p := fun k y => (w.cell? (ad.add (k * 4)) = some (.int .u16 y.1) ∧ w.cell? ((ad.add (k * 4)).add 1) = some (.int .u16 y.2.1) ∧ w.cell? ((ad.add (k * 4)).add 2) = some (.int .u8 y.2.2.1) ∧ w.cell? ((ad.add (k * 4)).add 3) = some (.int .u64 y.2.2.2)) ∧ Put4 y) (fun k hk => by
      obtain ⟨cs', h1, h2⟩ := hel k (by omega)
      obtain ⟨y, rfl, w1⟩ := open_put h2
      obtain ⟨_, _, hc⟩ := World.cells?_some h1
      exact ⟨y, ⟨by simpa [Addr.add] using hc 0 (by omega), hc 1 (by omega), hc 2 (by omega), hc 3 (by omega)⟩, w1⟩)
    have hget : ∀ k, k < len' → ((List.range len').map g).getD k (0, 0, 0, 0) = g k := fun k hk => by simp [List.getD, hk]
    refine ⟨some ad, (List.range len').map g, cap', by simp, by simp; omega, fun k hk => ⟨ad, rfl, ?_⟩, fun k hk => ?_⟩
    · have hk' : k < len' := by simpa using hk
      rw [hget k hk']; exact (hg k hk').1
    · have hk' : k < len' := by simpa using hk
      rw [hget k hk']; exact (hg k hk').2
end

end Go.Proofs.YtopmmlcjlopmaaaGreatDoor
