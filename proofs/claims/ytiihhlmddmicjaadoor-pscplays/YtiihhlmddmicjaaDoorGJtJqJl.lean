/- Several texts of ours in one: Jt, Jq, Jl. -/
import Derived.Test.YtiihhlmddmicjaaDoorGJrHvJs
import Derived.Test.YtiihhlmddmicjaaDoorGJiJhJk
import Derived.Test.YtiihhlmddmicjaaDoorGCqCrJp
import Derived.Test.YtiihhlmddmicjaaDoorGJfL8sHp
/- Layer 11: do, a deed of both sides. (Laid by tools/gen_jt.py.) -/
namespace Go.Proofs.YtiihhlmddmicjaaDoor
set_option linter.unusedVariables false
set_option linter.unusedSimpArgs false
open Go.ChangeShapes Go.WideShapes Go.ChangeAt Go.RowKit Go.Joins

/-- what a deed does to the lines -/
def doL (R : Nat) (L : Ls) (kd p lv a : Int) (T : List Stp) (W U X : Bool) (k0 k1 k2 : Int) : Ls :=
  if kd = 1 then fillK R p a (pkF k0 k1 k2) T W U X L else if kd = 2 then dropL L p a else if kd = 3 then ofL L p else if kd = 4 then noneL L else if kd = 5 then evL L lv k0 else L

abbrev rowP (v : Value) (M : List Pr) : RowD := ⟨141, 9, v, M.length, pcs M⟩

theorem Blk.c19 {w : World} {b : Nat} {t : TypeId} {x0 x1 x2 x3 x4 x5 x6 x7 x8 x9 x10 x11 x12 x13 x14 x15 x16 x17 x18 : Value} (h : Blk w b #[x0, x1, x2, x3, x4, x5, x6, x7, x8, x9, x10, x11, x12, x13, x14, x15, x16, x17, x18] t) :
    w.cell? ⟨b, 0, none⟩ = some x0 ∧ w.cell? ⟨b, 1, none⟩ = some x1 ∧ w.cell? ⟨b, 2, none⟩ = some x2 ∧ w.cell? ⟨b, 3, none⟩ = some x3 ∧ w.cell? ⟨b, 4, none⟩ = some x4 ∧ w.cell? ⟨b, 5, none⟩ = some x5 ∧ w.cell? ⟨b, 6, none⟩ = some x6 ∧ w.cell? ⟨b, 7, none⟩ = some x7 ∧ w.cell? ⟨b, 8, none⟩ = some x8 ∧ w.cell? ⟨b, 9, none⟩ = some x9 ∧ w.cell? ⟨b, 10, none⟩ = some x10 ∧ w.cell? ⟨b, 11, none⟩ = some x11 ∧ w.cell? ⟨b, 12, none⟩ = some x12 ∧ w.cell? ⟨b, 13, none⟩ = some x13 ∧ w.cell? ⟨b, 14, none⟩ = some x14 ∧ w.cell? ⟨b, 15, none⟩ = some x15 ∧ w.cell? ⟨b, 16, none⟩ = some x16 ∧ w.cell? ⟨b, 17, none⟩ = some x17 ∧ w.cell? ⟨b, 18, none⟩ = some x18 :=
  ⟨h.cell 0 rfl, h.cell 1 rfl, h.cell 2 rfl, h.cell 3 rfl, h.cell 4 rfl, h.cell 5 rfl, h.cell 6 rfl, h.cell 7 rfl, h.cell 8 rfl, h.cell 9 rfl, h.cell 10 rfl, h.cell 11 rfl, h.cell 12 rfl, h.cell 13 rfl, h.cell 14 rfl, h.cell 15 rfl, h.cell 16 rfl, h.cell 17 rfl, h.cell 18 rfl⟩

section
variable {w wr w3 : World} {F : Nat → Prop} {os : List ObjT} {bs : List BoxD} {v0 v1 v2 u0 u1 u2 : Value} {L L' : Ls}
theorem Has.off3 {v u : Value} {M N : List Pr} {rs : List RowD} (h : Has w wr F os bs rs) (k : Nat) (hk : rs[k]? = some (rowP v N)) (hn : PairsNew wr w3 v u M) : ∀ i, u.ownBlock = some i → ¬ ∃ o ∈ os, o.G i := fun i hi hg => by
  rcases hn.2 with e | e
  · rw [e] at hi; exact h.off k hk i hi hg
  · obtain ⟨o, ho, hg⟩ := hg
    have h1 := ((h.obj o ho).2.2 i hg).1
    have h2 := e i hi
    omega
/-- the document's call has answered -/
theorem Has.docs (h : Has w wr F os bs [rowP v0 (L 0), rowP v1 (L 1), rowP v2 (L 2)]) (hb : Below wr.heap.size wr w3) (hn : NewX wr w3 v0 v1 v2 u0 u1 u2 L') : Has w w3 F os bs [rowP u0 (L' 0), rowP u1 (L' 1), rowP u2 (L' 2)] := by
  have hq := h.quiet hb
  refine ⟨hq.obj, hq.apart, ⟨hq.hold.box, fun r hr => ?_, hq.hold.once, hq.hold.lt⟩, hq.low, hq.turn⟩
  simp at hr
  rcases hr with rfl | rfl | rfl
  · exact ⟨hn.a.1, h.off3 0 rfl hn.a⟩
  · exact ⟨hn.b.1, h.off3 1 rfl hn.b⟩
  · exact ⟨hn.c.1, h.off3 2 rfl hn.c⟩
theorem Has.doc (h : Has w wr F os bs [rowP v0 (L 0), rowP v1 (L 1), rowP v2 (L 2)]) : DocX wr v0 v1 v2 L := ⟨h.of_ 0 rfl, h.of_ 1 rfl, h.of_ 2 rfl⟩
end

set_option maxRecDepth 100000 in
set_option maxHeartbeats 6400000 in
theorem do11_drop {w : World} {F : Nat → Prop} {q R : Nat} {L : Ls} (h : pscT q R L w F) (hR : R ≤ 64) (hs : Shifts w) (h0 : ¬ F 0) (v0 v1 v2 : Value) (hx : DocX w v0 v1 v2 L) (hv0 : ∀ i, v0.ownBlock = some i → ¬ F i) (hv1 : ∀ i, v1.ownBlock = some i → ¬ F i) (hv2 : ∀ i, v2.ownBlock = some i → ¬ F i)
    (kd p lv a : Int) (hp : I64 p) (ha : W64 a) (A : Option Addr) (n c : Nat) (T : List Stp) (why : Int) (W1 U1 X1 : Bool) (lw fr : Int) (hn : T.length = n) (hsz : n * 24 ≤ 140737488355328) (hS : StepsIn w (.slice A n c) T) (hA : ∀ ad, A = some ad → 0 < n → ¬ F ad.block) (hw : ∀ k, k < T.length → W64 (stepAt T k).2.2)
    (lev t : Int) (W U X : Bool) (k0 k1 k2 : Int) (hk0 : I64 k0) (hk1 : I64 k1) (hk2 : I64 k2) :
    Calls Tryd.prog 12 #[.pointer (some ⟨q, 0, none⟩), xV v0 v1 v2 R, .agg #[.int .i64 2, .int .i64 p, .int .i64 lv, .int .u64 a, .slice A n c, .int .i64 why, .bool W1, .bool U1, .bool X1, .int .i64 lw, .int .u64 fr, .int .i64 lev, .int .u64 t, .bool W, .bool U, .bool X, .int .i64 k0, .int .i64 k1, .int .i64 k2]] w fun e w' =>
      ∃ u0 u1 u2, e = .returned (xV u0 u1 u2 R) ∧ ∃ G, Has w w' F [⟨pscT q R (dropL L p a), G⟩] [] [rowP u0 ((dropL L p a) 0), rowP u1 ((dropL L p a) 1), rowP u2 ((dropL L p a) 2)] := by
  obtain ⟨B0, m0, d0, rfl⟩ := hx.a.slice
  obtain ⟨B1, m1, d1, rfl⟩ := hx.b.slice
  obtain ⟨B2, m2, d2, rfl⟩ := hx.c.slice
  have HS := Lib.hid hs
  have HF := Lib.hid h0
  have HPP := Lib.hid hp
  have HAA := Lib.hid ha
  have HN := Lib.hid hn
  have HSZ := Lib.hid hsz
  have HST := Lib.hid hS
  have HOF := Lib.hid hA
  have HWD := Lib.hid hw
  have HK0 := Lib.hid hk0
  have HK1 := Lib.hid hk1
  have HK2 := Lib.hid hk2
  have HR := Lib.hid hR
  have HLE : Hid (∀ k : Nat, k < 3 → (L k).length ≤ R) := Lib.hid fun k hk => (h.len hk).1
  have HLE64 : Hid (∀ k : Nat, k < 3 → (L k).length ≤ 64) := Lib.hid fun k hk => Nat.le_trans (h.len hk).1 hR
  have H0 := Lib.hid ((((((Has.start (firm_psc q R L) h).got hx.c (fun i hi ⟨o, ho, hg⟩ => by obtain rfl := List.mem_singleton.1 ho; exact hv2 i hi hg.1)).got hx.b (fun i hi ⟨o, ho, hg⟩ => by obtain rfl := List.mem_singleton.1 ho; exact hv1 i hi hg.1)).got hx.a (fun i hi ⟨o, ho, hg⟩ => by obtain rfl := List.mem_singleton.1 ho; exact hv0 i hi hg.1)).new (b := w.heap.size) rfl #[(.slice B0 m0 d0), .int .i64 (R : Int), (.slice B1 m1 d1), .int .i64 (R : Int), (.slice B2 m2 d2), .int .i64 (R : Int)] 31).new (b := w.heap.size + 1) (by simp) #[.int .i64 2, .int .i64 p, .int .i64 lv, .int .u64 a, .slice A n c, .int .i64 why, .bool W1, .bool U1, .bool X1, .int .i64 lw, .int .u64 fr, .int .i64 lev, .int .u64 t, .bool W, .bool U, .bool X, .int .i64 k0, .int .i64 k1, .int .i64 k2] 44 |>.new (b := w.heap.size + 1 + 1) (by simp) xZero 31)
  clear h hR hs h0 hx hv0 hv1 hv2 hp ha hn hsz hS hA hw hk0 hk1 hk2
  go_enter Tryd.func12, Tryd.ntmps12
  go_upto_region 1 with fail
  generalize hw1 : ((w.alloc _).alloc _).alloc _ = w1
  have H1 := Lib.hid (H0.out.world hw1)
  clear hw1 H0
  obtain ⟨b, hb⟩ : ∃ b, w.heap.size = b := ⟨_, rfl⟩
  rw [hb] at H1 ⊢
  clear hb
  obtain ⟨e0, e1, e2, e3, e4, e5, e6, e7, e8, e9, e10, e11, e12, e13, e14, e15, e16, e17, e18⟩ := (H1.out.at_ 1 rfl).c19
  go_upto_region 7 with (go_at_call 24; refine (dropPageP_any (H1.out.the 0 rfl) (H1.out.shifts HS.out HF.out) (H1.out.no0 HS.out HF.out 0 rfl) p a HAA.out).mono ?_; rintro e w2 ⟨rfl, hP, hT⟩; have H2 := Lib.hid (H1.out.did 0 rfl (firm_psc _ _ _) hP hT); clear hP hT H1; clear e0 e1 e2 e3 e4 e5 e6 e7 e8 e9 e10 e11 e12 e13 e14 e15 e16 e17 e18)
  obtain ⟨e0, e1, e2, e3, e4, e5, e6, e7, e8, e9, e10, e11, e12, e13, e14, e15, e16, e17, e18⟩ := (H2.out.at_ 1 rfl).c19
  obtain ⟨a0, a1, a2, a3, a4, a5⟩ := (H2.out.at_ 2 rfl).c6
  go_wp2_with (go_at_call 34; refine (rdropX_any _ _ _ _ L R H2.out.doc HLE64.out p a HAA.out).mono ?_; rintro e w3 ⟨u0, u1, u2, rfl, hX, hb⟩; obtain ⟨A0, n0, c0, rfl⟩ := hX.a.1.slice; obtain ⟨A1, n1, c1, rfl⟩ := hX.b.1.slice; obtain ⟨A2, n2, c2, rfl⟩ := hX.c.1.slice; have H3 := Lib.hid (H2.out.docs hb hX); clear hb hX H2; clear a0 a1 a2 a3 a4 a5; clear e0 e1 e2 e3 e4 e5 e6 e7 e8 e9 e10 e11 e12 e13 e14 e15 e16 e17 e18; obtain ⟨r0, r1, r2, r3, r4, r5⟩ := (H3.out.at_ 0 rfl).c6; have g0 := (H3.out.at_ 0 rfl).fz 0; have g1 := (H3.out.at_ 0 rfl).fz 1; have g2 := (H3.out.at_ 0 rfl).fz 2; have g3 := (H3.out.at_ 0 rfl).fz 3; have g4 := (H3.out.at_ 0 rfl).fz 4; have g5 := (H3.out.at_ 0 rfl).fz 5)
  have HZ := (H3.out.put 0 rfl (turnB6 w3 (b + 1 + 1) (.slice A0 n0 c0) (.int .i64 (R : Int)) (.slice A1 n1 c1) (.int .i64 (R : Int)) (.slice A2 n2 c2) (.int .i64 (R : Int))) (setB6 (H3.out.at_ 0 rfl) (.slice A0 n0 c0) (.int .i64 (R : Int)) (.slice A1 n1 c1) (.int .i64 (R : Int)) (.slice A2 n2 c2) (.int .i64 (R : Int)))).pick [] [0, 1, 2]
  exact bodyPost_ret (results_cell_row rfl _ _ (b + 1 + 1) _ _ _ _ rfl (setB6 (H3.out.at_ 0 rfl) (.slice A0 n0 c0) (.int .i64 (R : Int)) (.slice A1 n1 c1) (.int .i64 (R : Int)) (.slice A2 n2 c2) (.int .i64 (R : Int))) Tryd.underlying31 rfl rfl) rfl ⟨_, _, _, rfl, _, HZ⟩

set_option maxRecDepth 100000 in
set_option maxHeartbeats 6400000 in
theorem do11_of {w : World} {F : Nat → Prop} {q R : Nat} {L : Ls} (h : pscT q R L w F) (hR : R ≤ 64) (hs : Shifts w) (h0 : ¬ F 0) (v0 v1 v2 : Value) (hx : DocX w v0 v1 v2 L) (hv0 : ∀ i, v0.ownBlock = some i → ¬ F i) (hv1 : ∀ i, v1.ownBlock = some i → ¬ F i) (hv2 : ∀ i, v2.ownBlock = some i → ¬ F i)
    (kd p lv a : Int) (hp : I64 p) (ha : W64 a) (A : Option Addr) (n c : Nat) (T : List Stp) (why : Int) (W1 U1 X1 : Bool) (lw fr : Int) (hn : T.length = n) (hsz : n * 24 ≤ 140737488355328) (hS : StepsIn w (.slice A n c) T) (hA : ∀ ad, A = some ad → 0 < n → ¬ F ad.block) (hw : ∀ k, k < T.length → W64 (stepAt T k).2.2)
    (lev t : Int) (W U X : Bool) (k0 k1 k2 : Int) (hk0 : I64 k0) (hk1 : I64 k1) (hk2 : I64 k2) :
    Calls Tryd.prog 12 #[.pointer (some ⟨q, 0, none⟩), xV v0 v1 v2 R, .agg #[.int .i64 3, .int .i64 p, .int .i64 lv, .int .u64 a, .slice A n c, .int .i64 why, .bool W1, .bool U1, .bool X1, .int .i64 lw, .int .u64 fr, .int .i64 lev, .int .u64 t, .bool W, .bool U, .bool X, .int .i64 k0, .int .i64 k1, .int .i64 k2]] w fun e w' =>
      ∃ u0 u1 u2, e = .returned (xV u0 u1 u2 R) ∧ ∃ G, Has w w' F [⟨pscT q R (ofL L p), G⟩] [] [rowP u0 ((ofL L p) 0), rowP u1 ((ofL L p) 1), rowP u2 ((ofL L p) 2)] := by
  obtain ⟨B0, m0, d0, rfl⟩ := hx.a.slice
  obtain ⟨B1, m1, d1, rfl⟩ := hx.b.slice
  obtain ⟨B2, m2, d2, rfl⟩ := hx.c.slice
  have HS := Lib.hid hs
  have HF := Lib.hid h0
  have HPP := Lib.hid hp
  have HAA := Lib.hid ha
  have HN := Lib.hid hn
  have HSZ := Lib.hid hsz
  have HST := Lib.hid hS
  have HOF := Lib.hid hA
  have HWD := Lib.hid hw
  have HK0 := Lib.hid hk0
  have HK1 := Lib.hid hk1
  have HK2 := Lib.hid hk2
  have HR := Lib.hid hR
  have HLE : Hid (∀ k : Nat, k < 3 → (L k).length ≤ R) := Lib.hid fun k hk => (h.len hk).1
  have HLE64 : Hid (∀ k : Nat, k < 3 → (L k).length ≤ 64) := Lib.hid fun k hk => Nat.le_trans (h.len hk).1 hR
  have H0 := Lib.hid ((((((Has.start (firm_psc q R L) h).got hx.c (fun i hi ⟨o, ho, hg⟩ => by obtain rfl := List.mem_singleton.1 ho; exact hv2 i hi hg.1)).got hx.b (fun i hi ⟨o, ho, hg⟩ => by obtain rfl := List.mem_singleton.1 ho; exact hv1 i hi hg.1)).got hx.a (fun i hi ⟨o, ho, hg⟩ => by obtain rfl := List.mem_singleton.1 ho; exact hv0 i hi hg.1)).new (b := w.heap.size) rfl #[(.slice B0 m0 d0), .int .i64 (R : Int), (.slice B1 m1 d1), .int .i64 (R : Int), (.slice B2 m2 d2), .int .i64 (R : Int)] 31).new (b := w.heap.size + 1) (by simp) #[.int .i64 3, .int .i64 p, .int .i64 lv, .int .u64 a, .slice A n c, .int .i64 why, .bool W1, .bool U1, .bool X1, .int .i64 lw, .int .u64 fr, .int .i64 lev, .int .u64 t, .bool W, .bool U, .bool X, .int .i64 k0, .int .i64 k1, .int .i64 k2] 44 |>.new (b := w.heap.size + 1 + 1) (by simp) xZero 31)
  clear h hR hs h0 hx hv0 hv1 hv2 hp ha hn hsz hS hA hw hk0 hk1 hk2
  go_enter Tryd.func12, Tryd.ntmps12
  go_upto_region 1 with fail
  generalize hw1 : ((w.alloc _).alloc _).alloc _ = w1
  have H1 := Lib.hid (H0.out.world hw1)
  clear hw1 H0
  obtain ⟨b, hb⟩ : ∃ b, w.heap.size = b := ⟨_, rfl⟩
  rw [hb] at H1 ⊢
  clear hb
  obtain ⟨e0, e1, e2, e3, e4, e5, e6, e7, e8, e9, e10, e11, e12, e13, e14, e15, e16, e17, e18⟩ := (H1.out.at_ 1 rfl).c19
  go_upto_region 10 with (go_at_call 25; refine (dropOfP_any (H1.out.the 0 rfl) p).mono ?_; rintro e w2 ⟨rfl, hP, hT⟩; have H2 := Lib.hid (H1.out.did 0 rfl (firm_psc _ _ _) hP hT); clear hP hT H1; clear e0 e1 e2 e3 e4 e5 e6 e7 e8 e9 e10 e11 e12 e13 e14 e15 e16 e17 e18)
  obtain ⟨e0, e1, e2, e3, e4, e5, e6, e7, e8, e9, e10, e11, e12, e13, e14, e15, e16, e17, e18⟩ := (H2.out.at_ 1 rfl).c19
  obtain ⟨a0, a1, a2, a3, a4, a5⟩ := (H2.out.at_ 2 rfl).c6
  go_wp2_with (go_at_call 35; refine (rdropOfX_any _ _ _ _ L R H2.out.doc HLE64.out p).mono ?_; rintro e w3 ⟨u0, u1, u2, rfl, hX, hb⟩; obtain ⟨A0, n0, c0, rfl⟩ := hX.a.1.slice; obtain ⟨A1, n1, c1, rfl⟩ := hX.b.1.slice; obtain ⟨A2, n2, c2, rfl⟩ := hX.c.1.slice; have H3 := Lib.hid (H2.out.docs hb hX); clear hb hX H2; clear a0 a1 a2 a3 a4 a5; clear e0 e1 e2 e3 e4 e5 e6 e7 e8 e9 e10 e11 e12 e13 e14 e15 e16 e17 e18; obtain ⟨r0, r1, r2, r3, r4, r5⟩ := (H3.out.at_ 0 rfl).c6; have g0 := (H3.out.at_ 0 rfl).fz 0; have g1 := (H3.out.at_ 0 rfl).fz 1; have g2 := (H3.out.at_ 0 rfl).fz 2; have g3 := (H3.out.at_ 0 rfl).fz 3; have g4 := (H3.out.at_ 0 rfl).fz 4; have g5 := (H3.out.at_ 0 rfl).fz 5)
  have HZ := (H3.out.put 0 rfl (turnB6 w3 (b + 1 + 1) (.slice A0 n0 c0) (.int .i64 (R : Int)) (.slice A1 n1 c1) (.int .i64 (R : Int)) (.slice A2 n2 c2) (.int .i64 (R : Int))) (setB6 (H3.out.at_ 0 rfl) (.slice A0 n0 c0) (.int .i64 (R : Int)) (.slice A1 n1 c1) (.int .i64 (R : Int)) (.slice A2 n2 c2) (.int .i64 (R : Int)))).pick [] [0, 1, 2]
  exact bodyPost_ret (results_cell_row rfl _ _ (b + 1 + 1) _ _ _ _ rfl (setB6 (H3.out.at_ 0 rfl) (.slice A0 n0 c0) (.int .i64 (R : Int)) (.slice A1 n1 c1) (.int .i64 (R : Int)) (.slice A2 n2 c2) (.int .i64 (R : Int))) Tryd.underlying31 rfl rfl) rfl ⟨_, _, _, rfl, _, HZ⟩

set_option maxRecDepth 100000 in
set_option maxHeartbeats 6400000 in
theorem do11_clear {w : World} {F : Nat → Prop} {q R : Nat} {L : Ls} (h : pscT q R L w F) (hR : R ≤ 64) (hs : Shifts w) (h0 : ¬ F 0) (v0 v1 v2 : Value) (hx : DocX w v0 v1 v2 L) (hv0 : ∀ i, v0.ownBlock = some i → ¬ F i) (hv1 : ∀ i, v1.ownBlock = some i → ¬ F i) (hv2 : ∀ i, v2.ownBlock = some i → ¬ F i)
    (kd p lv a : Int) (hp : I64 p) (ha : W64 a) (A : Option Addr) (n c : Nat) (T : List Stp) (why : Int) (W1 U1 X1 : Bool) (lw fr : Int) (hn : T.length = n) (hsz : n * 24 ≤ 140737488355328) (hS : StepsIn w (.slice A n c) T) (hA : ∀ ad, A = some ad → 0 < n → ¬ F ad.block) (hw : ∀ k, k < T.length → W64 (stepAt T k).2.2)
    (lev t : Int) (W U X : Bool) (k0 k1 k2 : Int) (hk0 : I64 k0) (hk1 : I64 k1) (hk2 : I64 k2) :
    Calls Tryd.prog 12 #[.pointer (some ⟨q, 0, none⟩), xV v0 v1 v2 R, .agg #[.int .i64 4, .int .i64 p, .int .i64 lv, .int .u64 a, .slice A n c, .int .i64 why, .bool W1, .bool U1, .bool X1, .int .i64 lw, .int .u64 fr, .int .i64 lev, .int .u64 t, .bool W, .bool U, .bool X, .int .i64 k0, .int .i64 k1, .int .i64 k2]] w fun e w' =>
      ∃ u0 u1 u2, e = .returned (xV u0 u1 u2 R) ∧ ∃ G, Has w w' F [⟨pscT q R (noneL L), G⟩] [] [rowP u0 ((noneL L) 0), rowP u1 ((noneL L) 1), rowP u2 ((noneL L) 2)] := by
  obtain ⟨B0, m0, d0, rfl⟩ := hx.a.slice
  obtain ⟨B1, m1, d1, rfl⟩ := hx.b.slice
  obtain ⟨B2, m2, d2, rfl⟩ := hx.c.slice
  have HS := Lib.hid hs
  have HF := Lib.hid h0
  have HPP := Lib.hid hp
  have HAA := Lib.hid ha
  have HN := Lib.hid hn
  have HSZ := Lib.hid hsz
  have HST := Lib.hid hS
  have HOF := Lib.hid hA
  have HWD := Lib.hid hw
  have HK0 := Lib.hid hk0
  have HK1 := Lib.hid hk1
  have HK2 := Lib.hid hk2
  have HR := Lib.hid hR
  have HLE : Hid (∀ k : Nat, k < 3 → (L k).length ≤ R) := Lib.hid fun k hk => (h.len hk).1
  have HLE64 : Hid (∀ k : Nat, k < 3 → (L k).length ≤ 64) := Lib.hid fun k hk => Nat.le_trans (h.len hk).1 hR
  have H0 := Lib.hid ((((((Has.start (firm_psc q R L) h).got hx.c (fun i hi ⟨o, ho, hg⟩ => by obtain rfl := List.mem_singleton.1 ho; exact hv2 i hi hg.1)).got hx.b (fun i hi ⟨o, ho, hg⟩ => by obtain rfl := List.mem_singleton.1 ho; exact hv1 i hi hg.1)).got hx.a (fun i hi ⟨o, ho, hg⟩ => by obtain rfl := List.mem_singleton.1 ho; exact hv0 i hi hg.1)).new (b := w.heap.size) rfl #[(.slice B0 m0 d0), .int .i64 (R : Int), (.slice B1 m1 d1), .int .i64 (R : Int), (.slice B2 m2 d2), .int .i64 (R : Int)] 31).new (b := w.heap.size + 1) (by simp) #[.int .i64 4, .int .i64 p, .int .i64 lv, .int .u64 a, .slice A n c, .int .i64 why, .bool W1, .bool U1, .bool X1, .int .i64 lw, .int .u64 fr, .int .i64 lev, .int .u64 t, .bool W, .bool U, .bool X, .int .i64 k0, .int .i64 k1, .int .i64 k2] 44 |>.new (b := w.heap.size + 1 + 1) (by simp) xZero 31)
  clear h hR hs h0 hx hv0 hv1 hv2 hp ha hn hsz hS hA hw hk0 hk1 hk2
  go_enter Tryd.func12, Tryd.ntmps12
  go_upto_region 1 with fail
  generalize hw1 : ((w.alloc _).alloc _).alloc _ = w1
  have H1 := Lib.hid (H0.out.world hw1)
  clear hw1 H0
  obtain ⟨b, hb⟩ : ∃ b, w.heap.size = b := ⟨_, rfl⟩
  rw [hb] at H1 ⊢
  clear hb
  obtain ⟨e0, e1, e2, e3, e4, e5, e6, e7, e8, e9, e10, e11, e12, e13, e14, e15, e16, e17, e18⟩ := (H1.out.at_ 1 rfl).c19
  go_upto_region 13 with (go_at_call 27; refine (clearP_any (H1.out.the 0 rfl)).mono ?_; rintro e w2 ⟨rfl, hP, hT⟩; have H2 := Lib.hid (H1.out.did 0 rfl (firm_psc _ _ _) hP hT); clear hP hT H1; clear e0 e1 e2 e3 e4 e5 e6 e7 e8 e9 e10 e11 e12 e13 e14 e15 e16 e17 e18)
  obtain ⟨e0, e1, e2, e3, e4, e5, e6, e7, e8, e9, e10, e11, e12, e13, e14, e15, e16, e17, e18⟩ := (H2.out.at_ 1 rfl).c19
  obtain ⟨a0, a1, a2, a3, a4, a5⟩ := (H2.out.at_ 2 rfl).c6
  go_wp2_with (go_at_call 36; refine (rclearX_any _ _ _ _ L R H2.out.doc HLE64.out).mono ?_; rintro e w3 ⟨u0, u1, u2, rfl, hX, hb⟩; obtain ⟨A0, n0, c0, rfl⟩ := hX.a.1.slice; obtain ⟨A1, n1, c1, rfl⟩ := hX.b.1.slice; obtain ⟨A2, n2, c2, rfl⟩ := hX.c.1.slice; have H3 := Lib.hid (H2.out.docs hb hX); clear hb hX H2; clear a0 a1 a2 a3 a4 a5; clear e0 e1 e2 e3 e4 e5 e6 e7 e8 e9 e10 e11 e12 e13 e14 e15 e16 e17 e18; obtain ⟨r0, r1, r2, r3, r4, r5⟩ := (H3.out.at_ 0 rfl).c6; have g0 := (H3.out.at_ 0 rfl).fz 0; have g1 := (H3.out.at_ 0 rfl).fz 1; have g2 := (H3.out.at_ 0 rfl).fz 2; have g3 := (H3.out.at_ 0 rfl).fz 3; have g4 := (H3.out.at_ 0 rfl).fz 4; have g5 := (H3.out.at_ 0 rfl).fz 5)
  have HZ := (H3.out.put 0 rfl (turnB6 w3 (b + 1 + 1) (.slice A0 n0 c0) (.int .i64 (R : Int)) (.slice A1 n1 c1) (.int .i64 (R : Int)) (.slice A2 n2 c2) (.int .i64 (R : Int))) (setB6 (H3.out.at_ 0 rfl) (.slice A0 n0 c0) (.int .i64 (R : Int)) (.slice A1 n1 c1) (.int .i64 (R : Int)) (.slice A2 n2 c2) (.int .i64 (R : Int)))).pick [] [0, 1, 2]
  exact bodyPost_ret (results_cell_row rfl _ _ (b + 1 + 1) _ _ _ _ rfl (setB6 (H3.out.at_ 0 rfl) (.slice A0 n0 c0) (.int .i64 (R : Int)) (.slice A1 n1 c1) (.int .i64 (R : Int)) (.slice A2 n2 c2) (.int .i64 (R : Int))) Tryd.underlying31 rfl rfl) rfl ⟨_, _, _, rfl, _, HZ⟩

set_option maxRecDepth 100000 in
set_option maxHeartbeats 6400000 in
theorem do11_evict {w : World} {F : Nat → Prop} {q R : Nat} {L : Ls} (h : pscT q R L w F) (hR : R ≤ 64) (hs : Shifts w) (h0 : ¬ F 0) (v0 v1 v2 : Value) (hx : DocX w v0 v1 v2 L) (hv0 : ∀ i, v0.ownBlock = some i → ¬ F i) (hv1 : ∀ i, v1.ownBlock = some i → ¬ F i) (hv2 : ∀ i, v2.ownBlock = some i → ¬ F i)
    (kd p lv a : Int) (hp : I64 p) (ha : W64 a) (A : Option Addr) (n c : Nat) (T : List Stp) (why : Int) (W1 U1 X1 : Bool) (lw fr : Int) (hn : T.length = n) (hsz : n * 24 ≤ 140737488355328) (hS : StepsIn w (.slice A n c) T) (hA : ∀ ad, A = some ad → 0 < n → ¬ F ad.block) (hw : ∀ k, k < T.length → W64 (stepAt T k).2.2)
    (lev t : Int) (W U X : Bool) (k0 k1 k2 : Int) (hk0 : I64 k0) (hk1 : I64 k1) (hk2 : I64 k2) :
    Calls Tryd.prog 12 #[.pointer (some ⟨q, 0, none⟩), xV v0 v1 v2 R, .agg #[.int .i64 5, .int .i64 p, .int .i64 lv, .int .u64 a, .slice A n c, .int .i64 why, .bool W1, .bool U1, .bool X1, .int .i64 lw, .int .u64 fr, .int .i64 lev, .int .u64 t, .bool W, .bool U, .bool X, .int .i64 k0, .int .i64 k1, .int .i64 k2]] w fun e w' =>
      ∃ u0 u1 u2, e = .returned (xV u0 u1 u2 R) ∧ ∃ G, Has w w' F [⟨pscT q R (evL L lv k0), G⟩] [] [rowP u0 ((evL L lv k0) 0), rowP u1 ((evL L lv k0) 1), rowP u2 ((evL L lv k0) 2)] := by
  obtain ⟨B0, m0, d0, rfl⟩ := hx.a.slice
  obtain ⟨B1, m1, d1, rfl⟩ := hx.b.slice
  obtain ⟨B2, m2, d2, rfl⟩ := hx.c.slice
  have HS := Lib.hid hs
  have HF := Lib.hid h0
  have HPP := Lib.hid hp
  have HAA := Lib.hid ha
  have HN := Lib.hid hn
  have HSZ := Lib.hid hsz
  have HST := Lib.hid hS
  have HOF := Lib.hid hA
  have HWD := Lib.hid hw
  have HK0 := Lib.hid hk0
  have HK1 := Lib.hid hk1
  have HK2 := Lib.hid hk2
  have HR := Lib.hid hR
  have HLE : Hid (∀ k : Nat, k < 3 → (L k).length ≤ R) := Lib.hid fun k hk => (h.len hk).1
  have HLE64 : Hid (∀ k : Nat, k < 3 → (L k).length ≤ 64) := Lib.hid fun k hk => Nat.le_trans (h.len hk).1 hR
  have H0 := Lib.hid ((((((Has.start (firm_psc q R L) h).got hx.c (fun i hi ⟨o, ho, hg⟩ => by obtain rfl := List.mem_singleton.1 ho; exact hv2 i hi hg.1)).got hx.b (fun i hi ⟨o, ho, hg⟩ => by obtain rfl := List.mem_singleton.1 ho; exact hv1 i hi hg.1)).got hx.a (fun i hi ⟨o, ho, hg⟩ => by obtain rfl := List.mem_singleton.1 ho; exact hv0 i hi hg.1)).new (b := w.heap.size) rfl #[(.slice B0 m0 d0), .int .i64 (R : Int), (.slice B1 m1 d1), .int .i64 (R : Int), (.slice B2 m2 d2), .int .i64 (R : Int)] 31).new (b := w.heap.size + 1) (by simp) #[.int .i64 5, .int .i64 p, .int .i64 lv, .int .u64 a, .slice A n c, .int .i64 why, .bool W1, .bool U1, .bool X1, .int .i64 lw, .int .u64 fr, .int .i64 lev, .int .u64 t, .bool W, .bool U, .bool X, .int .i64 k0, .int .i64 k1, .int .i64 k2] 44 |>.new (b := w.heap.size + 1 + 1) (by simp) xZero 31)
  clear h hR hs h0 hx hv0 hv1 hv2 hp ha hn hsz hS hA hw hk0 hk1 hk2
  go_enter Tryd.func12, Tryd.ntmps12
  go_upto_region 1 with fail
  generalize hw1 : ((w.alloc _).alloc _).alloc _ = w1
  have H1 := Lib.hid (H0.out.world hw1)
  clear hw1 H0
  obtain ⟨b, hb⟩ : ∃ b, w.heap.size = b := ⟨_, rfl⟩
  rw [hb] at H1 ⊢
  clear hb
  obtain ⟨e0, e1, e2, e3, e4, e5, e6, e7, e8, e9, e10, e11, e12, e13, e14, e15, e16, e17, e18⟩ := (H1.out.at_ 1 rfl).c19
  go_upto_region 16 with (go_at_call 26; refine (evictP_any (H1.out.the 0 rfl) lv k0 HK0.out).mono ?_; rintro e w2 ⟨rfl, hP, hT⟩; have H2 := Lib.hid (H1.out.did 0 rfl (firm_psc _ _ _) hP hT); clear hP hT H1; clear e0 e1 e2 e3 e4 e5 e6 e7 e8 e9 e10 e11 e12 e13 e14 e15 e16 e17 e18)
  obtain ⟨e0, e1, e2, e3, e4, e5, e6, e7, e8, e9, e10, e11, e12, e13, e14, e15, e16, e17, e18⟩ := (H2.out.at_ 1 rfl).c19
  obtain ⟨a0, a1, a2, a3, a4, a5⟩ := (H2.out.at_ 2 rfl).c6
  go_wp2_with (go_at_call 37; refine (revictX_any _ _ _ _ L R H2.out.doc HLE64.out lv k0 HK0.out).mono ?_; rintro e w3 ⟨u0, u1, u2, rfl, hX, hb⟩; obtain ⟨A0, n0, c0, rfl⟩ := hX.a.1.slice; obtain ⟨A1, n1, c1, rfl⟩ := hX.b.1.slice; obtain ⟨A2, n2, c2, rfl⟩ := hX.c.1.slice; have H3 := Lib.hid (H2.out.docs hb hX); clear hb hX H2; clear a0 a1 a2 a3 a4 a5; clear e0 e1 e2 e3 e4 e5 e6 e7 e8 e9 e10 e11 e12 e13 e14 e15 e16 e17 e18; obtain ⟨r0, r1, r2, r3, r4, r5⟩ := (H3.out.at_ 0 rfl).c6; have g0 := (H3.out.at_ 0 rfl).fz 0; have g1 := (H3.out.at_ 0 rfl).fz 1; have g2 := (H3.out.at_ 0 rfl).fz 2; have g3 := (H3.out.at_ 0 rfl).fz 3; have g4 := (H3.out.at_ 0 rfl).fz 4; have g5 := (H3.out.at_ 0 rfl).fz 5)
  have HZ := (H3.out.put 0 rfl (turnB6 w3 (b + 1 + 1) (.slice A0 n0 c0) (.int .i64 (R : Int)) (.slice A1 n1 c1) (.int .i64 (R : Int)) (.slice A2 n2 c2) (.int .i64 (R : Int))) (setB6 (H3.out.at_ 0 rfl) (.slice A0 n0 c0) (.int .i64 (R : Int)) (.slice A1 n1 c1) (.int .i64 (R : Int)) (.slice A2 n2 c2) (.int .i64 (R : Int)))).pick [] [0, 1, 2]
  exact bodyPost_ret (results_cell_row rfl _ _ (b + 1 + 1) _ _ _ _ rfl (setB6 (H3.out.at_ 0 rfl) (.slice A0 n0 c0) (.int .i64 (R : Int)) (.slice A1 n1 c1) (.int .i64 (R : Int)) (.slice A2 n2 c2) (.int .i64 (R : Int))) Tryd.underlying31 rfl rfl) rfl ⟨_, _, _, rfl, _, HZ⟩

set_option maxRecDepth 100000 in
set_option maxHeartbeats 6400000 in
theorem do11_none {w : World} {F : Nat → Prop} {q R : Nat} {L : Ls} (h : pscT q R L w F) (hR : R ≤ 64) (hs : Shifts w) (h0 : ¬ F 0) (v0 v1 v2 : Value) (hx : DocX w v0 v1 v2 L) (hv0 : ∀ i, v0.ownBlock = some i → ¬ F i) (hv1 : ∀ i, v1.ownBlock = some i → ¬ F i) (hv2 : ∀ i, v2.ownBlock = some i → ¬ F i)
    (kd p lv a : Int) (hp : I64 p) (ha : W64 a) (A : Option Addr) (n c : Nat) (T : List Stp) (why : Int) (W1 U1 X1 : Bool) (lw fr : Int) (hn : T.length = n) (hsz : n * 24 ≤ 140737488355328) (hS : StepsIn w (.slice A n c) T) (hA : ∀ ad, A = some ad → 0 < n → ¬ F ad.block) (hw : ∀ k, k < T.length → W64 (stepAt T k).2.2)
    (lev t : Int) (W U X : Bool) (k0 k1 k2 : Int) (hk0 : I64 k0) (hk1 : I64 k1) (hk2 : I64 k2) (h1 : (kd == 1) = false) (h2 : (kd == 2) = false) (h3 : (kd == 3) = false) (h4 : (kd == 4) = false) (h5 : (kd == 5) = false) :
    Calls Tryd.prog 12 #[.pointer (some ⟨q, 0, none⟩), xV v0 v1 v2 R, .agg #[.int .i64 kd, .int .i64 p, .int .i64 lv, .int .u64 a, .slice A n c, .int .i64 why, .bool W1, .bool U1, .bool X1, .int .i64 lw, .int .u64 fr, .int .i64 lev, .int .u64 t, .bool W, .bool U, .bool X, .int .i64 k0, .int .i64 k1, .int .i64 k2]] w fun e w' =>
      ∃ u0 u1 u2, e = .returned (xV u0 u1 u2 R) ∧ ∃ G, Has w w' F [⟨pscT q R (L), G⟩] [] [rowP u0 ((L) 0), rowP u1 ((L) 1), rowP u2 ((L) 2)] := by
  obtain ⟨B0, m0, d0, rfl⟩ := hx.a.slice
  obtain ⟨B1, m1, d1, rfl⟩ := hx.b.slice
  obtain ⟨B2, m2, d2, rfl⟩ := hx.c.slice
  have HS := Lib.hid hs
  have HF := Lib.hid h0
  have HPP := Lib.hid hp
  have HAA := Lib.hid ha
  have HN := Lib.hid hn
  have HSZ := Lib.hid hsz
  have HST := Lib.hid hS
  have HOF := Lib.hid hA
  have HWD := Lib.hid hw
  have HK0 := Lib.hid hk0
  have HK1 := Lib.hid hk1
  have HK2 := Lib.hid hk2
  have HR := Lib.hid hR
  have HLE : Hid (∀ k : Nat, k < 3 → (L k).length ≤ R) := Lib.hid fun k hk => (h.len hk).1
  have HLE64 : Hid (∀ k : Nat, k < 3 → (L k).length ≤ 64) := Lib.hid fun k hk => Nat.le_trans (h.len hk).1 hR
  have H0 := Lib.hid ((((((Has.start (firm_psc q R L) h).got hx.c (fun i hi ⟨o, ho, hg⟩ => by obtain rfl := List.mem_singleton.1 ho; exact hv2 i hi hg.1)).got hx.b (fun i hi ⟨o, ho, hg⟩ => by obtain rfl := List.mem_singleton.1 ho; exact hv1 i hi hg.1)).got hx.a (fun i hi ⟨o, ho, hg⟩ => by obtain rfl := List.mem_singleton.1 ho; exact hv0 i hi hg.1)).new (b := w.heap.size) rfl #[(.slice B0 m0 d0), .int .i64 (R : Int), (.slice B1 m1 d1), .int .i64 (R : Int), (.slice B2 m2 d2), .int .i64 (R : Int)] 31).new (b := w.heap.size + 1) (by simp) #[.int .i64 kd, .int .i64 p, .int .i64 lv, .int .u64 a, .slice A n c, .int .i64 why, .bool W1, .bool U1, .bool X1, .int .i64 lw, .int .u64 fr, .int .i64 lev, .int .u64 t, .bool W, .bool U, .bool X, .int .i64 k0, .int .i64 k1, .int .i64 k2] 44 |>.new (b := w.heap.size + 1 + 1) (by simp) xZero 31)
  clear h hR hs h0 hx hv0 hv1 hv2 hp ha hn hsz hS hA hw hk0 hk1 hk2
  go_enter Tryd.func12, Tryd.ntmps12
  go_upto_region 1 with fail
  generalize hw1 : ((w.alloc _).alloc _).alloc _ = w1
  have H1 := Lib.hid (H0.out.world hw1)
  clear hw1 H0
  obtain ⟨b, hb⟩ : ∃ b, w.heap.size = b := ⟨_, rfl⟩
  rw [hb] at H1 ⊢
  clear hb
  obtain ⟨e0, e1, e2, e3, e4, e5, e6, e7, e8, e9, e10, e11, e12, e13, e14, e15, e16, e17, e18⟩ := (H1.out.at_ 1 rfl).c19
  obtain ⟨a0, a1, a2, a3, a4, a5⟩ := (H1.out.at_ 2 rfl).c6
  obtain ⟨r0, r1, r2, r3, r4, r5⟩ := (H1.out.at_ 0 rfl).c6; have g0 := (H1.out.at_ 0 rfl).fz 0; have g1 := (H1.out.at_ 0 rfl).fz 1; have g2 := (H1.out.at_ 0 rfl).fz 2; have g3 := (H1.out.at_ 0 rfl).fz 3; have g4 := (H1.out.at_ 0 rfl).fz 4; have g5 := (H1.out.at_ 0 rfl).fz 5
  go_wp2
  have HZ := (H1.out.put 0 rfl (turnB6 w1 (b + 1 + 1) (.slice B0 m0 d0) (.int .i64 (R : Int)) (.slice B1 m1 d1) (.int .i64 (R : Int)) (.slice B2 m2 d2) (.int .i64 (R : Int))) (setB6 (H1.out.at_ 0 rfl) (.slice B0 m0 d0) (.int .i64 (R : Int)) (.slice B1 m1 d1) (.int .i64 (R : Int)) (.slice B2 m2 d2) (.int .i64 (R : Int)))).pick [] [0, 1, 2]
  exact bodyPost_ret (results_cell_row rfl _ _ (b + 1 + 1) _ _ _ _ rfl (setB6 (H1.out.at_ 0 rfl) (.slice B0 m0 d0) (.int .i64 (R : Int)) (.slice B1 m1 d1) (.int .i64 (R : Int)) (.slice B2 m2 d2) (.int .i64 (R : Int))) Tryd.underlying31 rfl rfl) rfl ⟨_, _, _, rfl, _, HZ⟩

/-- an argument's block, of F's or new: of F's -/
theorem foot_old {w wr : World} {F G : Nat → Prop} {A : Option Addr} {n c : Nat} {T : List Stp} (hf : ∀ i, G i → i < wr.heap.size ∧ (F i ∨ w.heap.size ≤ i)) (hS : StepsIn w (.slice A n c) T) {ad : Addr} (hA : A = some ad) (hn : 0 < n) (hg : G ad.block) : F ad.block := by
  obtain ⟨A', c', hv, hc⟩ := hS
  simp at hv
  obtain ⟨ad', hA', c0, _⟩ := hc 0 (by omega)
  rw [← hv.1, hA] at hA'
  obtain rfl : ad = ad' := Option.some.inj hA'
  have hb := World.block_lt_of_cell? _ _ c0
  rw [add_block] at hb
  rcases (hf _ hg).2 with h | h
  · exact h
  · omega

set_option maxRecDepth 100000 in
set_option maxHeartbeats 6400000 in
theorem do11_fill {w : World} {F : Nat → Prop} {q R : Nat} {L : Ls} (h : pscT q R L w F) (hR : R ≤ 64) (hs : Shifts w) (h0 : ¬ F 0) (v0 v1 v2 : Value) (hx : DocX w v0 v1 v2 L) (hv0 : ∀ i, v0.ownBlock = some i → ¬ F i) (hv1 : ∀ i, v1.ownBlock = some i → ¬ F i) (hv2 : ∀ i, v2.ownBlock = some i → ¬ F i)
    (kd p lv a : Int) (hp : I64 p) (ha : W64 a) (A : Option Addr) (n c : Nat) (T : List Stp) (why : Int) (W1 U1 X1 : Bool) (lw fr : Int) (hn : T.length = n) (hsz : n * 24 ≤ 140737488355328) (hS : StepsIn w (.slice A n c) T) (hA : ∀ ad, A = some ad → 0 < n → ¬ F ad.block) (hw : ∀ k, k < T.length → W64 (stepAt T k).2.2)
    (lev t : Int) (W U X : Bool) (k0 k1 k2 : Int) (hk0 : I64 k0) (hk1 : I64 k1) (hk2 : I64 k2) :
    Calls Tryd.prog 12 #[.pointer (some ⟨q, 0, none⟩), xV v0 v1 v2 R, .agg #[.int .i64 1, .int .i64 p, .int .i64 lv, .int .u64 a, .slice A n c, .int .i64 why, .bool W1, .bool U1, .bool X1, .int .i64 lw, .int .u64 fr, .int .i64 lev, .int .u64 t, .bool W, .bool U, .bool X, .int .i64 k0, .int .i64 k1, .int .i64 k2]] w fun e w' =>
      ∃ u0 u1 u2, e = .returned (xV u0 u1 u2 R) ∧ ∃ G, Has w w' F [⟨pscT q R (fillK R p a (pkF k0 k1 k2) T W U X L), G⟩] [] [rowP u0 ((fillK R p a (pkF k0 k1 k2) T W U X L) 0), rowP u1 ((fillK R p a (pkF k0 k1 k2) T W U X L) 1), rowP u2 ((fillK R p a (pkF k0 k1 k2) T W U X L) 2)] := by
  obtain ⟨B0, m0, d0, rfl⟩ := hx.a.slice
  obtain ⟨B1, m1, d1, rfl⟩ := hx.b.slice
  obtain ⟨B2, m2, d2, rfl⟩ := hx.c.slice
  have HS := Lib.hid hs
  have HF := Lib.hid h0
  have HPP := Lib.hid hp
  have HAA := Lib.hid ha
  have HN := Lib.hid hn
  have HSZ := Lib.hid hsz
  have HST := Lib.hid hS
  have HOF := Lib.hid hA
  have HWD := Lib.hid hw
  have HK0 := Lib.hid hk0
  have HK1 := Lib.hid hk1
  have HK2 := Lib.hid hk2
  have HR := Lib.hid hR
  have HLE : Hid (∀ k : Nat, k < 3 → (L k).length ≤ R) := Lib.hid fun k hk => (h.len hk).1
  have HLE64 : Hid (∀ k : Nat, k < 3 → (L k).length ≤ 64) := Lib.hid fun k hk => Nat.le_trans (h.len hk).1 hR
  have H0 := Lib.hid ((((((Has.start (firm_psc q R L) h).got hx.c (fun i hi ⟨o, ho, hg⟩ => by obtain rfl := List.mem_singleton.1 ho; exact hv2 i hi hg.1)).got hx.b (fun i hi ⟨o, ho, hg⟩ => by obtain rfl := List.mem_singleton.1 ho; exact hv1 i hi hg.1)).got hx.a (fun i hi ⟨o, ho, hg⟩ => by obtain rfl := List.mem_singleton.1 ho; exact hv0 i hi hg.1)).new (b := w.heap.size) rfl #[(.slice B0 m0 d0), .int .i64 (R : Int), (.slice B1 m1 d1), .int .i64 (R : Int), (.slice B2 m2 d2), .int .i64 (R : Int)] 31).new (b := w.heap.size + 1) (by simp) #[.int .i64 1, .int .i64 p, .int .i64 lv, .int .u64 a, .slice A n c, .int .i64 why, .bool W1, .bool U1, .bool X1, .int .i64 lw, .int .u64 fr, .int .i64 lev, .int .u64 t, .bool W, .bool U, .bool X, .int .i64 k0, .int .i64 k1, .int .i64 k2] 44 |>.new (b := w.heap.size + 1 + 1) (by simp) xZero 31)
  clear h hR hs h0 hx hv0 hv1 hv2 hp ha hn hsz hS hA hw hk0 hk1 hk2
  go_enter Tryd.func12, Tryd.ntmps12
  go_upto_region 1 with fail
  generalize hw1 : ((w.alloc _).alloc _).alloc _ = w1
  have H1 := Lib.hid (H0.out.world hw1)
  clear hw1 H0
  obtain ⟨b, hb⟩ : ∃ b, w.heap.size = b := ⟨_, rfl⟩
  rw [hb] at H1 ⊢
  clear hb
  obtain ⟨e0, e1, e2, e3, e4, e5, e6, e7, e8, e9, e10, e11, e12, e13, e14, e15, e16, e17, e18⟩ := (H1.out.at_ 1 rfl).c19
  go_upto_region 4 with (go_at_call 22; refine (fillP_any (H1.out.the 0 rfl) (H1.out.shifts HS.out HF.out) (H1.out.no0 HS.out HF.out 0 rfl) p a HPP.out HAA.out A n c T why W1 U1 X1 lw fr HN.out HSZ.out (HST.out.turn H1.out.turn HOF.out) (fun ad hA hn hg => HOF.out ad hA hn (foot_old (H1.out.foot 0 rfl) HST.out hA hn hg)) HWD.out lev t W U X k0 k1 k2 HK0.out HK1.out HK2.out).mono ?_; rintro e w2 ⟨rfl, hP, hT⟩; have H2 := Lib.hid (H1.out.did 0 rfl (firm_psc _ _ _) hP hT); clear hP hT H1; clear e0 e1 e2 e3 e4 e5 e6 e7 e8 e9 e10 e11 e12 e13 e14 e15 e16 e17 e18)
  refine wp_region_held_drew (S := fun w' => Blk w' b #[(.slice B0 m0 d0), .int .i64 (R : Int), (.slice B1 m1 d1), .int .i64 (R : Int), (.slice B2 m2 d2), .int .i64 (R : Int)] 31 ∧ Blk w' (b + 1) #[.int .i64 1, .int .i64 p, .int .i64 lv, .int .u64 a, .slice A n c, .int .i64 why, .bool W1, .bool U1, .bool X1, .int .i64 lw, .int .u64 fr, .int .i64 lev, .int .u64 t, .bool W, .bool U, .bool X, .int .i64 k0, .int .i64 k1, .int .i64 k2] 44) (by kernel_rfl) ⟨(H2.out.quiet (Kept.drew0 w2)).at_ 2 rfl, (H2.out.quiet (Kept.drew0 w2)).at_ 1 rfl⟩ (fun hHeld => ?_)
  have H3 := Lib.hid (H2.out.quiet (Kept.drew0 w2))
  clear H2
  generalize w2.drew = w3 at *
  refine tk (v := ?_) 0 ?_ ?_
  rotate_left
  · intro w hSw
    obtain ⟨a0, a1, a2, a3, a4, a5⟩ := hSw.1.c6
    go_simp
    (try with_reducible rfl)
  (try simp only [Act.put, List.setIfInBounds_toArray, List.set_cons_zero, List.set_cons_succ])
  refine tk (v := ?_) 1 ?_ ?_
  rotate_left
  · intro w hSw
    go_simp
    (try with_reducible rfl)
  (try simp only [Act.put, List.setIfInBounds_toArray, List.set_cons_zero, List.set_cons_succ])
  refine tk (v := ?_) 2 ?_ ?_
  rotate_left
  · intro w hSw
    obtain ⟨e0, e1, e2, e3, e4, e5, e6, e7, e8, e9, e10, e11, e12, e13, e14, e15, e16, e17, e18⟩ := hSw.2.c19
    go_simp
    (try with_reducible rfl)
  (try simp only [Act.put, List.setIfInBounds_toArray, List.set_cons_zero, List.set_cons_succ])
  refine tk (v := ?_) 3 ?_ ?_
  rotate_left
  · intro w hSw
    go_simp
    (try with_reducible rfl)
  (try simp only [Act.put, List.setIfInBounds_toArray, List.set_cons_zero, List.set_cons_succ])
  refine tk (v := ?_) 4 ?_ ?_
  rotate_left
  · intro w hSw
    obtain ⟨e0, e1, e2, e3, e4, e5, e6, e7, e8, e9, e10, e11, e12, e13, e14, e15, e16, e17, e18⟩ := hSw.2.c19
    go_simp
    (try with_reducible rfl)
  (try simp only [Act.put, List.setIfInBounds_toArray, List.set_cons_zero, List.set_cons_succ])
  refine tk (v := ?_) 5 ?_ ?_
  rotate_left
  · intro w hSw
    go_simp
    (try with_reducible rfl)
  (try simp only [Act.put, List.setIfInBounds_toArray, List.set_cons_zero, List.set_cons_succ])
  refine tk (v := ?_) 6 ?_ ?_
  rotate_left
  · intro w hSw
    obtain ⟨e0, e1, e2, e3, e4, e5, e6, e7, e8, e9, e10, e11, e12, e13, e14, e15, e16, e17, e18⟩ := hSw.2.c19
    go_simp
    (try with_reducible rfl)
  (try simp only [Act.put, List.setIfInBounds_toArray, List.set_cons_zero, List.set_cons_succ])
  refine tk (v := ?_) 8 ?_ ?_
  rotate_left
  · intro w hSw
    go_simp
    (try with_reducible rfl)
  (try simp only [Act.put, List.setIfInBounds_toArray, List.set_cons_zero, List.set_cons_succ])
  refine tk (v := ?_) 9 ?_ ?_
  rotate_left
  · intro w hSw
    obtain ⟨e0, e1, e2, e3, e4, e5, e6, e7, e8, e9, e10, e11, e12, e13, e14, e15, e16, e17, e18⟩ := hSw.2.c19
    go_simp
    (try with_reducible rfl)
  (try simp only [Act.put, List.setIfInBounds_toArray, List.set_cons_zero, List.set_cons_succ])
  refine tk (v := ?_) 11 ?_ ?_
  rotate_left
  · intro w hSw
    go_simp
    (try with_reducible rfl)
  (try simp only [Act.put, List.setIfInBounds_toArray, List.set_cons_zero, List.set_cons_succ])
  refine tk (v := ?_) 12 ?_ ?_
  rotate_left
  · intro w hSw
    obtain ⟨e0, e1, e2, e3, e4, e5, e6, e7, e8, e9, e10, e11, e12, e13, e14, e15, e16, e17, e18⟩ := hSw.2.c19
    go_simp
    (try with_reducible rfl)
  (try simp only [Act.put, List.setIfInBounds_toArray, List.set_cons_zero, List.set_cons_succ])
  refine wpAnyH_ready (rs := [7]) (by kernel_rfl) (by simp) ?_
  refine anyH_one rfl (fun K hK => ?_) ?_
  · go_simp
    refine (real11_any _ A n c ⟨T, why, W1, U1, X1, lw, fr⟩ HN.out (HST.out.turn H3.out.turn HOF.out) HSZ.out).mono ?_
    rintro e w4 ⟨Ar, cr, rfl, hSr, hb⟩
    have HSR := Lib.hid hSr.into
    have H4 := Lib.hid (H3.out.quiet hb)
    clear hb hSr H3
    refine hK.out _ _ (⟨H4.out.at_ 2 rfl, H4.out.at_ 1 rfl⟩) (fun hHeld => ?_)
    clear hK K
    (try simp only [Act.put, List.setIfInBounds_toArray, List.set_cons_zero, List.set_cons_succ])
    refine wpAnyH_ready (rs := [10]) (by kernel_rfl) (by simp) ?_
    refine anyH_one rfl (fun K hK => ?_) ?_
    · go_simp
      refine (place11_any lev t W U X _).mono ?_
      rintro e w5 ⟨rfl, hb⟩
      have HSR2 := Lib.hid (HSR.out.below hb)
      have H5 := Lib.hid (H4.out.quiet hb)
      clear hb HSR H4
      refine hK.out _ _ (⟨H5.out.at_ 2 rfl, H5.out.at_ 1 rfl⟩) (fun hHeld => ?_)
      clear hK K
      (try simp only [Act.put, List.setIfInBounds_toArray, List.set_cons_zero, List.set_cons_succ])
      refine wpAnyH_ready (rs := [13]) (by kernel_rfl) (by simp) ?_
      refine anyH_one rfl (fun K hK => ?_) ?_
      · go_simp
        refine (rfillX_any _ _ _ _ L R H5.out.doc HR.out HLE.out p a HAA.out Ar n cr T why W1 U1 X1 lw fr HN.out HSZ.out HSR2.out HWD.out lev t W U X k0 k1 k2 HK0.out HK1.out HK2.out).mono ?_
        rintro e w6 ⟨u0, u1, u2, rfl, hX, hb⟩
        obtain ⟨A0, n0, c0, rfl⟩ := hX.a.1.slice
        obtain ⟨A1, n1, c1, rfl⟩ := hX.b.1.slice
        obtain ⟨A2, n2, c2, rfl⟩ := hX.c.1.slice
        have H6 := Lib.hid (H5.out.docs hb hX)
        clear hb hX H5
        refine hK.out _ _ (⟨H6.out.at_ 2 rfl, H6.out.at_ 1 rfl⟩) (fun hHeld => ?_)
        clear hK K
        (try simp only [Act.put, List.setIfInBounds_toArray, List.set_cons_zero, List.set_cons_succ])
        refine wpAnyH_ready (rs := [14]) (by kernel_rfl) (by simp) ?_
        refine anyH_one rfl (fun K hK => ?_) ?_
        · obtain ⟨r0, r1, r2, r3, r4, r5⟩ := (H6.out.at_ 0 rfl).c6
          have g0 := (H6.out.at_ 0 rfl).fz 0; have g1 := (H6.out.at_ 0 rfl).fz 1; have g2 := (H6.out.at_ 0 rfl).fz 2; have g3 := (H6.out.at_ 0 rfl).fz 3; have g4 := (H6.out.at_ 0 rfl).fz 4; have g5 := (H6.out.at_ 0 rfl).fz 5
          go_simp
          generalize hq : (((((w6.setCell _ _).setCell _ _).setCell _ _).setCell _ _).setCell _ _).setCell _ _ = w7
          have H7 := Lib.hid ((H6.out.put 0 rfl (turnB6 _ _ _ _ _ _ _ _) (setB6 (H6.out.at_ 0 rfl) _ _ _ _ _ _)).world hq)
          clear hq H6 r0 r1 r2 r3 r4 r5 g0 g1 g2 g3 g4 g5
          refine hK.out _ _ (⟨H7.out.at_ 2 rfl, H7.out.at_ 1 rfl⟩) (fun hHeld => ?_)
          clear hK K
          (try simp only [Act.put, List.setIfInBounds_toArray, List.set_cons_zero, List.set_cons_succ])
          refine wpAnyH_done (by kernel_rfl) ?_ _
          clear hHeld
          have HZ := H7.out.pick [] [0, 1, 2]
          go_wp2
          exact bodyPost_ret (results_cell_row rfl _ _ (b + 1 + 1) _ _ _ _ rfl (H7.out.at_ 0 rfl) Tryd.underlying31 rfl rfl) rfl ⟨_, _, _, rfl, _, HZ⟩
        exact AllReadyH.nil
      exact AllReadyH.nil
    exact AllReadyH.nil
  exact AllReadyH.nil

theorem do11_any {w : World} {F : Nat → Prop} {q R : Nat} {L : Ls} (h : pscT q R L w F) (hR : R ≤ 64) (hs : Shifts w) (h0 : ¬ F 0) (v0 v1 v2 : Value) (hx : DocX w v0 v1 v2 L) (hv0 : ∀ i, v0.ownBlock = some i → ¬ F i) (hv1 : ∀ i, v1.ownBlock = some i → ¬ F i) (hv2 : ∀ i, v2.ownBlock = some i → ¬ F i)
    (kd p lv a : Int) (hp : I64 p) (ha : W64 a) (A : Option Addr) (n c : Nat) (T : List Stp) (why : Int) (W1 U1 X1 : Bool) (lw fr : Int) (hn : T.length = n) (hsz : n * 24 ≤ 140737488355328) (hS : StepsIn w (.slice A n c) T) (hA : ∀ ad, A = some ad → 0 < n → ¬ F ad.block) (hw : ∀ k, k < T.length → W64 (stepAt T k).2.2)
    (lev t : Int) (W U X : Bool) (k0 k1 k2 : Int) (hk0 : I64 k0) (hk1 : I64 k1) (hk2 : I64 k2) :
    Calls Tryd.prog 12 #[.pointer (some ⟨q, 0, none⟩), xV v0 v1 v2 R, .agg #[.int .i64 kd, .int .i64 p, .int .i64 lv, .int .u64 a, .slice A n c, .int .i64 why, .bool W1, .bool U1, .bool X1, .int .i64 lw, .int .u64 fr, .int .i64 lev, .int .u64 t, .bool W, .bool U, .bool X, .int .i64 k0, .int .i64 k1, .int .i64 k2]] w fun e w' =>
      ∃ u0 u1 u2, e = .returned (xV u0 u1 u2 R) ∧ ∃ G, Has w w' F [⟨pscT q R (doL R L kd p lv a T W U X k0 k1 k2), G⟩] [] [rowP u0 ((doL R L kd p lv a T W U X k0 k1 k2) 0), rowP u1 ((doL R L kd p lv a T W U X k0 k1 k2) 1), rowP u2 ((doL R L kd p lv a T W U X k0 k1 k2) 2)] := by
  by_cases e1 : kd = 1
  · subst e1; exact do11_fill h hR hs h0 v0 v1 v2 hx hv0 hv1 hv2 1 p lv a hp ha A n c T why W1 U1 X1 lw fr hn hsz hS hA hw lev t W U X k0 k1 k2 hk0 hk1 hk2
  by_cases e2 : kd = 2
  · subst e2; exact do11_drop h hR hs h0 v0 v1 v2 hx hv0 hv1 hv2 2 p lv a hp ha A n c T why W1 U1 X1 lw fr hn hsz hS hA hw lev t W U X k0 k1 k2 hk0 hk1 hk2
  by_cases e3 : kd = 3
  · subst e3; exact do11_of h hR hs h0 v0 v1 v2 hx hv0 hv1 hv2 3 p lv a hp ha A n c T why W1 U1 X1 lw fr hn hsz hS hA hw lev t W U X k0 k1 k2 hk0 hk1 hk2
  by_cases e4 : kd = 4
  · subst e4; exact do11_clear h hR hs h0 v0 v1 v2 hx hv0 hv1 hv2 4 p lv a hp ha A n c T why W1 U1 X1 lw fr hn hsz hS hA hw lev t W U X k0 k1 k2 hk0 hk1 hk2
  by_cases e5 : kd = 5
  · subst e5; exact do11_evict h hR hs h0 v0 v1 v2 hx hv0 hv1 hv2 5 p lv a hp ha A n c T why W1 U1 X1 lw fr hn hsz hS hA hw lev t W U X k0 k1 k2 hk0 hk1 hk2
  have hz : doL R L kd p lv a T W U X k0 k1 k2 = L := by unfold doL; rw [if_neg e1, if_neg e2, if_neg e3, if_neg e4, if_neg e5]
  rw [hz]
  exact do11_none h hR hs h0 v0 v1 v2 hx hv0 hv1 hv2 kd p lv a hp ha A n c T why W1 U1 X1 lw fr hn hsz hS hA hw lev t W U X k0 k1 k2 hk0 hk1 hk2 (by simpa using e1) (by simpa using e2) (by simpa using e3) (by simpa using e4) (by simpa using e5)
end Go.Proofs.YtiihhlmddmicjaaDoor
/- The document's psc (dormerref11): Deepest. (Laid by tools/gen_jq.py.) -/
namespace Go.Proofs.YtiihhlmddmicjaaDoor
set_option linter.unusedVariables false
set_option linter.unusedSimpArgs false
open Go.ChangeShapes Go.WideShapes Go.ChangeAt Go.RowKit Go.Joins

set_option maxRecDepth 100000 in
set_option maxHeartbeats 6400000 in
theorem rdeepX_any (w : World) (v0 v1 v2 : Value) (L : Ls) (S : Int) (h : DocX w v0 v1 v2 L) (hl : ∀ k : Nat, k < 3 → (L k).length ≤ 64) (p a : Int) (ha : W64 a) :
    Calls Tryd.prog 14 #[xV v0 v1 v2 S, .int .i64 p, .int .u64 a] w fun e w' => e = .returned (deepV (deepK L p a)) ∧ Below w.heap.size w w' := by
  obtain ⟨o, ho⟩ : ∃ o, deepK L p a = o := ⟨_, rfl⟩
  have HO : Hid (deepN L p a 3 = o) := Lib.hid ((deepN_all L p a).trans ho)
  rw [ho]
  obtain ⟨B0, m0, d0, rfl⟩ := h.a.slice
  obtain ⟨B1, m1, d1, rfl⟩ := h.b.slice
  obtain ⟨B2, m2, d2, rfl⟩ := h.c.slice
  have HX := Lib.hid h
  have l0 := hl 0 (by decide); have l1 := hl 1 (by decide); have l2 := hl 2 (by decide)
  have HL0 := Lib.hid l0; have HL1 := Lib.hid l1; have HL2 := Lib.hid l2
  have HAA := Lib.hid ha
  have H0 := Lib.hid (((Mine.start w).new (b := w.heap.size) rfl #[(.slice B0 m0 d0), .int .i64 S, (.slice B1 m1 d1), .int .i64 S, (.slice B2 m2 d2), .int .i64 S] 31).new (b := w.heap.size + 1) (by simp) #[.int .i64 0, .int .u64 0, .bool false, .bool false, .bool false] 49)
  clear h hl l0 l1 l2 ha ho
  go_enter Tryd.func14, Tryd.ntmps14
  go_upto_region 1 with fail
  generalize hw1 : (w.alloc _).alloc _ = w1
  have H1 := Lib.hid (H0.out.world hw1)
  clear hw1 H0
  obtain ⟨b, hb⟩ : ∃ b, w.heap.size = b := ⟨_, rfl⟩
  rw [hb] at H1 ⊢
  clear hb
  go_wp2_with fail
  go_loopw [8] (fun i wr => ∃ (l : Int), 2 ≤ l ∧ l ≤ 5 ∧ i = .int .i64 l ∧ Hid (deepN L p a (5 - l).toNat = o) ∧ Hid (Mine w wr [⟨b + 1, #[.int .i64 0, .int .u64 0, .bool false, .bool false, .bool false], 49⟩, ⟨b, #[(.slice B0 m0 d0), .int .i64 S, (.slice B1 m1 d1), .int .i64 S, (.slice B2 m2 d2), .int .i64 S], 31⟩] [])) (fun i _ => (5 - intOf i).toNat)
  case atStart => exact ⟨2, by decide, by decide, rfl, HO, H1⟩
  case round =>
    obtain ⟨l, hl2, hl5, rfl, HD, H1⟩ := hrel
    have hll : l = 2 ∨ l = 3 ∨ l = 4 ∨ l = 5 := by omega
    clear hl2 hl5 HO
    rcases hll with rfl | rfl | rfl | rfl
    · cases hg : getK (L 2) (p, 2, tagF a 2) with
      | none =>
        have HG1 : Hid ((getK (L 2) (p, 2, tagF a 2)).getD zL = (0, false, false, false, false, 0)) := Lib.hid (by rw [hg]; rfl)
        have HG2 : Hid ((getK (L 2) (p, 2, tagF a 2)).isSome = false) := Lib.hid (by rw [hg]; rfl)
        have HDN : Hid (deepN L p a (5 - (3 : Int)).toNat = o) := Lib.hid (by
          rw [← HD.out]
          have hn : deepN L p a 3 = (match getK (L 2) (p, 2, tagF a 2) with | some x => some (1, x) | none => deepN L p a 2) := rfl
          rw [hg] at hn
          exact hn.symm)
        clear hg HD
        have ew : IntKind.i64.wrap 2 = 2 := by decide
        go_upto_region 4 with fail
        refine wp_region_held_drew (S := fun w' => Blk w' b #[(.slice B0 m0 d0), .int .i64 S, (.slice B1 m1 d1), .int .i64 S, (.slice B2 m2 d2), .int .i64 S] 31) (by kernel_rfl) ((H1.out.quiet (Kept.drew0 wr)).at_ 1 rfl) (fun hHeld => ?_)
        have H2 := Lib.hid (H1.out.quiet (Kept.drew0 wr))
        clear H1
        generalize wr.drew = w2 at *
        refine tk (v := ?_) 0 ?_ ?_
        rotate_left
        · intro w hSw
          go_simp
          (try with_reducible rfl)
        (try simp only [Act.put, List.setIfInBounds_toArray, List.set_cons_zero, List.set_cons_succ])
        refine tk (v := ?_) 1 ?_ ?_
        rotate_left
        · intro w hSw
          go_simp
          (try with_reducible rfl)
        (try simp only [Act.put, List.setIfInBounds_toArray, List.set_cons_zero, List.set_cons_succ])
        refine tk (v := ?_) 2 ?_ ?_
        rotate_left
        · intro w hSw
          go_simp
          (try with_reducible rfl)
        (try simp only [Act.put, List.setIfInBounds_toArray, List.set_cons_zero, List.set_cons_succ])
        refine tk (v := ?_) 3 ?_ ?_
        rotate_left
        · intro w hSw
          go_simp
          (try with_reducible rfl)
        (try simp only [Act.put, List.setIfInBounds_toArray, List.set_cons_zero, List.set_cons_succ])
        refine tk (v := ?_) 4 ?_ ?_
        rotate_left
        · intro w hSw
          obtain ⟨a0, a1, a2, a3, a4, a5⟩ := hSw.c6
          go_simp
          (try with_reducible rfl)
        (try simp only [Act.put, List.setIfInBounds_toArray, List.set_cons_zero, List.set_cons_succ])
        refine tk (v := ?_) 5 ?_ ?_
        rotate_left
        · intro w hSw
          go_simp
          (try with_reducible rfl)
        (try simp only [Act.put, List.setIfInBounds_toArray, List.set_cons_zero, List.set_cons_succ])
        refine tk (v := ?_) 6 ?_ ?_
        rotate_left
        · intro w hSw
          go_simp
          (try with_reducible rfl)
        (try simp only [Act.put, List.setIfInBounds_toArray, List.set_cons_zero, List.set_cons_succ])
        refine tk (v := ?_) 7 ?_ ?_
        rotate_left
        · intro w hSw
          go_simp
          (try with_reducible rfl)
        (try simp only [Act.put, List.setIfInBounds_toArray, List.set_cons_zero, List.set_cons_succ])
        refine wpAnyH_ready (rs := [8, 13]) (by kernel_rfl) (by simp) ?_
        refine anyH_one rfl (fun K hK => ?_) ?_
        · go_simp
          refine (rkey_any p 2 a _ HAA.out (by decide) (by decide)).mono ?_
          rintro e w3 ⟨rfl, hb⟩
          have H3 := Lib.hid (H2.out.quiet hb)
          clear hb H2
          refine hK.out _ _ (H3.out.at_ 1 rfl) (fun hHeld => ?_)
          clear hK K
          (try simp only [Act.put, List.setIfInBounds_toArray, List.set_cons_zero, List.set_cons_succ])
          refine wpAnyH_ready (rs := [9, 13]) (by kernel_rfl) (by simp) ?_
          refine anyH_one rfl (fun K hK => ?_) ?_
          · go_simp
            refine (rgetC_any _ (.slice B2 m2 d2) _ S p 2 (tagF a 2) 0 0 false false false false (HX.out.c.below H3.out.below) (Nat.le_trans HL2.out (by decide)) HG1.out false HG2.out).mono ?_
            rintro e w4 ⟨rfl, hb⟩
            have H4 := Lib.hid (H3.out.quiet hb)
            clear hb H3
            refine hK.out _ _ (H4.out.at_ 1 rfl) (fun hHeld => ?_)
            clear hK K
            (try simp only [Act.put, List.setIfInBounds_toArray, List.set_cons_zero, List.set_cons_succ])
            refine tk (v := ?_) 10 ?_ ?_
            rotate_left
            · intro w hSw
              go_simp
              (try with_reducible rfl)
            (try simp only [Act.put, List.setIfInBounds_toArray, List.set_cons_zero, List.set_cons_succ])
            refine tk (v := ?_) 11 ?_ ?_
            rotate_left
            · intro w hSw
              go_simp
              (try with_reducible rfl)
            (try simp only [Act.put, List.setIfInBounds_toArray, List.set_cons_zero, List.set_cons_succ])
            refine tk (v := ?_) 12 ?_ ?_
            rotate_left
            · intro w hSw
              go_simp
              (try with_reducible rfl)
            (try simp only [Act.put, List.setIfInBounds_toArray, List.set_cons_zero, List.set_cons_succ])
            refine wpAnyH_ready (rs := [13]) (by kernel_rfl) (by simp) ?_
            refine anyH_one rfl (fun K hK => ?_) ?_
            · go_simp
              generalize hq : w4.alloc _ = w5
              have H5 := Lib.hid ((H4.out.new (b := w4.heap.size) rfl _ _).world hq)
              clear hq H4
              generalize w4.heap.size = bl at H5 ⊢
              refine hK.out _ _ (H5.out.at_ 2 rfl) (fun hHeld => ?_)
              clear hK K
              (try simp only [Act.put, List.setIfInBounds_toArray, List.set_cons_zero, List.set_cons_succ])
              refine wpAnyH_ready (rs := [14]) (by kernel_rfl) (by simp) ?_
              refine anyH_one rfl (fun K hK => ?_) ?_
              · obtain ⟨z0, z1, z2, z3, z4, z5⟩ := (H5.out.at_ 0 rfl).c6
                have y0 := (H5.out.at_ 0 rfl).fz 0; have y1 := (H5.out.at_ 0 rfl).fz 1; have y2 := (H5.out.at_ 0 rfl).fz 2; have y3 := (H5.out.at_ 0 rfl).fz 3; have y4 := (H5.out.at_ 0 rfl).fz 4; have y5 := (H5.out.at_ 0 rfl).fz 5
                go_simp
                generalize hq : (((((w5.setCell _ _).setCell _ _).setCell _ _).setCell _ _).setCell _ _).setCell _ _ = w6
                have H6 := Lib.hid (H5.out.put6 0 rfl hq)
                clear hq H5 z0 z1 z2 z3 z4 z5 y0 y1 y2 y3 y4 y5
                refine hK.out _ _ (H6.out.at_ 2 rfl) (fun hHeld => ?_)
                clear hK K
                (try simp only [Act.put, List.setIfInBounds_toArray, List.set_cons_zero, List.set_cons_succ])
                refine tk (v := ?_) 15 ?_ ?_
                rotate_left
                · intro w hSw
                  go_simp
                  (try with_reducible rfl)
                (try simp only [Act.put, List.setIfInBounds_toArray, List.set_cons_zero, List.set_cons_succ])
                refine wpAnyH_done (by kernel_rfl) ?_ _
                clear hHeld
                have HN := Lib.hid (H6.out.pick [1, 2] [])
                clear H6
                go_wp2
                go_roundw
                case rel => exact ⟨3, by decide, by decide, by go_num, HDN, HN⟩
                case measure => simp [intOf]
              exact AllReadyH.nil
            exact AllReadyH.nil
          refine anyH_one rfl (fun K hK => ?_) ?_
          · go_simp
            generalize hq : w3.alloc _ = w4
            have H4 := Lib.hid ((H3.out.new (b := w3.heap.size) rfl _ _).world hq)
            clear hq H3
            generalize w3.heap.size = bl at H4 ⊢
            refine hK.out _ _ (H4.out.at_ 2 rfl) (fun hHeld => ?_)
            clear hK K
            (try simp only [Act.put, List.setIfInBounds_toArray, List.set_cons_zero, List.set_cons_succ])
            refine wpAnyH_ready (rs := [9]) (by kernel_rfl) (by simp) ?_
            refine anyH_one rfl (fun K hK => ?_) ?_
            · go_simp
              refine (rgetC_any _ (.slice B2 m2 d2) _ S p 2 (tagF a 2) 0 0 false false false false (HX.out.c.below H4.out.below) (Nat.le_trans HL2.out (by decide)) HG1.out false HG2.out).mono ?_
              rintro e w5 ⟨rfl, hb⟩
              have H5 := Lib.hid (H4.out.quiet hb)
              clear hb H4
              refine hK.out _ _ (H5.out.at_ 2 rfl) (fun hHeld => ?_)
              clear hK K
              (try simp only [Act.put, List.setIfInBounds_toArray, List.set_cons_zero, List.set_cons_succ])
              refine tk (v := ?_) 10 ?_ ?_
              rotate_left
              · intro w hSw
                go_simp
                (try with_reducible rfl)
              (try simp only [Act.put, List.setIfInBounds_toArray, List.set_cons_zero, List.set_cons_succ])
              refine tk (v := ?_) 11 ?_ ?_
              rotate_left
              · intro w hSw
                go_simp
                (try with_reducible rfl)
              (try simp only [Act.put, List.setIfInBounds_toArray, List.set_cons_zero, List.set_cons_succ])
              refine tk (v := ?_) 12 ?_ ?_
              rotate_left
              · intro w hSw
                go_simp
                (try with_reducible rfl)
              (try simp only [Act.put, List.setIfInBounds_toArray, List.set_cons_zero, List.set_cons_succ])
              refine wpAnyH_ready (rs := [14]) (by kernel_rfl) (by simp) ?_
              refine anyH_one rfl (fun K hK => ?_) ?_
              · obtain ⟨z0, z1, z2, z3, z4, z5⟩ := (H5.out.at_ 0 rfl).c6
                have y0 := (H5.out.at_ 0 rfl).fz 0; have y1 := (H5.out.at_ 0 rfl).fz 1; have y2 := (H5.out.at_ 0 rfl).fz 2; have y3 := (H5.out.at_ 0 rfl).fz 3; have y4 := (H5.out.at_ 0 rfl).fz 4; have y5 := (H5.out.at_ 0 rfl).fz 5
                go_simp
                generalize hq : (((((w5.setCell _ _).setCell _ _).setCell _ _).setCell _ _).setCell _ _).setCell _ _ = w6
                have H6 := Lib.hid (H5.out.put6 0 rfl hq)
                clear hq H5 z0 z1 z2 z3 z4 z5 y0 y1 y2 y3 y4 y5
                refine hK.out _ _ (H6.out.at_ 2 rfl) (fun hHeld => ?_)
                clear hK K
                (try simp only [Act.put, List.setIfInBounds_toArray, List.set_cons_zero, List.set_cons_succ])
                refine tk (v := ?_) 15 ?_ ?_
                rotate_left
                · intro w hSw
                  go_simp
                  (try with_reducible rfl)
                (try simp only [Act.put, List.setIfInBounds_toArray, List.set_cons_zero, List.set_cons_succ])
                refine wpAnyH_done (by kernel_rfl) ?_ _
                clear hHeld
                have HN := Lib.hid (H6.out.pick [1, 2] [])
                clear H6
                go_wp2
                go_roundw
                case rel => exact ⟨3, by decide, by decide, by go_num, HDN, HN⟩
                case measure => simp [intOf]
              exact AllReadyH.nil
            exact AllReadyH.nil
          exact AllReadyH.nil
        refine anyH_one rfl (fun K hK => ?_) ?_
        · go_simp
          generalize hq : w2.alloc _ = w3
          have H3 := Lib.hid ((H2.out.new (b := w2.heap.size) rfl _ _).world hq)
          clear hq H2
          generalize w2.heap.size = bl at H3 ⊢
          refine hK.out _ _ (H3.out.at_ 2 rfl) (fun hHeld => ?_)
          clear hK K
          (try simp only [Act.put, List.setIfInBounds_toArray, List.set_cons_zero, List.set_cons_succ])
          refine wpAnyH_ready (rs := [8]) (by kernel_rfl) (by simp) ?_
          refine anyH_one rfl (fun K hK => ?_) ?_
          · go_simp
            refine (rkey_any p 2 a _ HAA.out (by decide) (by decide)).mono ?_
            rintro e w4 ⟨rfl, hb⟩
            have H4 := Lib.hid (H3.out.quiet hb)
            clear hb H3
            refine hK.out _ _ (H4.out.at_ 2 rfl) (fun hHeld => ?_)
            clear hK K
            (try simp only [Act.put, List.setIfInBounds_toArray, List.set_cons_zero, List.set_cons_succ])
            refine wpAnyH_ready (rs := [9]) (by kernel_rfl) (by simp) ?_
            refine anyH_one rfl (fun K hK => ?_) ?_
            · go_simp
              refine (rgetC_any _ (.slice B2 m2 d2) _ S p 2 (tagF a 2) 0 0 false false false false (HX.out.c.below H4.out.below) (Nat.le_trans HL2.out (by decide)) HG1.out false HG2.out).mono ?_
              rintro e w5 ⟨rfl, hb⟩
              have H5 := Lib.hid (H4.out.quiet hb)
              clear hb H4
              refine hK.out _ _ (H5.out.at_ 2 rfl) (fun hHeld => ?_)
              clear hK K
              (try simp only [Act.put, List.setIfInBounds_toArray, List.set_cons_zero, List.set_cons_succ])
              refine tk (v := ?_) 10 ?_ ?_
              rotate_left
              · intro w hSw
                go_simp
                (try with_reducible rfl)
              (try simp only [Act.put, List.setIfInBounds_toArray, List.set_cons_zero, List.set_cons_succ])
              refine tk (v := ?_) 11 ?_ ?_
              rotate_left
              · intro w hSw
                go_simp
                (try with_reducible rfl)
              (try simp only [Act.put, List.setIfInBounds_toArray, List.set_cons_zero, List.set_cons_succ])
              refine tk (v := ?_) 12 ?_ ?_
              rotate_left
              · intro w hSw
                go_simp
                (try with_reducible rfl)
              (try simp only [Act.put, List.setIfInBounds_toArray, List.set_cons_zero, List.set_cons_succ])
              refine wpAnyH_ready (rs := [14]) (by kernel_rfl) (by simp) ?_
              refine anyH_one rfl (fun K hK => ?_) ?_
              · obtain ⟨z0, z1, z2, z3, z4, z5⟩ := (H5.out.at_ 0 rfl).c6
                have y0 := (H5.out.at_ 0 rfl).fz 0; have y1 := (H5.out.at_ 0 rfl).fz 1; have y2 := (H5.out.at_ 0 rfl).fz 2; have y3 := (H5.out.at_ 0 rfl).fz 3; have y4 := (H5.out.at_ 0 rfl).fz 4; have y5 := (H5.out.at_ 0 rfl).fz 5
                go_simp
                generalize hq : (((((w5.setCell _ _).setCell _ _).setCell _ _).setCell _ _).setCell _ _).setCell _ _ = w6
                have H6 := Lib.hid (H5.out.put6 0 rfl hq)
                clear hq H5 z0 z1 z2 z3 z4 z5 y0 y1 y2 y3 y4 y5
                refine hK.out _ _ (H6.out.at_ 2 rfl) (fun hHeld => ?_)
                clear hK K
                (try simp only [Act.put, List.setIfInBounds_toArray, List.set_cons_zero, List.set_cons_succ])
                refine tk (v := ?_) 15 ?_ ?_
                rotate_left
                · intro w hSw
                  go_simp
                  (try with_reducible rfl)
                (try simp only [Act.put, List.setIfInBounds_toArray, List.set_cons_zero, List.set_cons_succ])
                refine wpAnyH_done (by kernel_rfl) ?_ _
                clear hHeld
                have HN := Lib.hid (H6.out.pick [1, 2] [])
                clear H6
                go_wp2
                go_roundw
                case rel => exact ⟨3, by decide, by decide, by go_num, HDN, HN⟩
                case measure => simp [intOf]
              exact AllReadyH.nil
            exact AllReadyH.nil
          exact AllReadyH.nil
        exact AllReadyH.nil
      | some y =>
        obtain ⟨f, x1, x2, x3, x4, m⟩ := y
        have HG1 : Hid ((getK (L 2) (p, 2, tagF a 2)).getD zL = (f, x1, x2, x3, x4, m)) := Lib.hid (by rw [hg]; rfl)
        have HG2 : Hid ((getK (L 2) (p, 2, tagF a 2)).isSome = true) := Lib.hid (by rw [hg]; rfl)
        have HE : Hid (deepV o = .tuple #[placeV 1 f x1 x2 x3, .bool true]) := Lib.hid (by
          rw [← HD.out]
          have hn : deepN L p a 3 = (match getK (L 2) (p, 2, tagF a 2) with | some x => some (1, x) | none => deepN L p a 2) := rfl
          rw [hg] at hn
          exact (congrArg deepV hn).trans rfl)
        clear hg HD
        have ew : IntKind.i64.wrap 2 = 2 := by decide
        go_upto_region 4 with fail
        refine wp_region_held_drew (S := fun w' => Blk w' b #[(.slice B0 m0 d0), .int .i64 S, (.slice B1 m1 d1), .int .i64 S, (.slice B2 m2 d2), .int .i64 S] 31) (by kernel_rfl) ((H1.out.quiet (Kept.drew0 wr)).at_ 1 rfl) (fun hHeld => ?_)
        have H2 := Lib.hid (H1.out.quiet (Kept.drew0 wr))
        clear H1
        generalize wr.drew = w2 at *
        refine tk (v := ?_) 0 ?_ ?_
        rotate_left
        · intro w hSw
          go_simp
          (try with_reducible rfl)
        (try simp only [Act.put, List.setIfInBounds_toArray, List.set_cons_zero, List.set_cons_succ])
        refine tk (v := ?_) 1 ?_ ?_
        rotate_left
        · intro w hSw
          go_simp
          (try with_reducible rfl)
        (try simp only [Act.put, List.setIfInBounds_toArray, List.set_cons_zero, List.set_cons_succ])
        refine tk (v := ?_) 2 ?_ ?_
        rotate_left
        · intro w hSw
          go_simp
          (try with_reducible rfl)
        (try simp only [Act.put, List.setIfInBounds_toArray, List.set_cons_zero, List.set_cons_succ])
        refine tk (v := ?_) 3 ?_ ?_
        rotate_left
        · intro w hSw
          go_simp
          (try with_reducible rfl)
        (try simp only [Act.put, List.setIfInBounds_toArray, List.set_cons_zero, List.set_cons_succ])
        refine tk (v := ?_) 4 ?_ ?_
        rotate_left
        · intro w hSw
          obtain ⟨a0, a1, a2, a3, a4, a5⟩ := hSw.c6
          go_simp
          (try with_reducible rfl)
        (try simp only [Act.put, List.setIfInBounds_toArray, List.set_cons_zero, List.set_cons_succ])
        refine tk (v := ?_) 5 ?_ ?_
        rotate_left
        · intro w hSw
          go_simp
          (try with_reducible rfl)
        (try simp only [Act.put, List.setIfInBounds_toArray, List.set_cons_zero, List.set_cons_succ])
        refine tk (v := ?_) 6 ?_ ?_
        rotate_left
        · intro w hSw
          go_simp
          (try with_reducible rfl)
        (try simp only [Act.put, List.setIfInBounds_toArray, List.set_cons_zero, List.set_cons_succ])
        refine tk (v := ?_) 7 ?_ ?_
        rotate_left
        · intro w hSw
          go_simp
          (try with_reducible rfl)
        (try simp only [Act.put, List.setIfInBounds_toArray, List.set_cons_zero, List.set_cons_succ])
        refine wpAnyH_ready (rs := [8, 13]) (by kernel_rfl) (by simp) ?_
        refine anyH_one rfl (fun K hK => ?_) ?_
        · go_simp
          refine (rkey_any p 2 a _ HAA.out (by decide) (by decide)).mono ?_
          rintro e w3 ⟨rfl, hb⟩
          have H3 := Lib.hid (H2.out.quiet hb)
          clear hb H2
          refine hK.out _ _ (H3.out.at_ 1 rfl) (fun hHeld => ?_)
          clear hK K
          (try simp only [Act.put, List.setIfInBounds_toArray, List.set_cons_zero, List.set_cons_succ])
          refine wpAnyH_ready (rs := [9, 13]) (by kernel_rfl) (by simp) ?_
          refine anyH_one rfl (fun K hK => ?_) ?_
          · go_simp
            refine (rgetC_any _ (.slice B2 m2 d2) _ S p 2 (tagF a 2) f m x1 x2 x3 x4 (HX.out.c.below H3.out.below) (Nat.le_trans HL2.out (by decide)) HG1.out true HG2.out).mono ?_
            rintro e w4 ⟨rfl, hb⟩
            have H4 := Lib.hid (H3.out.quiet hb)
            clear hb H3
            refine hK.out _ _ (H4.out.at_ 1 rfl) (fun hHeld => ?_)
            clear hK K
            (try simp only [Act.put, List.setIfInBounds_toArray, List.set_cons_zero, List.set_cons_succ])
            refine tk (v := ?_) 10 ?_ ?_
            rotate_left
            · intro w hSw
              go_simp
              (try with_reducible rfl)
            (try simp only [Act.put, List.setIfInBounds_toArray, List.set_cons_zero, List.set_cons_succ])
            refine tk (v := ?_) 11 ?_ ?_
            rotate_left
            · intro w hSw
              go_simp
              (try with_reducible rfl)
            (try simp only [Act.put, List.setIfInBounds_toArray, List.set_cons_zero, List.set_cons_succ])
            refine tk (v := ?_) 12 ?_ ?_
            rotate_left
            · intro w hSw
              go_simp
              (try with_reducible rfl)
            (try simp only [Act.put, List.setIfInBounds_toArray, List.set_cons_zero, List.set_cons_succ])
            refine wpAnyH_ready (rs := [13]) (by kernel_rfl) (by simp) ?_
            refine anyH_one rfl (fun K hK => ?_) ?_
            · go_simp
              generalize hq : w4.alloc _ = w5
              have H5 := Lib.hid ((H4.out.new (b := w4.heap.size) rfl _ _).world hq)
              clear hq H4
              generalize w4.heap.size = bl at H5 ⊢
              refine hK.out _ _ (H5.out.at_ 2 rfl) (fun hHeld => ?_)
              clear hK K
              (try simp only [Act.put, List.setIfInBounds_toArray, List.set_cons_zero, List.set_cons_succ])
              refine wpAnyH_ready (rs := [14]) (by kernel_rfl) (by simp) ?_
              refine anyH_one rfl (fun K hK => ?_) ?_
              · obtain ⟨z0, z1, z2, z3, z4, z5⟩ := (H5.out.at_ 0 rfl).c6
                have y0 := (H5.out.at_ 0 rfl).fz 0; have y1 := (H5.out.at_ 0 rfl).fz 1; have y2 := (H5.out.at_ 0 rfl).fz 2; have y3 := (H5.out.at_ 0 rfl).fz 3; have y4 := (H5.out.at_ 0 rfl).fz 4; have y5 := (H5.out.at_ 0 rfl).fz 5
                go_simp
                generalize hq : (((((w5.setCell _ _).setCell _ _).setCell _ _).setCell _ _).setCell _ _).setCell _ _ = w6
                have H6 := Lib.hid (H5.out.put6 0 rfl hq)
                clear hq H5 z0 z1 z2 z3 z4 z5 y0 y1 y2 y3 y4 y5
                refine hK.out _ _ (H6.out.at_ 2 rfl) (fun hHeld => ?_)
                clear hK K
                (try simp only [Act.put, List.setIfInBounds_toArray, List.set_cons_zero, List.set_cons_succ])
                refine tk (v := ?_) 15 ?_ ?_
                rotate_left
                · intro w hSw
                  go_simp
                  (try with_reducible rfl)
                (try simp only [Act.put, List.setIfInBounds_toArray, List.set_cons_zero, List.set_cons_succ])
                refine wpAnyH_done (by kernel_rfl) ?_ _
                clear hHeld
                obtain ⟨z0, z1, z2, z3, z4, z5⟩ := (H6.out.at_ 0 rfl).c6
                obtain ⟨s0, s1, s2, s3, s4⟩ := (H6.out.at_ 1 rfl).five
                have g0 := (H6.out.at_ 1 rfl).fz 0; have g1 := (H6.out.at_ 1 rfl).fz 1; have g2 := (H6.out.at_ 1 rfl).fz 2; have g3 := (H6.out.at_ 1 rfl).fz 3; have g4 := (H6.out.at_ 1 rfl).fz 4
                go_wp2
                refine bodyPost_ret (v := .tuple #[placeV 1 f x1 x2 x3, .bool true]) ?_ rfl ⟨by rw [HE.out], ?_⟩
                · rw [results_cell_tmp rfl]; go_simp
                · exact (H6.out.put5 1 rfl rfl).below
              exact AllReadyH.nil
            exact AllReadyH.nil
          refine anyH_one rfl (fun K hK => ?_) ?_
          · go_simp
            generalize hq : w3.alloc _ = w4
            have H4 := Lib.hid ((H3.out.new (b := w3.heap.size) rfl _ _).world hq)
            clear hq H3
            generalize w3.heap.size = bl at H4 ⊢
            refine hK.out _ _ (H4.out.at_ 2 rfl) (fun hHeld => ?_)
            clear hK K
            (try simp only [Act.put, List.setIfInBounds_toArray, List.set_cons_zero, List.set_cons_succ])
            refine wpAnyH_ready (rs := [9]) (by kernel_rfl) (by simp) ?_
            refine anyH_one rfl (fun K hK => ?_) ?_
            · go_simp
              refine (rgetC_any _ (.slice B2 m2 d2) _ S p 2 (tagF a 2) f m x1 x2 x3 x4 (HX.out.c.below H4.out.below) (Nat.le_trans HL2.out (by decide)) HG1.out true HG2.out).mono ?_
              rintro e w5 ⟨rfl, hb⟩
              have H5 := Lib.hid (H4.out.quiet hb)
              clear hb H4
              refine hK.out _ _ (H5.out.at_ 2 rfl) (fun hHeld => ?_)
              clear hK K
              (try simp only [Act.put, List.setIfInBounds_toArray, List.set_cons_zero, List.set_cons_succ])
              refine tk (v := ?_) 10 ?_ ?_
              rotate_left
              · intro w hSw
                go_simp
                (try with_reducible rfl)
              (try simp only [Act.put, List.setIfInBounds_toArray, List.set_cons_zero, List.set_cons_succ])
              refine tk (v := ?_) 11 ?_ ?_
              rotate_left
              · intro w hSw
                go_simp
                (try with_reducible rfl)
              (try simp only [Act.put, List.setIfInBounds_toArray, List.set_cons_zero, List.set_cons_succ])
              refine tk (v := ?_) 12 ?_ ?_
              rotate_left
              · intro w hSw
                go_simp
                (try with_reducible rfl)
              (try simp only [Act.put, List.setIfInBounds_toArray, List.set_cons_zero, List.set_cons_succ])
              refine wpAnyH_ready (rs := [14]) (by kernel_rfl) (by simp) ?_
              refine anyH_one rfl (fun K hK => ?_) ?_
              · obtain ⟨z0, z1, z2, z3, z4, z5⟩ := (H5.out.at_ 0 rfl).c6
                have y0 := (H5.out.at_ 0 rfl).fz 0; have y1 := (H5.out.at_ 0 rfl).fz 1; have y2 := (H5.out.at_ 0 rfl).fz 2; have y3 := (H5.out.at_ 0 rfl).fz 3; have y4 := (H5.out.at_ 0 rfl).fz 4; have y5 := (H5.out.at_ 0 rfl).fz 5
                go_simp
                generalize hq : (((((w5.setCell _ _).setCell _ _).setCell _ _).setCell _ _).setCell _ _).setCell _ _ = w6
                have H6 := Lib.hid (H5.out.put6 0 rfl hq)
                clear hq H5 z0 z1 z2 z3 z4 z5 y0 y1 y2 y3 y4 y5
                refine hK.out _ _ (H6.out.at_ 2 rfl) (fun hHeld => ?_)
                clear hK K
                (try simp only [Act.put, List.setIfInBounds_toArray, List.set_cons_zero, List.set_cons_succ])
                refine tk (v := ?_) 15 ?_ ?_
                rotate_left
                · intro w hSw
                  go_simp
                  (try with_reducible rfl)
                (try simp only [Act.put, List.setIfInBounds_toArray, List.set_cons_zero, List.set_cons_succ])
                refine wpAnyH_done (by kernel_rfl) ?_ _
                clear hHeld
                obtain ⟨z0, z1, z2, z3, z4, z5⟩ := (H6.out.at_ 0 rfl).c6
                obtain ⟨s0, s1, s2, s3, s4⟩ := (H6.out.at_ 1 rfl).five
                have g0 := (H6.out.at_ 1 rfl).fz 0; have g1 := (H6.out.at_ 1 rfl).fz 1; have g2 := (H6.out.at_ 1 rfl).fz 2; have g3 := (H6.out.at_ 1 rfl).fz 3; have g4 := (H6.out.at_ 1 rfl).fz 4
                go_wp2
                refine bodyPost_ret (v := .tuple #[placeV 1 f x1 x2 x3, .bool true]) ?_ rfl ⟨by rw [HE.out], ?_⟩
                · rw [results_cell_tmp rfl]; go_simp
                · exact (H6.out.put5 1 rfl rfl).below
              exact AllReadyH.nil
            exact AllReadyH.nil
          exact AllReadyH.nil
        refine anyH_one rfl (fun K hK => ?_) ?_
        · go_simp
          generalize hq : w2.alloc _ = w3
          have H3 := Lib.hid ((H2.out.new (b := w2.heap.size) rfl _ _).world hq)
          clear hq H2
          generalize w2.heap.size = bl at H3 ⊢
          refine hK.out _ _ (H3.out.at_ 2 rfl) (fun hHeld => ?_)
          clear hK K
          (try simp only [Act.put, List.setIfInBounds_toArray, List.set_cons_zero, List.set_cons_succ])
          refine wpAnyH_ready (rs := [8]) (by kernel_rfl) (by simp) ?_
          refine anyH_one rfl (fun K hK => ?_) ?_
          · go_simp
            refine (rkey_any p 2 a _ HAA.out (by decide) (by decide)).mono ?_
            rintro e w4 ⟨rfl, hb⟩
            have H4 := Lib.hid (H3.out.quiet hb)
            clear hb H3
            refine hK.out _ _ (H4.out.at_ 2 rfl) (fun hHeld => ?_)
            clear hK K
            (try simp only [Act.put, List.setIfInBounds_toArray, List.set_cons_zero, List.set_cons_succ])
            refine wpAnyH_ready (rs := [9]) (by kernel_rfl) (by simp) ?_
            refine anyH_one rfl (fun K hK => ?_) ?_
            · go_simp
              refine (rgetC_any _ (.slice B2 m2 d2) _ S p 2 (tagF a 2) f m x1 x2 x3 x4 (HX.out.c.below H4.out.below) (Nat.le_trans HL2.out (by decide)) HG1.out true HG2.out).mono ?_
              rintro e w5 ⟨rfl, hb⟩
              have H5 := Lib.hid (H4.out.quiet hb)
              clear hb H4
              refine hK.out _ _ (H5.out.at_ 2 rfl) (fun hHeld => ?_)
              clear hK K
              (try simp only [Act.put, List.setIfInBounds_toArray, List.set_cons_zero, List.set_cons_succ])
              refine tk (v := ?_) 10 ?_ ?_
              rotate_left
              · intro w hSw
                go_simp
                (try with_reducible rfl)
              (try simp only [Act.put, List.setIfInBounds_toArray, List.set_cons_zero, List.set_cons_succ])
              refine tk (v := ?_) 11 ?_ ?_
              rotate_left
              · intro w hSw
                go_simp
                (try with_reducible rfl)
              (try simp only [Act.put, List.setIfInBounds_toArray, List.set_cons_zero, List.set_cons_succ])
              refine tk (v := ?_) 12 ?_ ?_
              rotate_left
              · intro w hSw
                go_simp
                (try with_reducible rfl)
              (try simp only [Act.put, List.setIfInBounds_toArray, List.set_cons_zero, List.set_cons_succ])
              refine wpAnyH_ready (rs := [14]) (by kernel_rfl) (by simp) ?_
              refine anyH_one rfl (fun K hK => ?_) ?_
              · obtain ⟨z0, z1, z2, z3, z4, z5⟩ := (H5.out.at_ 0 rfl).c6
                have y0 := (H5.out.at_ 0 rfl).fz 0; have y1 := (H5.out.at_ 0 rfl).fz 1; have y2 := (H5.out.at_ 0 rfl).fz 2; have y3 := (H5.out.at_ 0 rfl).fz 3; have y4 := (H5.out.at_ 0 rfl).fz 4; have y5 := (H5.out.at_ 0 rfl).fz 5
                go_simp
                generalize hq : (((((w5.setCell _ _).setCell _ _).setCell _ _).setCell _ _).setCell _ _).setCell _ _ = w6
                have H6 := Lib.hid (H5.out.put6 0 rfl hq)
                clear hq H5 z0 z1 z2 z3 z4 z5 y0 y1 y2 y3 y4 y5
                refine hK.out _ _ (H6.out.at_ 2 rfl) (fun hHeld => ?_)
                clear hK K
                (try simp only [Act.put, List.setIfInBounds_toArray, List.set_cons_zero, List.set_cons_succ])
                refine tk (v := ?_) 15 ?_ ?_
                rotate_left
                · intro w hSw
                  go_simp
                  (try with_reducible rfl)
                (try simp only [Act.put, List.setIfInBounds_toArray, List.set_cons_zero, List.set_cons_succ])
                refine wpAnyH_done (by kernel_rfl) ?_ _
                clear hHeld
                obtain ⟨z0, z1, z2, z3, z4, z5⟩ := (H6.out.at_ 0 rfl).c6
                obtain ⟨s0, s1, s2, s3, s4⟩ := (H6.out.at_ 1 rfl).five
                have g0 := (H6.out.at_ 1 rfl).fz 0; have g1 := (H6.out.at_ 1 rfl).fz 1; have g2 := (H6.out.at_ 1 rfl).fz 2; have g3 := (H6.out.at_ 1 rfl).fz 3; have g4 := (H6.out.at_ 1 rfl).fz 4
                go_wp2
                refine bodyPost_ret (v := .tuple #[placeV 1 f x1 x2 x3, .bool true]) ?_ rfl ⟨by rw [HE.out], ?_⟩
                · rw [results_cell_tmp rfl]; go_simp
                · exact (H6.out.put5 1 rfl rfl).below
              exact AllReadyH.nil
            exact AllReadyH.nil
          exact AllReadyH.nil
        exact AllReadyH.nil
    · cases hg : getK (L 1) (p, 3, tagF a 3) with
      | none =>
        have HG1 : Hid ((getK (L 1) (p, 3, tagF a 3)).getD zL = (0, false, false, false, false, 0)) := Lib.hid (by rw [hg]; rfl)
        have HG2 : Hid ((getK (L 1) (p, 3, tagF a 3)).isSome = false) := Lib.hid (by rw [hg]; rfl)
        have HDN : Hid (deepN L p a (5 - (4 : Int)).toNat = o) := Lib.hid (by
          rw [← HD.out]
          have hn : deepN L p a 2 = (match getK (L 1) (p, 3, tagF a 3) with | some x => some (2, x) | none => deepN L p a 1) := rfl
          rw [hg] at hn
          exact hn.symm)
        clear hg HD
        have ew : IntKind.i64.wrap 1 = 1 := by decide
        go_upto_region 4 with fail
        refine wp_region_held_drew (S := fun w' => Blk w' b #[(.slice B0 m0 d0), .int .i64 S, (.slice B1 m1 d1), .int .i64 S, (.slice B2 m2 d2), .int .i64 S] 31) (by kernel_rfl) ((H1.out.quiet (Kept.drew0 wr)).at_ 1 rfl) (fun hHeld => ?_)
        have H2 := Lib.hid (H1.out.quiet (Kept.drew0 wr))
        clear H1
        generalize wr.drew = w2 at *
        refine tk (v := ?_) 0 ?_ ?_
        rotate_left
        · intro w hSw
          go_simp
          (try with_reducible rfl)
        (try simp only [Act.put, List.setIfInBounds_toArray, List.set_cons_zero, List.set_cons_succ])
        refine tk (v := ?_) 1 ?_ ?_
        rotate_left
        · intro w hSw
          go_simp
          (try with_reducible rfl)
        (try simp only [Act.put, List.setIfInBounds_toArray, List.set_cons_zero, List.set_cons_succ])
        refine tk (v := ?_) 2 ?_ ?_
        rotate_left
        · intro w hSw
          go_simp
          (try with_reducible rfl)
        (try simp only [Act.put, List.setIfInBounds_toArray, List.set_cons_zero, List.set_cons_succ])
        refine tk (v := ?_) 3 ?_ ?_
        rotate_left
        · intro w hSw
          go_simp
          (try with_reducible rfl)
        (try simp only [Act.put, List.setIfInBounds_toArray, List.set_cons_zero, List.set_cons_succ])
        refine tk (v := ?_) 4 ?_ ?_
        rotate_left
        · intro w hSw
          obtain ⟨a0, a1, a2, a3, a4, a5⟩ := hSw.c6
          go_simp
          (try with_reducible rfl)
        (try simp only [Act.put, List.setIfInBounds_toArray, List.set_cons_zero, List.set_cons_succ])
        refine tk (v := ?_) 5 ?_ ?_
        rotate_left
        · intro w hSw
          go_simp
          (try with_reducible rfl)
        (try simp only [Act.put, List.setIfInBounds_toArray, List.set_cons_zero, List.set_cons_succ])
        refine tk (v := ?_) 6 ?_ ?_
        rotate_left
        · intro w hSw
          go_simp
          (try with_reducible rfl)
        (try simp only [Act.put, List.setIfInBounds_toArray, List.set_cons_zero, List.set_cons_succ])
        refine tk (v := ?_) 7 ?_ ?_
        rotate_left
        · intro w hSw
          go_simp
          (try with_reducible rfl)
        (try simp only [Act.put, List.setIfInBounds_toArray, List.set_cons_zero, List.set_cons_succ])
        refine wpAnyH_ready (rs := [8, 13]) (by kernel_rfl) (by simp) ?_
        refine anyH_one rfl (fun K hK => ?_) ?_
        · go_simp
          refine (rkey_any p 3 a _ HAA.out (by decide) (by decide)).mono ?_
          rintro e w3 ⟨rfl, hb⟩
          have H3 := Lib.hid (H2.out.quiet hb)
          clear hb H2
          refine hK.out _ _ (H3.out.at_ 1 rfl) (fun hHeld => ?_)
          clear hK K
          (try simp only [Act.put, List.setIfInBounds_toArray, List.set_cons_zero, List.set_cons_succ])
          refine wpAnyH_ready (rs := [9, 13]) (by kernel_rfl) (by simp) ?_
          refine anyH_one rfl (fun K hK => ?_) ?_
          · go_simp
            refine (rgetC_any _ (.slice B1 m1 d1) _ S p 3 (tagF a 3) 0 0 false false false false (HX.out.b.below H3.out.below) (Nat.le_trans HL1.out (by decide)) HG1.out false HG2.out).mono ?_
            rintro e w4 ⟨rfl, hb⟩
            have H4 := Lib.hid (H3.out.quiet hb)
            clear hb H3
            refine hK.out _ _ (H4.out.at_ 1 rfl) (fun hHeld => ?_)
            clear hK K
            (try simp only [Act.put, List.setIfInBounds_toArray, List.set_cons_zero, List.set_cons_succ])
            refine tk (v := ?_) 10 ?_ ?_
            rotate_left
            · intro w hSw
              go_simp
              (try with_reducible rfl)
            (try simp only [Act.put, List.setIfInBounds_toArray, List.set_cons_zero, List.set_cons_succ])
            refine tk (v := ?_) 11 ?_ ?_
            rotate_left
            · intro w hSw
              go_simp
              (try with_reducible rfl)
            (try simp only [Act.put, List.setIfInBounds_toArray, List.set_cons_zero, List.set_cons_succ])
            refine tk (v := ?_) 12 ?_ ?_
            rotate_left
            · intro w hSw
              go_simp
              (try with_reducible rfl)
            (try simp only [Act.put, List.setIfInBounds_toArray, List.set_cons_zero, List.set_cons_succ])
            refine wpAnyH_ready (rs := [13]) (by kernel_rfl) (by simp) ?_
            refine anyH_one rfl (fun K hK => ?_) ?_
            · go_simp
              generalize hq : w4.alloc _ = w5
              have H5 := Lib.hid ((H4.out.new (b := w4.heap.size) rfl _ _).world hq)
              clear hq H4
              generalize w4.heap.size = bl at H5 ⊢
              refine hK.out _ _ (H5.out.at_ 2 rfl) (fun hHeld => ?_)
              clear hK K
              (try simp only [Act.put, List.setIfInBounds_toArray, List.set_cons_zero, List.set_cons_succ])
              refine wpAnyH_ready (rs := [14]) (by kernel_rfl) (by simp) ?_
              refine anyH_one rfl (fun K hK => ?_) ?_
              · obtain ⟨z0, z1, z2, z3, z4, z5⟩ := (H5.out.at_ 0 rfl).c6
                have y0 := (H5.out.at_ 0 rfl).fz 0; have y1 := (H5.out.at_ 0 rfl).fz 1; have y2 := (H5.out.at_ 0 rfl).fz 2; have y3 := (H5.out.at_ 0 rfl).fz 3; have y4 := (H5.out.at_ 0 rfl).fz 4; have y5 := (H5.out.at_ 0 rfl).fz 5
                go_simp
                generalize hq : (((((w5.setCell _ _).setCell _ _).setCell _ _).setCell _ _).setCell _ _).setCell _ _ = w6
                have H6 := Lib.hid (H5.out.put6 0 rfl hq)
                clear hq H5 z0 z1 z2 z3 z4 z5 y0 y1 y2 y3 y4 y5
                refine hK.out _ _ (H6.out.at_ 2 rfl) (fun hHeld => ?_)
                clear hK K
                (try simp only [Act.put, List.setIfInBounds_toArray, List.set_cons_zero, List.set_cons_succ])
                refine tk (v := ?_) 15 ?_ ?_
                rotate_left
                · intro w hSw
                  go_simp
                  (try with_reducible rfl)
                (try simp only [Act.put, List.setIfInBounds_toArray, List.set_cons_zero, List.set_cons_succ])
                refine wpAnyH_done (by kernel_rfl) ?_ _
                clear hHeld
                have HN := Lib.hid (H6.out.pick [1, 2] [])
                clear H6
                go_wp2
                go_roundw
                case rel => exact ⟨4, by decide, by decide, by go_num, HDN, HN⟩
                case measure => simp [intOf]
              exact AllReadyH.nil
            exact AllReadyH.nil
          refine anyH_one rfl (fun K hK => ?_) ?_
          · go_simp
            generalize hq : w3.alloc _ = w4
            have H4 := Lib.hid ((H3.out.new (b := w3.heap.size) rfl _ _).world hq)
            clear hq H3
            generalize w3.heap.size = bl at H4 ⊢
            refine hK.out _ _ (H4.out.at_ 2 rfl) (fun hHeld => ?_)
            clear hK K
            (try simp only [Act.put, List.setIfInBounds_toArray, List.set_cons_zero, List.set_cons_succ])
            refine wpAnyH_ready (rs := [9]) (by kernel_rfl) (by simp) ?_
            refine anyH_one rfl (fun K hK => ?_) ?_
            · go_simp
              refine (rgetC_any _ (.slice B1 m1 d1) _ S p 3 (tagF a 3) 0 0 false false false false (HX.out.b.below H4.out.below) (Nat.le_trans HL1.out (by decide)) HG1.out false HG2.out).mono ?_
              rintro e w5 ⟨rfl, hb⟩
              have H5 := Lib.hid (H4.out.quiet hb)
              clear hb H4
              refine hK.out _ _ (H5.out.at_ 2 rfl) (fun hHeld => ?_)
              clear hK K
              (try simp only [Act.put, List.setIfInBounds_toArray, List.set_cons_zero, List.set_cons_succ])
              refine tk (v := ?_) 10 ?_ ?_
              rotate_left
              · intro w hSw
                go_simp
                (try with_reducible rfl)
              (try simp only [Act.put, List.setIfInBounds_toArray, List.set_cons_zero, List.set_cons_succ])
              refine tk (v := ?_) 11 ?_ ?_
              rotate_left
              · intro w hSw
                go_simp
                (try with_reducible rfl)
              (try simp only [Act.put, List.setIfInBounds_toArray, List.set_cons_zero, List.set_cons_succ])
              refine tk (v := ?_) 12 ?_ ?_
              rotate_left
              · intro w hSw
                go_simp
                (try with_reducible rfl)
              (try simp only [Act.put, List.setIfInBounds_toArray, List.set_cons_zero, List.set_cons_succ])
              refine wpAnyH_ready (rs := [14]) (by kernel_rfl) (by simp) ?_
              refine anyH_one rfl (fun K hK => ?_) ?_
              · obtain ⟨z0, z1, z2, z3, z4, z5⟩ := (H5.out.at_ 0 rfl).c6
                have y0 := (H5.out.at_ 0 rfl).fz 0; have y1 := (H5.out.at_ 0 rfl).fz 1; have y2 := (H5.out.at_ 0 rfl).fz 2; have y3 := (H5.out.at_ 0 rfl).fz 3; have y4 := (H5.out.at_ 0 rfl).fz 4; have y5 := (H5.out.at_ 0 rfl).fz 5
                go_simp
                generalize hq : (((((w5.setCell _ _).setCell _ _).setCell _ _).setCell _ _).setCell _ _).setCell _ _ = w6
                have H6 := Lib.hid (H5.out.put6 0 rfl hq)
                clear hq H5 z0 z1 z2 z3 z4 z5 y0 y1 y2 y3 y4 y5
                refine hK.out _ _ (H6.out.at_ 2 rfl) (fun hHeld => ?_)
                clear hK K
                (try simp only [Act.put, List.setIfInBounds_toArray, List.set_cons_zero, List.set_cons_succ])
                refine tk (v := ?_) 15 ?_ ?_
                rotate_left
                · intro w hSw
                  go_simp
                  (try with_reducible rfl)
                (try simp only [Act.put, List.setIfInBounds_toArray, List.set_cons_zero, List.set_cons_succ])
                refine wpAnyH_done (by kernel_rfl) ?_ _
                clear hHeld
                have HN := Lib.hid (H6.out.pick [1, 2] [])
                clear H6
                go_wp2
                go_roundw
                case rel => exact ⟨4, by decide, by decide, by go_num, HDN, HN⟩
                case measure => simp [intOf]
              exact AllReadyH.nil
            exact AllReadyH.nil
          exact AllReadyH.nil
        refine anyH_one rfl (fun K hK => ?_) ?_
        · go_simp
          generalize hq : w2.alloc _ = w3
          have H3 := Lib.hid ((H2.out.new (b := w2.heap.size) rfl _ _).world hq)
          clear hq H2
          generalize w2.heap.size = bl at H3 ⊢
          refine hK.out _ _ (H3.out.at_ 2 rfl) (fun hHeld => ?_)
          clear hK K
          (try simp only [Act.put, List.setIfInBounds_toArray, List.set_cons_zero, List.set_cons_succ])
          refine wpAnyH_ready (rs := [8]) (by kernel_rfl) (by simp) ?_
          refine anyH_one rfl (fun K hK => ?_) ?_
          · go_simp
            refine (rkey_any p 3 a _ HAA.out (by decide) (by decide)).mono ?_
            rintro e w4 ⟨rfl, hb⟩
            have H4 := Lib.hid (H3.out.quiet hb)
            clear hb H3
            refine hK.out _ _ (H4.out.at_ 2 rfl) (fun hHeld => ?_)
            clear hK K
            (try simp only [Act.put, List.setIfInBounds_toArray, List.set_cons_zero, List.set_cons_succ])
            refine wpAnyH_ready (rs := [9]) (by kernel_rfl) (by simp) ?_
            refine anyH_one rfl (fun K hK => ?_) ?_
            · go_simp
              refine (rgetC_any _ (.slice B1 m1 d1) _ S p 3 (tagF a 3) 0 0 false false false false (HX.out.b.below H4.out.below) (Nat.le_trans HL1.out (by decide)) HG1.out false HG2.out).mono ?_
              rintro e w5 ⟨rfl, hb⟩
              have H5 := Lib.hid (H4.out.quiet hb)
              clear hb H4
              refine hK.out _ _ (H5.out.at_ 2 rfl) (fun hHeld => ?_)
              clear hK K
              (try simp only [Act.put, List.setIfInBounds_toArray, List.set_cons_zero, List.set_cons_succ])
              refine tk (v := ?_) 10 ?_ ?_
              rotate_left
              · intro w hSw
                go_simp
                (try with_reducible rfl)
              (try simp only [Act.put, List.setIfInBounds_toArray, List.set_cons_zero, List.set_cons_succ])
              refine tk (v := ?_) 11 ?_ ?_
              rotate_left
              · intro w hSw
                go_simp
                (try with_reducible rfl)
              (try simp only [Act.put, List.setIfInBounds_toArray, List.set_cons_zero, List.set_cons_succ])
              refine tk (v := ?_) 12 ?_ ?_
              rotate_left
              · intro w hSw
                go_simp
                (try with_reducible rfl)
              (try simp only [Act.put, List.setIfInBounds_toArray, List.set_cons_zero, List.set_cons_succ])
              refine wpAnyH_ready (rs := [14]) (by kernel_rfl) (by simp) ?_
              refine anyH_one rfl (fun K hK => ?_) ?_
              · obtain ⟨z0, z1, z2, z3, z4, z5⟩ := (H5.out.at_ 0 rfl).c6
                have y0 := (H5.out.at_ 0 rfl).fz 0; have y1 := (H5.out.at_ 0 rfl).fz 1; have y2 := (H5.out.at_ 0 rfl).fz 2; have y3 := (H5.out.at_ 0 rfl).fz 3; have y4 := (H5.out.at_ 0 rfl).fz 4; have y5 := (H5.out.at_ 0 rfl).fz 5
                go_simp
                generalize hq : (((((w5.setCell _ _).setCell _ _).setCell _ _).setCell _ _).setCell _ _).setCell _ _ = w6
                have H6 := Lib.hid (H5.out.put6 0 rfl hq)
                clear hq H5 z0 z1 z2 z3 z4 z5 y0 y1 y2 y3 y4 y5
                refine hK.out _ _ (H6.out.at_ 2 rfl) (fun hHeld => ?_)
                clear hK K
                (try simp only [Act.put, List.setIfInBounds_toArray, List.set_cons_zero, List.set_cons_succ])
                refine tk (v := ?_) 15 ?_ ?_
                rotate_left
                · intro w hSw
                  go_simp
                  (try with_reducible rfl)
                (try simp only [Act.put, List.setIfInBounds_toArray, List.set_cons_zero, List.set_cons_succ])
                refine wpAnyH_done (by kernel_rfl) ?_ _
                clear hHeld
                have HN := Lib.hid (H6.out.pick [1, 2] [])
                clear H6
                go_wp2
                go_roundw
                case rel => exact ⟨4, by decide, by decide, by go_num, HDN, HN⟩
                case measure => simp [intOf]
              exact AllReadyH.nil
            exact AllReadyH.nil
          exact AllReadyH.nil
        exact AllReadyH.nil
      | some y =>
        obtain ⟨f, x1, x2, x3, x4, m⟩ := y
        have HG1 : Hid ((getK (L 1) (p, 3, tagF a 3)).getD zL = (f, x1, x2, x3, x4, m)) := Lib.hid (by rw [hg]; rfl)
        have HG2 : Hid ((getK (L 1) (p, 3, tagF a 3)).isSome = true) := Lib.hid (by rw [hg]; rfl)
        have HE : Hid (deepV o = .tuple #[placeV 2 f x1 x2 x3, .bool true]) := Lib.hid (by
          rw [← HD.out]
          have hn : deepN L p a 2 = (match getK (L 1) (p, 3, tagF a 3) with | some x => some (2, x) | none => deepN L p a 1) := rfl
          rw [hg] at hn
          exact (congrArg deepV hn).trans rfl)
        clear hg HD
        have ew : IntKind.i64.wrap 1 = 1 := by decide
        go_upto_region 4 with fail
        refine wp_region_held_drew (S := fun w' => Blk w' b #[(.slice B0 m0 d0), .int .i64 S, (.slice B1 m1 d1), .int .i64 S, (.slice B2 m2 d2), .int .i64 S] 31) (by kernel_rfl) ((H1.out.quiet (Kept.drew0 wr)).at_ 1 rfl) (fun hHeld => ?_)
        have H2 := Lib.hid (H1.out.quiet (Kept.drew0 wr))
        clear H1
        generalize wr.drew = w2 at *
        refine tk (v := ?_) 0 ?_ ?_
        rotate_left
        · intro w hSw
          go_simp
          (try with_reducible rfl)
        (try simp only [Act.put, List.setIfInBounds_toArray, List.set_cons_zero, List.set_cons_succ])
        refine tk (v := ?_) 1 ?_ ?_
        rotate_left
        · intro w hSw
          go_simp
          (try with_reducible rfl)
        (try simp only [Act.put, List.setIfInBounds_toArray, List.set_cons_zero, List.set_cons_succ])
        refine tk (v := ?_) 2 ?_ ?_
        rotate_left
        · intro w hSw
          go_simp
          (try with_reducible rfl)
        (try simp only [Act.put, List.setIfInBounds_toArray, List.set_cons_zero, List.set_cons_succ])
        refine tk (v := ?_) 3 ?_ ?_
        rotate_left
        · intro w hSw
          go_simp
          (try with_reducible rfl)
        (try simp only [Act.put, List.setIfInBounds_toArray, List.set_cons_zero, List.set_cons_succ])
        refine tk (v := ?_) 4 ?_ ?_
        rotate_left
        · intro w hSw
          obtain ⟨a0, a1, a2, a3, a4, a5⟩ := hSw.c6
          go_simp
          (try with_reducible rfl)
        (try simp only [Act.put, List.setIfInBounds_toArray, List.set_cons_zero, List.set_cons_succ])
        refine tk (v := ?_) 5 ?_ ?_
        rotate_left
        · intro w hSw
          go_simp
          (try with_reducible rfl)
        (try simp only [Act.put, List.setIfInBounds_toArray, List.set_cons_zero, List.set_cons_succ])
        refine tk (v := ?_) 6 ?_ ?_
        rotate_left
        · intro w hSw
          go_simp
          (try with_reducible rfl)
        (try simp only [Act.put, List.setIfInBounds_toArray, List.set_cons_zero, List.set_cons_succ])
        refine tk (v := ?_) 7 ?_ ?_
        rotate_left
        · intro w hSw
          go_simp
          (try with_reducible rfl)
        (try simp only [Act.put, List.setIfInBounds_toArray, List.set_cons_zero, List.set_cons_succ])
        refine wpAnyH_ready (rs := [8, 13]) (by kernel_rfl) (by simp) ?_
        refine anyH_one rfl (fun K hK => ?_) ?_
        · go_simp
          refine (rkey_any p 3 a _ HAA.out (by decide) (by decide)).mono ?_
          rintro e w3 ⟨rfl, hb⟩
          have H3 := Lib.hid (H2.out.quiet hb)
          clear hb H2
          refine hK.out _ _ (H3.out.at_ 1 rfl) (fun hHeld => ?_)
          clear hK K
          (try simp only [Act.put, List.setIfInBounds_toArray, List.set_cons_zero, List.set_cons_succ])
          refine wpAnyH_ready (rs := [9, 13]) (by kernel_rfl) (by simp) ?_
          refine anyH_one rfl (fun K hK => ?_) ?_
          · go_simp
            refine (rgetC_any _ (.slice B1 m1 d1) _ S p 3 (tagF a 3) f m x1 x2 x3 x4 (HX.out.b.below H3.out.below) (Nat.le_trans HL1.out (by decide)) HG1.out true HG2.out).mono ?_
            rintro e w4 ⟨rfl, hb⟩
            have H4 := Lib.hid (H3.out.quiet hb)
            clear hb H3
            refine hK.out _ _ (H4.out.at_ 1 rfl) (fun hHeld => ?_)
            clear hK K
            (try simp only [Act.put, List.setIfInBounds_toArray, List.set_cons_zero, List.set_cons_succ])
            refine tk (v := ?_) 10 ?_ ?_
            rotate_left
            · intro w hSw
              go_simp
              (try with_reducible rfl)
            (try simp only [Act.put, List.setIfInBounds_toArray, List.set_cons_zero, List.set_cons_succ])
            refine tk (v := ?_) 11 ?_ ?_
            rotate_left
            · intro w hSw
              go_simp
              (try with_reducible rfl)
            (try simp only [Act.put, List.setIfInBounds_toArray, List.set_cons_zero, List.set_cons_succ])
            refine tk (v := ?_) 12 ?_ ?_
            rotate_left
            · intro w hSw
              go_simp
              (try with_reducible rfl)
            (try simp only [Act.put, List.setIfInBounds_toArray, List.set_cons_zero, List.set_cons_succ])
            refine wpAnyH_ready (rs := [13]) (by kernel_rfl) (by simp) ?_
            refine anyH_one rfl (fun K hK => ?_) ?_
            · go_simp
              generalize hq : w4.alloc _ = w5
              have H5 := Lib.hid ((H4.out.new (b := w4.heap.size) rfl _ _).world hq)
              clear hq H4
              generalize w4.heap.size = bl at H5 ⊢
              refine hK.out _ _ (H5.out.at_ 2 rfl) (fun hHeld => ?_)
              clear hK K
              (try simp only [Act.put, List.setIfInBounds_toArray, List.set_cons_zero, List.set_cons_succ])
              refine wpAnyH_ready (rs := [14]) (by kernel_rfl) (by simp) ?_
              refine anyH_one rfl (fun K hK => ?_) ?_
              · obtain ⟨z0, z1, z2, z3, z4, z5⟩ := (H5.out.at_ 0 rfl).c6
                have y0 := (H5.out.at_ 0 rfl).fz 0; have y1 := (H5.out.at_ 0 rfl).fz 1; have y2 := (H5.out.at_ 0 rfl).fz 2; have y3 := (H5.out.at_ 0 rfl).fz 3; have y4 := (H5.out.at_ 0 rfl).fz 4; have y5 := (H5.out.at_ 0 rfl).fz 5
                go_simp
                generalize hq : (((((w5.setCell _ _).setCell _ _).setCell _ _).setCell _ _).setCell _ _).setCell _ _ = w6
                have H6 := Lib.hid (H5.out.put6 0 rfl hq)
                clear hq H5 z0 z1 z2 z3 z4 z5 y0 y1 y2 y3 y4 y5
                refine hK.out _ _ (H6.out.at_ 2 rfl) (fun hHeld => ?_)
                clear hK K
                (try simp only [Act.put, List.setIfInBounds_toArray, List.set_cons_zero, List.set_cons_succ])
                refine tk (v := ?_) 15 ?_ ?_
                rotate_left
                · intro w hSw
                  go_simp
                  (try with_reducible rfl)
                (try simp only [Act.put, List.setIfInBounds_toArray, List.set_cons_zero, List.set_cons_succ])
                refine wpAnyH_done (by kernel_rfl) ?_ _
                clear hHeld
                obtain ⟨z0, z1, z2, z3, z4, z5⟩ := (H6.out.at_ 0 rfl).c6
                obtain ⟨s0, s1, s2, s3, s4⟩ := (H6.out.at_ 1 rfl).five
                have g0 := (H6.out.at_ 1 rfl).fz 0; have g1 := (H6.out.at_ 1 rfl).fz 1; have g2 := (H6.out.at_ 1 rfl).fz 2; have g3 := (H6.out.at_ 1 rfl).fz 3; have g4 := (H6.out.at_ 1 rfl).fz 4
                go_wp2
                refine bodyPost_ret (v := .tuple #[placeV 2 f x1 x2 x3, .bool true]) ?_ rfl ⟨by rw [HE.out], ?_⟩
                · rw [results_cell_tmp rfl]; go_simp
                · exact (H6.out.put5 1 rfl rfl).below
              exact AllReadyH.nil
            exact AllReadyH.nil
          refine anyH_one rfl (fun K hK => ?_) ?_
          · go_simp
            generalize hq : w3.alloc _ = w4
            have H4 := Lib.hid ((H3.out.new (b := w3.heap.size) rfl _ _).world hq)
            clear hq H3
            generalize w3.heap.size = bl at H4 ⊢
            refine hK.out _ _ (H4.out.at_ 2 rfl) (fun hHeld => ?_)
            clear hK K
            (try simp only [Act.put, List.setIfInBounds_toArray, List.set_cons_zero, List.set_cons_succ])
            refine wpAnyH_ready (rs := [9]) (by kernel_rfl) (by simp) ?_
            refine anyH_one rfl (fun K hK => ?_) ?_
            · go_simp
              refine (rgetC_any _ (.slice B1 m1 d1) _ S p 3 (tagF a 3) f m x1 x2 x3 x4 (HX.out.b.below H4.out.below) (Nat.le_trans HL1.out (by decide)) HG1.out true HG2.out).mono ?_
              rintro e w5 ⟨rfl, hb⟩
              have H5 := Lib.hid (H4.out.quiet hb)
              clear hb H4
              refine hK.out _ _ (H5.out.at_ 2 rfl) (fun hHeld => ?_)
              clear hK K
              (try simp only [Act.put, List.setIfInBounds_toArray, List.set_cons_zero, List.set_cons_succ])
              refine tk (v := ?_) 10 ?_ ?_
              rotate_left
              · intro w hSw
                go_simp
                (try with_reducible rfl)
              (try simp only [Act.put, List.setIfInBounds_toArray, List.set_cons_zero, List.set_cons_succ])
              refine tk (v := ?_) 11 ?_ ?_
              rotate_left
              · intro w hSw
                go_simp
                (try with_reducible rfl)
              (try simp only [Act.put, List.setIfInBounds_toArray, List.set_cons_zero, List.set_cons_succ])
              refine tk (v := ?_) 12 ?_ ?_
              rotate_left
              · intro w hSw
                go_simp
                (try with_reducible rfl)
              (try simp only [Act.put, List.setIfInBounds_toArray, List.set_cons_zero, List.set_cons_succ])
              refine wpAnyH_ready (rs := [14]) (by kernel_rfl) (by simp) ?_
              refine anyH_one rfl (fun K hK => ?_) ?_
              · obtain ⟨z0, z1, z2, z3, z4, z5⟩ := (H5.out.at_ 0 rfl).c6
                have y0 := (H5.out.at_ 0 rfl).fz 0; have y1 := (H5.out.at_ 0 rfl).fz 1; have y2 := (H5.out.at_ 0 rfl).fz 2; have y3 := (H5.out.at_ 0 rfl).fz 3; have y4 := (H5.out.at_ 0 rfl).fz 4; have y5 := (H5.out.at_ 0 rfl).fz 5
                go_simp
                generalize hq : (((((w5.setCell _ _).setCell _ _).setCell _ _).setCell _ _).setCell _ _).setCell _ _ = w6
                have H6 := Lib.hid (H5.out.put6 0 rfl hq)
                clear hq H5 z0 z1 z2 z3 z4 z5 y0 y1 y2 y3 y4 y5
                refine hK.out _ _ (H6.out.at_ 2 rfl) (fun hHeld => ?_)
                clear hK K
                (try simp only [Act.put, List.setIfInBounds_toArray, List.set_cons_zero, List.set_cons_succ])
                refine tk (v := ?_) 15 ?_ ?_
                rotate_left
                · intro w hSw
                  go_simp
                  (try with_reducible rfl)
                (try simp only [Act.put, List.setIfInBounds_toArray, List.set_cons_zero, List.set_cons_succ])
                refine wpAnyH_done (by kernel_rfl) ?_ _
                clear hHeld
                obtain ⟨z0, z1, z2, z3, z4, z5⟩ := (H6.out.at_ 0 rfl).c6
                obtain ⟨s0, s1, s2, s3, s4⟩ := (H6.out.at_ 1 rfl).five
                have g0 := (H6.out.at_ 1 rfl).fz 0; have g1 := (H6.out.at_ 1 rfl).fz 1; have g2 := (H6.out.at_ 1 rfl).fz 2; have g3 := (H6.out.at_ 1 rfl).fz 3; have g4 := (H6.out.at_ 1 rfl).fz 4
                go_wp2
                refine bodyPost_ret (v := .tuple #[placeV 2 f x1 x2 x3, .bool true]) ?_ rfl ⟨by rw [HE.out], ?_⟩
                · rw [results_cell_tmp rfl]; go_simp
                · exact (H6.out.put5 1 rfl rfl).below
              exact AllReadyH.nil
            exact AllReadyH.nil
          exact AllReadyH.nil
        refine anyH_one rfl (fun K hK => ?_) ?_
        · go_simp
          generalize hq : w2.alloc _ = w3
          have H3 := Lib.hid ((H2.out.new (b := w2.heap.size) rfl _ _).world hq)
          clear hq H2
          generalize w2.heap.size = bl at H3 ⊢
          refine hK.out _ _ (H3.out.at_ 2 rfl) (fun hHeld => ?_)
          clear hK K
          (try simp only [Act.put, List.setIfInBounds_toArray, List.set_cons_zero, List.set_cons_succ])
          refine wpAnyH_ready (rs := [8]) (by kernel_rfl) (by simp) ?_
          refine anyH_one rfl (fun K hK => ?_) ?_
          · go_simp
            refine (rkey_any p 3 a _ HAA.out (by decide) (by decide)).mono ?_
            rintro e w4 ⟨rfl, hb⟩
            have H4 := Lib.hid (H3.out.quiet hb)
            clear hb H3
            refine hK.out _ _ (H4.out.at_ 2 rfl) (fun hHeld => ?_)
            clear hK K
            (try simp only [Act.put, List.setIfInBounds_toArray, List.set_cons_zero, List.set_cons_succ])
            refine wpAnyH_ready (rs := [9]) (by kernel_rfl) (by simp) ?_
            refine anyH_one rfl (fun K hK => ?_) ?_
            · go_simp
              refine (rgetC_any _ (.slice B1 m1 d1) _ S p 3 (tagF a 3) f m x1 x2 x3 x4 (HX.out.b.below H4.out.below) (Nat.le_trans HL1.out (by decide)) HG1.out true HG2.out).mono ?_
              rintro e w5 ⟨rfl, hb⟩
              have H5 := Lib.hid (H4.out.quiet hb)
              clear hb H4
              refine hK.out _ _ (H5.out.at_ 2 rfl) (fun hHeld => ?_)
              clear hK K
              (try simp only [Act.put, List.setIfInBounds_toArray, List.set_cons_zero, List.set_cons_succ])
              refine tk (v := ?_) 10 ?_ ?_
              rotate_left
              · intro w hSw
                go_simp
                (try with_reducible rfl)
              (try simp only [Act.put, List.setIfInBounds_toArray, List.set_cons_zero, List.set_cons_succ])
              refine tk (v := ?_) 11 ?_ ?_
              rotate_left
              · intro w hSw
                go_simp
                (try with_reducible rfl)
              (try simp only [Act.put, List.setIfInBounds_toArray, List.set_cons_zero, List.set_cons_succ])
              refine tk (v := ?_) 12 ?_ ?_
              rotate_left
              · intro w hSw
                go_simp
                (try with_reducible rfl)
              (try simp only [Act.put, List.setIfInBounds_toArray, List.set_cons_zero, List.set_cons_succ])
              refine wpAnyH_ready (rs := [14]) (by kernel_rfl) (by simp) ?_
              refine anyH_one rfl (fun K hK => ?_) ?_
              · obtain ⟨z0, z1, z2, z3, z4, z5⟩ := (H5.out.at_ 0 rfl).c6
                have y0 := (H5.out.at_ 0 rfl).fz 0; have y1 := (H5.out.at_ 0 rfl).fz 1; have y2 := (H5.out.at_ 0 rfl).fz 2; have y3 := (H5.out.at_ 0 rfl).fz 3; have y4 := (H5.out.at_ 0 rfl).fz 4; have y5 := (H5.out.at_ 0 rfl).fz 5
                go_simp
                generalize hq : (((((w5.setCell _ _).setCell _ _).setCell _ _).setCell _ _).setCell _ _).setCell _ _ = w6
                have H6 := Lib.hid (H5.out.put6 0 rfl hq)
                clear hq H5 z0 z1 z2 z3 z4 z5 y0 y1 y2 y3 y4 y5
                refine hK.out _ _ (H6.out.at_ 2 rfl) (fun hHeld => ?_)
                clear hK K
                (try simp only [Act.put, List.setIfInBounds_toArray, List.set_cons_zero, List.set_cons_succ])
                refine tk (v := ?_) 15 ?_ ?_
                rotate_left
                · intro w hSw
                  go_simp
                  (try with_reducible rfl)
                (try simp only [Act.put, List.setIfInBounds_toArray, List.set_cons_zero, List.set_cons_succ])
                refine wpAnyH_done (by kernel_rfl) ?_ _
                clear hHeld
                obtain ⟨z0, z1, z2, z3, z4, z5⟩ := (H6.out.at_ 0 rfl).c6
                obtain ⟨s0, s1, s2, s3, s4⟩ := (H6.out.at_ 1 rfl).five
                have g0 := (H6.out.at_ 1 rfl).fz 0; have g1 := (H6.out.at_ 1 rfl).fz 1; have g2 := (H6.out.at_ 1 rfl).fz 2; have g3 := (H6.out.at_ 1 rfl).fz 3; have g4 := (H6.out.at_ 1 rfl).fz 4
                go_wp2
                refine bodyPost_ret (v := .tuple #[placeV 2 f x1 x2 x3, .bool true]) ?_ rfl ⟨by rw [HE.out], ?_⟩
                · rw [results_cell_tmp rfl]; go_simp
                · exact (H6.out.put5 1 rfl rfl).below
              exact AllReadyH.nil
            exact AllReadyH.nil
          exact AllReadyH.nil
        exact AllReadyH.nil
    · cases hg : getK (L 0) (p, 4, tagF a 4) with
      | none =>
        have HG1 : Hid ((getK (L 0) (p, 4, tagF a 4)).getD zL = (0, false, false, false, false, 0)) := Lib.hid (by rw [hg]; rfl)
        have HG2 : Hid ((getK (L 0) (p, 4, tagF a 4)).isSome = false) := Lib.hid (by rw [hg]; rfl)
        have HDN : Hid (deepN L p a (5 - (5 : Int)).toNat = o) := Lib.hid (by
          rw [← HD.out]
          have hn : deepN L p a 1 = (match getK (L 0) (p, 4, tagF a 4) with | some x => some (3, x) | none => deepN L p a 0) := rfl
          rw [hg] at hn
          exact hn.symm)
        clear hg HD
        have ew : IntKind.i64.wrap 0 = 0 := by decide
        go_upto_region 4 with fail
        refine wp_region_held_drew (S := fun w' => Blk w' b #[(.slice B0 m0 d0), .int .i64 S, (.slice B1 m1 d1), .int .i64 S, (.slice B2 m2 d2), .int .i64 S] 31) (by kernel_rfl) ((H1.out.quiet (Kept.drew0 wr)).at_ 1 rfl) (fun hHeld => ?_)
        have H2 := Lib.hid (H1.out.quiet (Kept.drew0 wr))
        clear H1
        generalize wr.drew = w2 at *
        refine tk (v := ?_) 0 ?_ ?_
        rotate_left
        · intro w hSw
          go_simp
          (try with_reducible rfl)
        (try simp only [Act.put, List.setIfInBounds_toArray, List.set_cons_zero, List.set_cons_succ])
        refine tk (v := ?_) 1 ?_ ?_
        rotate_left
        · intro w hSw
          go_simp
          (try with_reducible rfl)
        (try simp only [Act.put, List.setIfInBounds_toArray, List.set_cons_zero, List.set_cons_succ])
        refine tk (v := ?_) 2 ?_ ?_
        rotate_left
        · intro w hSw
          go_simp
          (try with_reducible rfl)
        (try simp only [Act.put, List.setIfInBounds_toArray, List.set_cons_zero, List.set_cons_succ])
        refine tk (v := ?_) 3 ?_ ?_
        rotate_left
        · intro w hSw
          go_simp
          (try with_reducible rfl)
        (try simp only [Act.put, List.setIfInBounds_toArray, List.set_cons_zero, List.set_cons_succ])
        refine tk (v := ?_) 4 ?_ ?_
        rotate_left
        · intro w hSw
          obtain ⟨a0, a1, a2, a3, a4, a5⟩ := hSw.c6
          go_simp
          (try with_reducible rfl)
        (try simp only [Act.put, List.setIfInBounds_toArray, List.set_cons_zero, List.set_cons_succ])
        refine tk (v := ?_) 5 ?_ ?_
        rotate_left
        · intro w hSw
          go_simp
          (try with_reducible rfl)
        (try simp only [Act.put, List.setIfInBounds_toArray, List.set_cons_zero, List.set_cons_succ])
        refine tk (v := ?_) 6 ?_ ?_
        rotate_left
        · intro w hSw
          go_simp
          (try with_reducible rfl)
        (try simp only [Act.put, List.setIfInBounds_toArray, List.set_cons_zero, List.set_cons_succ])
        refine tk (v := ?_) 7 ?_ ?_
        rotate_left
        · intro w hSw
          go_simp
          (try with_reducible rfl)
        (try simp only [Act.put, List.setIfInBounds_toArray, List.set_cons_zero, List.set_cons_succ])
        refine wpAnyH_ready (rs := [8, 13]) (by kernel_rfl) (by simp) ?_
        refine anyH_one rfl (fun K hK => ?_) ?_
        · go_simp
          refine (rkey_any p 4 a _ HAA.out (by decide) (by decide)).mono ?_
          rintro e w3 ⟨rfl, hb⟩
          have H3 := Lib.hid (H2.out.quiet hb)
          clear hb H2
          refine hK.out _ _ (H3.out.at_ 1 rfl) (fun hHeld => ?_)
          clear hK K
          (try simp only [Act.put, List.setIfInBounds_toArray, List.set_cons_zero, List.set_cons_succ])
          refine wpAnyH_ready (rs := [9, 13]) (by kernel_rfl) (by simp) ?_
          refine anyH_one rfl (fun K hK => ?_) ?_
          · go_simp
            refine (rgetC_any _ (.slice B0 m0 d0) _ S p 4 (tagF a 4) 0 0 false false false false (HX.out.a.below H3.out.below) (Nat.le_trans HL0.out (by decide)) HG1.out false HG2.out).mono ?_
            rintro e w4 ⟨rfl, hb⟩
            have H4 := Lib.hid (H3.out.quiet hb)
            clear hb H3
            refine hK.out _ _ (H4.out.at_ 1 rfl) (fun hHeld => ?_)
            clear hK K
            (try simp only [Act.put, List.setIfInBounds_toArray, List.set_cons_zero, List.set_cons_succ])
            refine tk (v := ?_) 10 ?_ ?_
            rotate_left
            · intro w hSw
              go_simp
              (try with_reducible rfl)
            (try simp only [Act.put, List.setIfInBounds_toArray, List.set_cons_zero, List.set_cons_succ])
            refine tk (v := ?_) 11 ?_ ?_
            rotate_left
            · intro w hSw
              go_simp
              (try with_reducible rfl)
            (try simp only [Act.put, List.setIfInBounds_toArray, List.set_cons_zero, List.set_cons_succ])
            refine tk (v := ?_) 12 ?_ ?_
            rotate_left
            · intro w hSw
              go_simp
              (try with_reducible rfl)
            (try simp only [Act.put, List.setIfInBounds_toArray, List.set_cons_zero, List.set_cons_succ])
            refine wpAnyH_ready (rs := [13]) (by kernel_rfl) (by simp) ?_
            refine anyH_one rfl (fun K hK => ?_) ?_
            · go_simp
              generalize hq : w4.alloc _ = w5
              have H5 := Lib.hid ((H4.out.new (b := w4.heap.size) rfl _ _).world hq)
              clear hq H4
              generalize w4.heap.size = bl at H5 ⊢
              refine hK.out _ _ (H5.out.at_ 2 rfl) (fun hHeld => ?_)
              clear hK K
              (try simp only [Act.put, List.setIfInBounds_toArray, List.set_cons_zero, List.set_cons_succ])
              refine wpAnyH_ready (rs := [14]) (by kernel_rfl) (by simp) ?_
              refine anyH_one rfl (fun K hK => ?_) ?_
              · obtain ⟨z0, z1, z2, z3, z4, z5⟩ := (H5.out.at_ 0 rfl).c6
                have y0 := (H5.out.at_ 0 rfl).fz 0; have y1 := (H5.out.at_ 0 rfl).fz 1; have y2 := (H5.out.at_ 0 rfl).fz 2; have y3 := (H5.out.at_ 0 rfl).fz 3; have y4 := (H5.out.at_ 0 rfl).fz 4; have y5 := (H5.out.at_ 0 rfl).fz 5
                go_simp
                generalize hq : (((((w5.setCell _ _).setCell _ _).setCell _ _).setCell _ _).setCell _ _).setCell _ _ = w6
                have H6 := Lib.hid (H5.out.put6 0 rfl hq)
                clear hq H5 z0 z1 z2 z3 z4 z5 y0 y1 y2 y3 y4 y5
                refine hK.out _ _ (H6.out.at_ 2 rfl) (fun hHeld => ?_)
                clear hK K
                (try simp only [Act.put, List.setIfInBounds_toArray, List.set_cons_zero, List.set_cons_succ])
                refine tk (v := ?_) 15 ?_ ?_
                rotate_left
                · intro w hSw
                  go_simp
                  (try with_reducible rfl)
                (try simp only [Act.put, List.setIfInBounds_toArray, List.set_cons_zero, List.set_cons_succ])
                refine wpAnyH_done (by kernel_rfl) ?_ _
                clear hHeld
                have HN := Lib.hid (H6.out.pick [1, 2] [])
                clear H6
                go_wp2
                go_roundw
                case rel => exact ⟨5, by decide, by decide, by go_num, HDN, HN⟩
                case measure => simp [intOf]
              exact AllReadyH.nil
            exact AllReadyH.nil
          refine anyH_one rfl (fun K hK => ?_) ?_
          · go_simp
            generalize hq : w3.alloc _ = w4
            have H4 := Lib.hid ((H3.out.new (b := w3.heap.size) rfl _ _).world hq)
            clear hq H3
            generalize w3.heap.size = bl at H4 ⊢
            refine hK.out _ _ (H4.out.at_ 2 rfl) (fun hHeld => ?_)
            clear hK K
            (try simp only [Act.put, List.setIfInBounds_toArray, List.set_cons_zero, List.set_cons_succ])
            refine wpAnyH_ready (rs := [9]) (by kernel_rfl) (by simp) ?_
            refine anyH_one rfl (fun K hK => ?_) ?_
            · go_simp
              refine (rgetC_any _ (.slice B0 m0 d0) _ S p 4 (tagF a 4) 0 0 false false false false (HX.out.a.below H4.out.below) (Nat.le_trans HL0.out (by decide)) HG1.out false HG2.out).mono ?_
              rintro e w5 ⟨rfl, hb⟩
              have H5 := Lib.hid (H4.out.quiet hb)
              clear hb H4
              refine hK.out _ _ (H5.out.at_ 2 rfl) (fun hHeld => ?_)
              clear hK K
              (try simp only [Act.put, List.setIfInBounds_toArray, List.set_cons_zero, List.set_cons_succ])
              refine tk (v := ?_) 10 ?_ ?_
              rotate_left
              · intro w hSw
                go_simp
                (try with_reducible rfl)
              (try simp only [Act.put, List.setIfInBounds_toArray, List.set_cons_zero, List.set_cons_succ])
              refine tk (v := ?_) 11 ?_ ?_
              rotate_left
              · intro w hSw
                go_simp
                (try with_reducible rfl)
              (try simp only [Act.put, List.setIfInBounds_toArray, List.set_cons_zero, List.set_cons_succ])
              refine tk (v := ?_) 12 ?_ ?_
              rotate_left
              · intro w hSw
                go_simp
                (try with_reducible rfl)
              (try simp only [Act.put, List.setIfInBounds_toArray, List.set_cons_zero, List.set_cons_succ])
              refine wpAnyH_ready (rs := [14]) (by kernel_rfl) (by simp) ?_
              refine anyH_one rfl (fun K hK => ?_) ?_
              · obtain ⟨z0, z1, z2, z3, z4, z5⟩ := (H5.out.at_ 0 rfl).c6
                have y0 := (H5.out.at_ 0 rfl).fz 0; have y1 := (H5.out.at_ 0 rfl).fz 1; have y2 := (H5.out.at_ 0 rfl).fz 2; have y3 := (H5.out.at_ 0 rfl).fz 3; have y4 := (H5.out.at_ 0 rfl).fz 4; have y5 := (H5.out.at_ 0 rfl).fz 5
                go_simp
                generalize hq : (((((w5.setCell _ _).setCell _ _).setCell _ _).setCell _ _).setCell _ _).setCell _ _ = w6
                have H6 := Lib.hid (H5.out.put6 0 rfl hq)
                clear hq H5 z0 z1 z2 z3 z4 z5 y0 y1 y2 y3 y4 y5
                refine hK.out _ _ (H6.out.at_ 2 rfl) (fun hHeld => ?_)
                clear hK K
                (try simp only [Act.put, List.setIfInBounds_toArray, List.set_cons_zero, List.set_cons_succ])
                refine tk (v := ?_) 15 ?_ ?_
                rotate_left
                · intro w hSw
                  go_simp
                  (try with_reducible rfl)
                (try simp only [Act.put, List.setIfInBounds_toArray, List.set_cons_zero, List.set_cons_succ])
                refine wpAnyH_done (by kernel_rfl) ?_ _
                clear hHeld
                have HN := Lib.hid (H6.out.pick [1, 2] [])
                clear H6
                go_wp2
                go_roundw
                case rel => exact ⟨5, by decide, by decide, by go_num, HDN, HN⟩
                case measure => simp [intOf]
              exact AllReadyH.nil
            exact AllReadyH.nil
          exact AllReadyH.nil
        refine anyH_one rfl (fun K hK => ?_) ?_
        · go_simp
          generalize hq : w2.alloc _ = w3
          have H3 := Lib.hid ((H2.out.new (b := w2.heap.size) rfl _ _).world hq)
          clear hq H2
          generalize w2.heap.size = bl at H3 ⊢
          refine hK.out _ _ (H3.out.at_ 2 rfl) (fun hHeld => ?_)
          clear hK K
          (try simp only [Act.put, List.setIfInBounds_toArray, List.set_cons_zero, List.set_cons_succ])
          refine wpAnyH_ready (rs := [8]) (by kernel_rfl) (by simp) ?_
          refine anyH_one rfl (fun K hK => ?_) ?_
          · go_simp
            refine (rkey_any p 4 a _ HAA.out (by decide) (by decide)).mono ?_
            rintro e w4 ⟨rfl, hb⟩
            have H4 := Lib.hid (H3.out.quiet hb)
            clear hb H3
            refine hK.out _ _ (H4.out.at_ 2 rfl) (fun hHeld => ?_)
            clear hK K
            (try simp only [Act.put, List.setIfInBounds_toArray, List.set_cons_zero, List.set_cons_succ])
            refine wpAnyH_ready (rs := [9]) (by kernel_rfl) (by simp) ?_
            refine anyH_one rfl (fun K hK => ?_) ?_
            · go_simp
              refine (rgetC_any _ (.slice B0 m0 d0) _ S p 4 (tagF a 4) 0 0 false false false false (HX.out.a.below H4.out.below) (Nat.le_trans HL0.out (by decide)) HG1.out false HG2.out).mono ?_
              rintro e w5 ⟨rfl, hb⟩
              have H5 := Lib.hid (H4.out.quiet hb)
              clear hb H4
              refine hK.out _ _ (H5.out.at_ 2 rfl) (fun hHeld => ?_)
              clear hK K
              (try simp only [Act.put, List.setIfInBounds_toArray, List.set_cons_zero, List.set_cons_succ])
              refine tk (v := ?_) 10 ?_ ?_
              rotate_left
              · intro w hSw
                go_simp
                (try with_reducible rfl)
              (try simp only [Act.put, List.setIfInBounds_toArray, List.set_cons_zero, List.set_cons_succ])
              refine tk (v := ?_) 11 ?_ ?_
              rotate_left
              · intro w hSw
                go_simp
                (try with_reducible rfl)
              (try simp only [Act.put, List.setIfInBounds_toArray, List.set_cons_zero, List.set_cons_succ])
              refine tk (v := ?_) 12 ?_ ?_
              rotate_left
              · intro w hSw
                go_simp
                (try with_reducible rfl)
              (try simp only [Act.put, List.setIfInBounds_toArray, List.set_cons_zero, List.set_cons_succ])
              refine wpAnyH_ready (rs := [14]) (by kernel_rfl) (by simp) ?_
              refine anyH_one rfl (fun K hK => ?_) ?_
              · obtain ⟨z0, z1, z2, z3, z4, z5⟩ := (H5.out.at_ 0 rfl).c6
                have y0 := (H5.out.at_ 0 rfl).fz 0; have y1 := (H5.out.at_ 0 rfl).fz 1; have y2 := (H5.out.at_ 0 rfl).fz 2; have y3 := (H5.out.at_ 0 rfl).fz 3; have y4 := (H5.out.at_ 0 rfl).fz 4; have y5 := (H5.out.at_ 0 rfl).fz 5
                go_simp
                generalize hq : (((((w5.setCell _ _).setCell _ _).setCell _ _).setCell _ _).setCell _ _).setCell _ _ = w6
                have H6 := Lib.hid (H5.out.put6 0 rfl hq)
                clear hq H5 z0 z1 z2 z3 z4 z5 y0 y1 y2 y3 y4 y5
                refine hK.out _ _ (H6.out.at_ 2 rfl) (fun hHeld => ?_)
                clear hK K
                (try simp only [Act.put, List.setIfInBounds_toArray, List.set_cons_zero, List.set_cons_succ])
                refine tk (v := ?_) 15 ?_ ?_
                rotate_left
                · intro w hSw
                  go_simp
                  (try with_reducible rfl)
                (try simp only [Act.put, List.setIfInBounds_toArray, List.set_cons_zero, List.set_cons_succ])
                refine wpAnyH_done (by kernel_rfl) ?_ _
                clear hHeld
                have HN := Lib.hid (H6.out.pick [1, 2] [])
                clear H6
                go_wp2
                go_roundw
                case rel => exact ⟨5, by decide, by decide, by go_num, HDN, HN⟩
                case measure => simp [intOf]
              exact AllReadyH.nil
            exact AllReadyH.nil
          exact AllReadyH.nil
        exact AllReadyH.nil
      | some y =>
        obtain ⟨f, x1, x2, x3, x4, m⟩ := y
        have HG1 : Hid ((getK (L 0) (p, 4, tagF a 4)).getD zL = (f, x1, x2, x3, x4, m)) := Lib.hid (by rw [hg]; rfl)
        have HG2 : Hid ((getK (L 0) (p, 4, tagF a 4)).isSome = true) := Lib.hid (by rw [hg]; rfl)
        have HE : Hid (deepV o = .tuple #[placeV 3 f x1 x2 x3, .bool true]) := Lib.hid (by
          rw [← HD.out]
          have hn : deepN L p a 1 = (match getK (L 0) (p, 4, tagF a 4) with | some x => some (3, x) | none => deepN L p a 0) := rfl
          rw [hg] at hn
          exact (congrArg deepV hn).trans rfl)
        clear hg HD
        have ew : IntKind.i64.wrap 0 = 0 := by decide
        go_upto_region 4 with fail
        refine wp_region_held_drew (S := fun w' => Blk w' b #[(.slice B0 m0 d0), .int .i64 S, (.slice B1 m1 d1), .int .i64 S, (.slice B2 m2 d2), .int .i64 S] 31) (by kernel_rfl) ((H1.out.quiet (Kept.drew0 wr)).at_ 1 rfl) (fun hHeld => ?_)
        have H2 := Lib.hid (H1.out.quiet (Kept.drew0 wr))
        clear H1
        generalize wr.drew = w2 at *
        refine tk (v := ?_) 0 ?_ ?_
        rotate_left
        · intro w hSw
          go_simp
          (try with_reducible rfl)
        (try simp only [Act.put, List.setIfInBounds_toArray, List.set_cons_zero, List.set_cons_succ])
        refine tk (v := ?_) 1 ?_ ?_
        rotate_left
        · intro w hSw
          go_simp
          (try with_reducible rfl)
        (try simp only [Act.put, List.setIfInBounds_toArray, List.set_cons_zero, List.set_cons_succ])
        refine tk (v := ?_) 2 ?_ ?_
        rotate_left
        · intro w hSw
          go_simp
          (try with_reducible rfl)
        (try simp only [Act.put, List.setIfInBounds_toArray, List.set_cons_zero, List.set_cons_succ])
        refine tk (v := ?_) 3 ?_ ?_
        rotate_left
        · intro w hSw
          go_simp
          (try with_reducible rfl)
        (try simp only [Act.put, List.setIfInBounds_toArray, List.set_cons_zero, List.set_cons_succ])
        refine tk (v := ?_) 4 ?_ ?_
        rotate_left
        · intro w hSw
          obtain ⟨a0, a1, a2, a3, a4, a5⟩ := hSw.c6
          go_simp
          (try with_reducible rfl)
        (try simp only [Act.put, List.setIfInBounds_toArray, List.set_cons_zero, List.set_cons_succ])
        refine tk (v := ?_) 5 ?_ ?_
        rotate_left
        · intro w hSw
          go_simp
          (try with_reducible rfl)
        (try simp only [Act.put, List.setIfInBounds_toArray, List.set_cons_zero, List.set_cons_succ])
        refine tk (v := ?_) 6 ?_ ?_
        rotate_left
        · intro w hSw
          go_simp
          (try with_reducible rfl)
        (try simp only [Act.put, List.setIfInBounds_toArray, List.set_cons_zero, List.set_cons_succ])
        refine tk (v := ?_) 7 ?_ ?_
        rotate_left
        · intro w hSw
          go_simp
          (try with_reducible rfl)
        (try simp only [Act.put, List.setIfInBounds_toArray, List.set_cons_zero, List.set_cons_succ])
        refine wpAnyH_ready (rs := [8, 13]) (by kernel_rfl) (by simp) ?_
        refine anyH_one rfl (fun K hK => ?_) ?_
        · go_simp
          refine (rkey_any p 4 a _ HAA.out (by decide) (by decide)).mono ?_
          rintro e w3 ⟨rfl, hb⟩
          have H3 := Lib.hid (H2.out.quiet hb)
          clear hb H2
          refine hK.out _ _ (H3.out.at_ 1 rfl) (fun hHeld => ?_)
          clear hK K
          (try simp only [Act.put, List.setIfInBounds_toArray, List.set_cons_zero, List.set_cons_succ])
          refine wpAnyH_ready (rs := [9, 13]) (by kernel_rfl) (by simp) ?_
          refine anyH_one rfl (fun K hK => ?_) ?_
          · go_simp
            refine (rgetC_any _ (.slice B0 m0 d0) _ S p 4 (tagF a 4) f m x1 x2 x3 x4 (HX.out.a.below H3.out.below) (Nat.le_trans HL0.out (by decide)) HG1.out true HG2.out).mono ?_
            rintro e w4 ⟨rfl, hb⟩
            have H4 := Lib.hid (H3.out.quiet hb)
            clear hb H3
            refine hK.out _ _ (H4.out.at_ 1 rfl) (fun hHeld => ?_)
            clear hK K
            (try simp only [Act.put, List.setIfInBounds_toArray, List.set_cons_zero, List.set_cons_succ])
            refine tk (v := ?_) 10 ?_ ?_
            rotate_left
            · intro w hSw
              go_simp
              (try with_reducible rfl)
            (try simp only [Act.put, List.setIfInBounds_toArray, List.set_cons_zero, List.set_cons_succ])
            refine tk (v := ?_) 11 ?_ ?_
            rotate_left
            · intro w hSw
              go_simp
              (try with_reducible rfl)
            (try simp only [Act.put, List.setIfInBounds_toArray, List.set_cons_zero, List.set_cons_succ])
            refine tk (v := ?_) 12 ?_ ?_
            rotate_left
            · intro w hSw
              go_simp
              (try with_reducible rfl)
            (try simp only [Act.put, List.setIfInBounds_toArray, List.set_cons_zero, List.set_cons_succ])
            refine wpAnyH_ready (rs := [13]) (by kernel_rfl) (by simp) ?_
            refine anyH_one rfl (fun K hK => ?_) ?_
            · go_simp
              generalize hq : w4.alloc _ = w5
              have H5 := Lib.hid ((H4.out.new (b := w4.heap.size) rfl _ _).world hq)
              clear hq H4
              generalize w4.heap.size = bl at H5 ⊢
              refine hK.out _ _ (H5.out.at_ 2 rfl) (fun hHeld => ?_)
              clear hK K
              (try simp only [Act.put, List.setIfInBounds_toArray, List.set_cons_zero, List.set_cons_succ])
              refine wpAnyH_ready (rs := [14]) (by kernel_rfl) (by simp) ?_
              refine anyH_one rfl (fun K hK => ?_) ?_
              · obtain ⟨z0, z1, z2, z3, z4, z5⟩ := (H5.out.at_ 0 rfl).c6
                have y0 := (H5.out.at_ 0 rfl).fz 0; have y1 := (H5.out.at_ 0 rfl).fz 1; have y2 := (H5.out.at_ 0 rfl).fz 2; have y3 := (H5.out.at_ 0 rfl).fz 3; have y4 := (H5.out.at_ 0 rfl).fz 4; have y5 := (H5.out.at_ 0 rfl).fz 5
                go_simp
                generalize hq : (((((w5.setCell _ _).setCell _ _).setCell _ _).setCell _ _).setCell _ _).setCell _ _ = w6
                have H6 := Lib.hid (H5.out.put6 0 rfl hq)
                clear hq H5 z0 z1 z2 z3 z4 z5 y0 y1 y2 y3 y4 y5
                refine hK.out _ _ (H6.out.at_ 2 rfl) (fun hHeld => ?_)
                clear hK K
                (try simp only [Act.put, List.setIfInBounds_toArray, List.set_cons_zero, List.set_cons_succ])
                refine tk (v := ?_) 15 ?_ ?_
                rotate_left
                · intro w hSw
                  go_simp
                  (try with_reducible rfl)
                (try simp only [Act.put, List.setIfInBounds_toArray, List.set_cons_zero, List.set_cons_succ])
                refine wpAnyH_done (by kernel_rfl) ?_ _
                clear hHeld
                obtain ⟨z0, z1, z2, z3, z4, z5⟩ := (H6.out.at_ 0 rfl).c6
                obtain ⟨s0, s1, s2, s3, s4⟩ := (H6.out.at_ 1 rfl).five
                have g0 := (H6.out.at_ 1 rfl).fz 0; have g1 := (H6.out.at_ 1 rfl).fz 1; have g2 := (H6.out.at_ 1 rfl).fz 2; have g3 := (H6.out.at_ 1 rfl).fz 3; have g4 := (H6.out.at_ 1 rfl).fz 4
                go_wp2
                refine bodyPost_ret (v := .tuple #[placeV 3 f x1 x2 x3, .bool true]) ?_ rfl ⟨by rw [HE.out], ?_⟩
                · rw [results_cell_tmp rfl]; go_simp
                · exact (H6.out.put5 1 rfl rfl).below
              exact AllReadyH.nil
            exact AllReadyH.nil
          refine anyH_one rfl (fun K hK => ?_) ?_
          · go_simp
            generalize hq : w3.alloc _ = w4
            have H4 := Lib.hid ((H3.out.new (b := w3.heap.size) rfl _ _).world hq)
            clear hq H3
            generalize w3.heap.size = bl at H4 ⊢
            refine hK.out _ _ (H4.out.at_ 2 rfl) (fun hHeld => ?_)
            clear hK K
            (try simp only [Act.put, List.setIfInBounds_toArray, List.set_cons_zero, List.set_cons_succ])
            refine wpAnyH_ready (rs := [9]) (by kernel_rfl) (by simp) ?_
            refine anyH_one rfl (fun K hK => ?_) ?_
            · go_simp
              refine (rgetC_any _ (.slice B0 m0 d0) _ S p 4 (tagF a 4) f m x1 x2 x3 x4 (HX.out.a.below H4.out.below) (Nat.le_trans HL0.out (by decide)) HG1.out true HG2.out).mono ?_
              rintro e w5 ⟨rfl, hb⟩
              have H5 := Lib.hid (H4.out.quiet hb)
              clear hb H4
              refine hK.out _ _ (H5.out.at_ 2 rfl) (fun hHeld => ?_)
              clear hK K
              (try simp only [Act.put, List.setIfInBounds_toArray, List.set_cons_zero, List.set_cons_succ])
              refine tk (v := ?_) 10 ?_ ?_
              rotate_left
              · intro w hSw
                go_simp
                (try with_reducible rfl)
              (try simp only [Act.put, List.setIfInBounds_toArray, List.set_cons_zero, List.set_cons_succ])
              refine tk (v := ?_) 11 ?_ ?_
              rotate_left
              · intro w hSw
                go_simp
                (try with_reducible rfl)
              (try simp only [Act.put, List.setIfInBounds_toArray, List.set_cons_zero, List.set_cons_succ])
              refine tk (v := ?_) 12 ?_ ?_
              rotate_left
              · intro w hSw
                go_simp
                (try with_reducible rfl)
              (try simp only [Act.put, List.setIfInBounds_toArray, List.set_cons_zero, List.set_cons_succ])
              refine wpAnyH_ready (rs := [14]) (by kernel_rfl) (by simp) ?_
              refine anyH_one rfl (fun K hK => ?_) ?_
              · obtain ⟨z0, z1, z2, z3, z4, z5⟩ := (H5.out.at_ 0 rfl).c6
                have y0 := (H5.out.at_ 0 rfl).fz 0; have y1 := (H5.out.at_ 0 rfl).fz 1; have y2 := (H5.out.at_ 0 rfl).fz 2; have y3 := (H5.out.at_ 0 rfl).fz 3; have y4 := (H5.out.at_ 0 rfl).fz 4; have y5 := (H5.out.at_ 0 rfl).fz 5
                go_simp
                generalize hq : (((((w5.setCell _ _).setCell _ _).setCell _ _).setCell _ _).setCell _ _).setCell _ _ = w6
                have H6 := Lib.hid (H5.out.put6 0 rfl hq)
                clear hq H5 z0 z1 z2 z3 z4 z5 y0 y1 y2 y3 y4 y5
                refine hK.out _ _ (H6.out.at_ 2 rfl) (fun hHeld => ?_)
                clear hK K
                (try simp only [Act.put, List.setIfInBounds_toArray, List.set_cons_zero, List.set_cons_succ])
                refine tk (v := ?_) 15 ?_ ?_
                rotate_left
                · intro w hSw
                  go_simp
                  (try with_reducible rfl)
                (try simp only [Act.put, List.setIfInBounds_toArray, List.set_cons_zero, List.set_cons_succ])
                refine wpAnyH_done (by kernel_rfl) ?_ _
                clear hHeld
                obtain ⟨z0, z1, z2, z3, z4, z5⟩ := (H6.out.at_ 0 rfl).c6
                obtain ⟨s0, s1, s2, s3, s4⟩ := (H6.out.at_ 1 rfl).five
                have g0 := (H6.out.at_ 1 rfl).fz 0; have g1 := (H6.out.at_ 1 rfl).fz 1; have g2 := (H6.out.at_ 1 rfl).fz 2; have g3 := (H6.out.at_ 1 rfl).fz 3; have g4 := (H6.out.at_ 1 rfl).fz 4
                go_wp2
                refine bodyPost_ret (v := .tuple #[placeV 3 f x1 x2 x3, .bool true]) ?_ rfl ⟨by rw [HE.out], ?_⟩
                · rw [results_cell_tmp rfl]; go_simp
                · exact (H6.out.put5 1 rfl rfl).below
              exact AllReadyH.nil
            exact AllReadyH.nil
          exact AllReadyH.nil
        refine anyH_one rfl (fun K hK => ?_) ?_
        · go_simp
          generalize hq : w2.alloc _ = w3
          have H3 := Lib.hid ((H2.out.new (b := w2.heap.size) rfl _ _).world hq)
          clear hq H2
          generalize w2.heap.size = bl at H3 ⊢
          refine hK.out _ _ (H3.out.at_ 2 rfl) (fun hHeld => ?_)
          clear hK K
          (try simp only [Act.put, List.setIfInBounds_toArray, List.set_cons_zero, List.set_cons_succ])
          refine wpAnyH_ready (rs := [8]) (by kernel_rfl) (by simp) ?_
          refine anyH_one rfl (fun K hK => ?_) ?_
          · go_simp
            refine (rkey_any p 4 a _ HAA.out (by decide) (by decide)).mono ?_
            rintro e w4 ⟨rfl, hb⟩
            have H4 := Lib.hid (H3.out.quiet hb)
            clear hb H3
            refine hK.out _ _ (H4.out.at_ 2 rfl) (fun hHeld => ?_)
            clear hK K
            (try simp only [Act.put, List.setIfInBounds_toArray, List.set_cons_zero, List.set_cons_succ])
            refine wpAnyH_ready (rs := [9]) (by kernel_rfl) (by simp) ?_
            refine anyH_one rfl (fun K hK => ?_) ?_
            · go_simp
              refine (rgetC_any _ (.slice B0 m0 d0) _ S p 4 (tagF a 4) f m x1 x2 x3 x4 (HX.out.a.below H4.out.below) (Nat.le_trans HL0.out (by decide)) HG1.out true HG2.out).mono ?_
              rintro e w5 ⟨rfl, hb⟩
              have H5 := Lib.hid (H4.out.quiet hb)
              clear hb H4
              refine hK.out _ _ (H5.out.at_ 2 rfl) (fun hHeld => ?_)
              clear hK K
              (try simp only [Act.put, List.setIfInBounds_toArray, List.set_cons_zero, List.set_cons_succ])
              refine tk (v := ?_) 10 ?_ ?_
              rotate_left
              · intro w hSw
                go_simp
                (try with_reducible rfl)
              (try simp only [Act.put, List.setIfInBounds_toArray, List.set_cons_zero, List.set_cons_succ])
              refine tk (v := ?_) 11 ?_ ?_
              rotate_left
              · intro w hSw
                go_simp
                (try with_reducible rfl)
              (try simp only [Act.put, List.setIfInBounds_toArray, List.set_cons_zero, List.set_cons_succ])
              refine tk (v := ?_) 12 ?_ ?_
              rotate_left
              · intro w hSw
                go_simp
                (try with_reducible rfl)
              (try simp only [Act.put, List.setIfInBounds_toArray, List.set_cons_zero, List.set_cons_succ])
              refine wpAnyH_ready (rs := [14]) (by kernel_rfl) (by simp) ?_
              refine anyH_one rfl (fun K hK => ?_) ?_
              · obtain ⟨z0, z1, z2, z3, z4, z5⟩ := (H5.out.at_ 0 rfl).c6
                have y0 := (H5.out.at_ 0 rfl).fz 0; have y1 := (H5.out.at_ 0 rfl).fz 1; have y2 := (H5.out.at_ 0 rfl).fz 2; have y3 := (H5.out.at_ 0 rfl).fz 3; have y4 := (H5.out.at_ 0 rfl).fz 4; have y5 := (H5.out.at_ 0 rfl).fz 5
                go_simp
                generalize hq : (((((w5.setCell _ _).setCell _ _).setCell _ _).setCell _ _).setCell _ _).setCell _ _ = w6
                have H6 := Lib.hid (H5.out.put6 0 rfl hq)
                clear hq H5 z0 z1 z2 z3 z4 z5 y0 y1 y2 y3 y4 y5
                refine hK.out _ _ (H6.out.at_ 2 rfl) (fun hHeld => ?_)
                clear hK K
                (try simp only [Act.put, List.setIfInBounds_toArray, List.set_cons_zero, List.set_cons_succ])
                refine tk (v := ?_) 15 ?_ ?_
                rotate_left
                · intro w hSw
                  go_simp
                  (try with_reducible rfl)
                (try simp only [Act.put, List.setIfInBounds_toArray, List.set_cons_zero, List.set_cons_succ])
                refine wpAnyH_done (by kernel_rfl) ?_ _
                clear hHeld
                obtain ⟨z0, z1, z2, z3, z4, z5⟩ := (H6.out.at_ 0 rfl).c6
                obtain ⟨s0, s1, s2, s3, s4⟩ := (H6.out.at_ 1 rfl).five
                have g0 := (H6.out.at_ 1 rfl).fz 0; have g1 := (H6.out.at_ 1 rfl).fz 1; have g2 := (H6.out.at_ 1 rfl).fz 2; have g3 := (H6.out.at_ 1 rfl).fz 3; have g4 := (H6.out.at_ 1 rfl).fz 4
                go_wp2
                refine bodyPost_ret (v := .tuple #[placeV 3 f x1 x2 x3, .bool true]) ?_ rfl ⟨by rw [HE.out], ?_⟩
                · rw [results_cell_tmp rfl]; go_simp
                · exact (H6.out.put5 1 rfl rfl).below
              exact AllReadyH.nil
            exact AllReadyH.nil
          exact AllReadyH.nil
        exact AllReadyH.nil
    · have HE : Hid (deepV o = .tuple #[placeV 0 0 false false false, .bool false]) := Lib.hid (by rw [← HD.out]; rfl)
      clear HD
      obtain ⟨s0, s1, s2, s3, s4⟩ := (H1.out.at_ 0 rfl).five
      have g0 := (H1.out.at_ 0 rfl).fz 0; have g1 := (H1.out.at_ 0 rfl).fz 1; have g2 := (H1.out.at_ 0 rfl).fz 2; have g3 := (H1.out.at_ 0 rfl).fz 3; have g4 := (H1.out.at_ 0 rfl).fz 4
      go_wp2
      refine bodyPost_ret (v := .tuple #[placeV 0 0 false false false, .bool false]) ?_ rfl ⟨by rw [HE.out], ?_⟩
      · rw [results_cell_tmp rfl]; go_simp
      · exact (H1.out.put5 0 rfl rfl).below
end Go.Proofs.YtiihhlmddmicjaaDoor
/- Layer 11: awake. (Laid by tools/gen_jl.py.) -/
namespace Go.Proofs.YtiihhlmddmicjaaDoor
set_option linter.unusedVariables false
set_option linter.unusedSimpArgs false
open Go.ChangeShapes Go.WideShapes Go.ChangeAt Go.RowKit Go.Joins

def stepsA : List Stp := [(4, 0, 4103), (3, 4096, 8199), (2, 8192, 12295), (1, 12288, 16391)]
theorem stepsA_w : ∀ k, k < stepsA.length → W64 (stepAt stepsA k).2.2 := by
  intro k hk
  have hk4 : k < 4 := hk
  have : k = 0 ∨ k = 1 ∨ k = 2 ∨ k = 3 := by omega
  rcases this with rfl | rfl | rfl | rfl <;> exact ⟨by decide, by decide⟩
theorem i64_5 : I64 5 := ⟨by decide, by decide⟩
theorem i64_6 : I64 6 := ⟨by decide, by decide⟩
theorem aw11a : deepK (fillK 4 5 0 (pkF 0 0 0) stepsA true true true noL) 5 2097151 = some (1, 12288, true, true, true, false, 0) := by kernel_rfl
theorem aw11b : deepK (fillK 4 5 0 (pkF 0 0 0) stepsA true true true noL) 6 0 = none := by kernel_rfl
theorem aw11c : lenF (fillK 4 5 0 (pkF 0 0 0) stepsA true true true noL) 2 = 1 := by kernel_rfl
theorem aw11d : lenF (fillK 4 5 0 (pkF 0 0 0) stepsA true true true noL) 4 = 1 := by kernel_rfl
theorem tiny_in (w : World) (t : TypeId) : PutsIn (w.alloc (.cells #[.int .u16 0, .int .u16 1, .int .u8 7, .int .u64 0, .int .u16 8, .int .u16 2, .int .u8 7, .int .u64 0, .int .u16 16, .int .u16 3, .int .u8 7, .int .u64 0, .int .u16 24, .int .u16 4, .int .u8 7, .int .u64 0] t)) (some ⟨w.heap.size, 0, none⟩) tinyP := by
  intro k hk
  have hk4 : k < 4 := hk
  have : k = 0 ∨ k = 1 ∨ k = 2 ∨ k = 3 := by omega
  rcases this with rfl | rfl | rfl | rfl <;> exact ⟨_, rfl, by simp [Addr.add, tinyP], by simp [Addr.add, tinyP], by simp [Addr.add, tinyP], by simp [Addr.add, tinyP]⟩

set_option maxRecDepth 100000 in
set_option maxHeartbeats 6400000 in
theorem awake11_any (w : World) (hs : Shifts w) :
    Calls Tryd.prog 9 #[] w fun e w' => e = .returned (.bool true) ∧ Below w.heap.size w w' := by
  have HS := Lib.hid hs
  clear hs
  go_enter Tryd.func9, Tryd.ntmps9
  go_upto_region 6 with (first | (go_at_call 17; refine (builtH_any _ _ 4 tinyP (by decide) (tiny_in _ _) tiny_ok).mono ?_; rw [show mostP tinyP = 4 from rfl]; rintro e w1 ⟨m, G, rfl, hH⟩; have H1 := Lib.hid (((Has.start0 w (fun _ => False)).quiet (below_alloc1 _ _)).join hH); clear hH) | (go_at_call 10; refine (newP_any 4 _).mono ?_; rintro e w2 ⟨q, Gp, rfl, hH⟩; have H2 := Lib.hid (H1.out.join hH); clear hH H1) | (go_at_call 21; refine (top_any 0 _ w0).mono ?_; rintro e w3 ⟨rfl, hb3⟩; have H3 := Lib.hid (H2.out.quiet hb3); clear hb3 H2))
  generalize hw4 : w3.alloc _ = w4
  have H4 := Lib.hid ((H3.out.new (b := w3.heap.size) rfl #[.int .i64 4, .int .u64 (tableF 0), .bool true, .bool true, .bool true] 41).world hw4)
  clear hw4 H3
  generalize w3.heap.size = bt at *
  refine wp_region_held_drew (S := fun w' => Blk w' bt #[.int .i64 4, .int .u64 (tableF 0), .bool true, .bool true, .bool true] 41) (by kernel_rfl) ((H4.out.quiet (Kept.drew0 w4)).at_ 0 rfl) (fun hHeld => ?_)
  have HK := Lib.hid (H4.out.quiet (Kept.drew0 w4))
  clear H4
  generalize w4.drew = v4 at *
  refine tk (v := ?_) 0 ?_ ?_
  rotate_left
  · intro w hSw
    go_simp
    (try with_reducible rfl)
  (try simp only [Act.put, List.setIfInBounds_toArray, List.set_cons_zero, List.set_cons_succ])
  refine tk (v := ?_) 1 ?_ ?_
  rotate_left
  · intro w hSw
    go_simp
    (try with_reducible rfl)
  (try simp only [Act.put, List.setIfInBounds_toArray, List.set_cons_zero, List.set_cons_succ])
  refine tk (v := ?_) 2 ?_ ?_
  rotate_left
  · intro w hSw
    obtain ⟨s0, s1, s2, s3, s4⟩ := hSw.five
    go_simp
    (try with_reducible rfl)
  (try simp only [Act.put, List.setIfInBounds_toArray, List.set_cons_zero, List.set_cons_succ])
  refine tk (v := ?_) 4 ?_ ?_
  rotate_left
  · intro w hSw
    obtain ⟨s0, s1, s2, s3, s4⟩ := hSw.five
    go_simp
    (try with_reducible rfl)
  (try simp only [Act.put, List.setIfInBounds_toArray, List.set_cons_zero, List.set_cons_succ])
  refine tk (v := ?_) 5 ?_ ?_
  rotate_left
  · intro w hSw
    go_simp
    (try with_reducible rfl)
  (try simp only [Act.put, List.setIfInBounds_toArray, List.set_cons_zero, List.set_cons_succ])
  refine wpAnyH_ready (rs := [3]) (by kernel_rfl) (by simp) ?_
  refine anyH_one rfl (fun K hK => ?_) ?_
  · go_simp
    refine (HK.out.walk HS.out (fun h => h) 0 rfl (by decide) 4 (tableF 0) 0 true true true true (w64_table _) w0 _ aw8b 4 rfl).mono ?_
    rintro e u1 ⟨A1, c1, G1, tr1, rfl, hW⟩
    have HK1 := Lib.hid hW
    clear hW
    refine hK.out _ _ (HK1.out.at_ 0 rfl) (fun hHeld => ?_)
    clear hK K
    (try simp only [Act.put, List.setIfInBounds_toArray, List.set_cons_zero, List.set_cons_succ])
    refine wpAnyH_ready (rs := [6]) (by kernel_rfl) (by simp) ?_
    refine anyH_one rfl (fun K hK => ?_) ?_
    · go_simp
      refine (fillP_any (HK1.out.the 1 rfl) (HK1.out.shifts HS.out (fun h => h)) (HK1.out.no0 HS.out (fun h => h) 1 rfl) 5 0 i64_5 w0 A1 4 c1 stepsA _ _ _ _ _ _ rfl (by decide) (own_steps (HK1.out.of_ 0 rfl) rfl) (off_block' fun i hi hg => HK1.out.off 0 rfl i hi ⟨_, List.mem_cons_of_mem _ (List.mem_cons_self ..), hg⟩) stepsA_w 4 (tableF 0) true true true 0 0 0 i64_0 i64_0 i64_0).mono ?_
      rintro e u2 ⟨rfl, hP, hT⟩
      have HK2 := Lib.hid (HK1.out.did 1 rfl (firm_psc _ _ _) hP hT)
      clear hP hT
      refine hK.out _ _ (HK2.out.at_ 0 rfl) (fun hHeld => ?_)
      clear hK K
      (try simp only [Act.put, List.setIfInBounds_toArray, List.set_cons_zero, List.set_cons_succ])
      refine wpAnyH_done (by kernel_rfl) ?_ _
      clear hHeld HK1
      have H7 := Lib.hid (HK2.out.pick [] [])
      clear HK2
      have HL : Hid (fillK (roomF 4) 5 0 (pkF 0 0 0) stepsA true true true noL = fillK 4 5 0 (pkF 0 0 0) stepsA true true true noL) := Lib.hid rfl
      have HA1 := Lib.hid aw11a
      have HA2 := Lib.hid aw11b
      have HA3 := Lib.hid aw11c
      have HA4 := Lib.hid aw11d
      rw [HL.out] at H7
      generalize fillK 4 5 0 (pkF 0 0 0) stepsA true true true noL = L at *
      go_upto_region 8 with (first | (go_at_call 13; refine (deepP_any (H7.out.the 1 rfl) (H7.out.shifts HS.out (fun h => h)) 5 2097151 i64_5 ⟨by decide, by decide⟩).mono ?_; rw [HA1.out, deepV_some]; rintro e w6 ⟨rfl, hb6⟩; have H8 := Lib.hid (H7.out.quiet hb6); clear hb6))
      generalize hw7 : w6.alloc _ = w7
      have H9 := Lib.hid ((H8.out.new (b := w6.heap.size) rfl #[.int .i64 1, .int .u64 12288, .bool true, .bool true, .bool true] 41).world hw7)
      clear hw7 H7 H8
      generalize w6.heap.size = b6 at *
      go_upto_region 9 with (first | (go_at_call 13; refine (deepP_any (H9.out.the 1 rfl) (H9.out.shifts HS.out (fun h => h)) 6 0 i64_6 w0).mono ?_; rw [HA2.out, deepV_none]; rintro e w8 ⟨rfl, hb8⟩; have H10 := Lib.hid (H9.out.quiet hb8); clear hb8))
      generalize hw9 : w8.alloc _ = w9
      have H11 := Lib.hid ((H10.out.quiet (below_alloc1 w8 (.cells #[.int .i64 0, .int .u64 0, .bool false, .bool false, .bool false] 41))).world hw9)
      clear hw9 H9 H10
      obtain ⟨q0, q1, q2, q3, q4⟩ := (H11.out.at_ 0 rfl).five
      go_wp2_with (first | (go_at_call 16; first | (refine (lenP_any (H11.out.the 1 rfl) 2).mono ?_; rw [HA3.out]; rintro e w10 ⟨rfl, hb10⟩; have H12 := Lib.hid (H11.out.quiet hb10); clear hb10 H11) | (refine (lenP_any (H12.out.the 1 rfl) 4).mono ?_; rw [HA4.out]; rintro e w11 ⟨rfl, hb11⟩; have H13 := Lib.hid (H12.out.quiet hb11); clear hb11 H12)))
      go_ret
      exact ⟨rfl, H13.out.below0⟩
    exact AllReadyH.nil
  exact AllReadyH.nil
end Go.Proofs.YtiihhlmddmicjaaDoor
