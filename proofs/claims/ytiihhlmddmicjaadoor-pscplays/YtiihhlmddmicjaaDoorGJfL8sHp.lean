/- Several texts of ours in one: Jf, L8s, Hp. -/
import Derived.Test.YtiihhlmddmicjaaDoorGCjJeCm
import Derived.Test.YtiihhlmddmicjaaDoorGHeHfHg
import Derived.Test.YtiihhlmddmicjaaDoorGJaHmHn
import Derived.Test.YtiihhlmddmicjaaDoorGRfRlRs
/- Package psc: Deepest. -/
namespace Go.Proofs.YtiihhlmddmicjaaDoor
set_option linter.unusedVariables false
set_option linter.unusedSimpArgs false
open Go.ChangeShapes Go.WideShapes Go.ChangeAt Go.RowKit Go.Joins

/-- what Deepest answers -/
def deepV (o : Option (Int × Ln)) : Value := match o with
  | some (l, f, W, U, X, _, _) => .tuple #[placeV l f W U X, .bool true]
  | none => .tuple #[placeV 0 0 false false false, .bool false]

section
variable {w wr : World} {F G : Nat → Prop} {q R : Nat} {L L' : Ls} {k : Nat}

set_option maxRecDepth 100000 in
set_option maxHeartbeats 1600000 in
theorem deepP_any (h : pscT q R L w F) (hs : Shifts w) (p a : Int) (hp : I64 p) (ha : W64 a) :
    Calls Tryd.prog 13 #[.pointer (some ⟨q, 0, none⟩), .int .i64 p, .int .u64 a] w fun e w' => e = .returned (deepV (deepK L p a)) ∧ Below w.heap.size w w' := by
  obtain ⟨o, ho⟩ : ∃ o, deepK L p a = o := ⟨_, rfl⟩
  have HO : Hid (deepN L p a 3 = o) := Lib.hid ((deepN_all L p a).trans ho)
  have HH := Lib.hid h
  have HS := Lib.hid hs
  have HA := Lib.hid ha
  have HP := Lib.hid hp
  rw [ho]
  have H0 := Lib.hid ((Mine.start w).new (b := w.heap.size) rfl #[.int .i64 0, .int .u64 0, .bool false, .bool false, .bool false] 41)
  clear h hs ha hp ho
  go_enter Tryd.func13, Tryd.ntmps13
  go_wp2
  generalize hw0 : w.alloc _ = w0
  have H1 := Lib.hid (H0.out.world hw0)
  clear hw0 H0
  obtain ⟨b, hb⟩ : ∃ b, w.heap.size = b := ⟨_, rfl⟩
  have HB := Lib.hid hb
  rw [hb] at H1 ⊢
  clear hb
  go_loopw [12] (fun i wr => ∃ (k : Nat), k ≤ 3 ∧ i = .int .i64 k ∧ Hid (deepN L p a (3 - k) = o) ∧ Hid (Mine w wr [⟨b, #[.int .i64 0, .int .u64 0, .bool false, .bool false, .bool false], 41⟩] [])) (fun i _ => (3 - intOf i).toNat)
  case atStart => exact ⟨0, by omega, rfl, HO, H1⟩
  case round =>
    obtain ⟨k, hk, rfl, HD, HL⟩ := hrel
    clear H1 HO
    by_cases hlt : k < 3
    · have hlt2 := hlt
      obtain ⟨l, hl⟩ : ∃ l, 2 + (k : Int) = l := ⟨_, rfl⟩
      have e1 : IntKind.i64.wrap l = l := by rw [IntKind.wrap_i64]; omega
      have e2 : IntKind.i64.wrap (l - 1) = l - 1 := by rw [IntKind.wrap_i64]; omega
      have HK : Hid (kOf l = 2 - k) := Lib.hid (by rw [← hl]; exact kOf_two hlt)
      have hpr := (firm_psc q R L).more ((firm_psc q R L).same HH.out HL.out.size fun i hi _ => HL.out.below.block i hi) (G' := fun i => F i ∧ i < wr.heap.size) (fun i hi hF => ⟨hF, hi⟩)
      obtain ⟨cc, Hk, hof, hgo⟩ := (Has.start (firm_psc q R L) hpr).psc 0 rfl l (by omega) (by omega)
      have HG := Lib.hid fun w1 hb => (hgo w1 hb).1
      have HS1 := Lib.hid (shifts_kept HS.out HL.out.below)
      have HKY := Lib.hid fun w1 (hb : Below wr.heap.size wr w1) => keyP_any p a l w1 (shifts_kept HS1.out hb) HA.out (by omega) (by omega)
      have HOK : Hid (OkK (p, l, tagF a l)) := Lib.hid ⟨HP.out, (show I64 l by unfold I64; omega), tag_w a l⟩
      have HN : Hid (deepN L p a (3 - k) = match getK (L (kOf l)) (p, l, tagF a l) with | some x => some (l - 1, x) | none => deepN L p a (3 - (k + 1))) := Lib.hid (by
        obtain ⟨n, hn⟩ : ∃ n, 3 - k = n + 1 := ⟨2 - k, by omega⟩
        rw [hn, HK.out, show 3 - (k + 1) = n by omega, show 2 - k = n by omega]
        conv => lhs; unfold deepN
        unfold kyF
        rw [show 4 - (n : Int) = l by omega, show 3 - (n : Int) = l - 1 by omega]
        generalize getK (L n) (p, l, tagF a l) = g
        cases g <;> rfl)
      generalize tagF a l = t at *
      generalize L (kOf l) = M at *
      obtain ⟨b0, b1, b2, b3, b4⟩ := (HL.out.at_ 0 rfl).five
      clear hgo HS1 hpr HK b0 b1 b2 b3 b4
      cases hgk : getK M (p, l, t) with
      | none =>
        have HGET := Lib.hid fun w1 (hc : Cac w1 Hk cc R M) => getC_any hc p l t 0 0 false false false false HOK.out (by rw [hgk]; rfl) false (by rw [hgk]; rfl)
        rw [hgk] at HN
        clear hgk
        go_wp2_with (first | (go_at_call 38; refine hof.mono ?_; rintro e w1 ⟨rfl, hb1⟩) | (go_at_call 40; refine (HKY.out _ hb1).mono ?_; rintro e w2 ⟨rfl, hb2⟩; have hb3 := hb1.trans (hb2.mono hb1.size); clear hb1 hb2) | (go_at_call 39; refine (HGET.out _ (HG.out _ hb3)).mono ?_; rintro e w4 ⟨rfl, hb4⟩; have hb5 := hb3.trans (hb4.mono hb3.size); have H2 := Lib.hid (HL.out.quiet hb5); clear hb3 hb4 hb5))
        have H3 := Lib.hid (H2.out.quiet (below_alloc1 _ (.cells #[.int .u64 0, .bool false, .bool false, .bool false, .bool false, .int .u8 0] 98)))
        go_roundw
        case rel => exact ⟨k + 1, by omega, by go_num, Lib.hid (HN.out ▸ HD.out), H3⟩
        case measure => simp [intOf]; omega
      | some x =>
        obtain ⟨f, x1, x2, x3, x4, m⟩ := x
        have HGET := Lib.hid fun w1 (hc : Cac w1 Hk cc R M) => getC_any hc p l t f m x1 x2 x3 x4 HOK.out (by rw [hgk]; rfl) true (by rw [hgk]; rfl)
        have HE : Hid (deepV o = .tuple #[placeV (l - 1) f x1 x2 x3, .bool true]) := Lib.hid (by rw [← HD.out, HN.out, hgk]; rfl)
        clear hgk HN HD
        go_upto_region 7 with (first | (go_at_call 38; refine hof.mono ?_; rintro e w1 ⟨rfl, hb1⟩) | (go_at_call 40; refine (HKY.out _ hb1).mono ?_; rintro e w2 ⟨rfl, hb2⟩; have hb3 := hb1.trans (hb2.mono hb1.size); clear hb1 hb2) | (go_at_call 39; refine (HGET.out _ (HG.out _ hb3)).mono ?_; rintro e w4 ⟨rfl, hb4⟩; have hb5 := hb3.trans (hb4.mono hb3.size); have H2 := Lib.hid (HL.out.quiet hb5); clear hb3 hb4 hb5))
        generalize hw5 : w4.alloc _ = w5
        have H3 := Lib.hid ((H2.out.new (b := w4.heap.size) rfl #[.int .u64 f, .bool x1, .bool x2, .bool x3, .bool x4, .int .u8 m] 98).world hw5)
        clear hw5 H2
        obtain ⟨r0, r1, r2, r3, r4, r5⟩ := (H3.out.at_ 0 rfl).c6
        obtain ⟨s0, s1, s2, s3, s4⟩ := (H3.out.at_ 1 rfl).five
        have g0 := (H3.out.at_ 1 rfl).fz 0; have g1 := (H3.out.at_ 1 rfl).fz 1; have g2 := (H3.out.at_ 1 rfl).fz 2; have g3 := (H3.out.at_ 1 rfl).fz 3; have g4 := (H3.out.at_ 1 rfl).fz 4
        go_wp2
        refine bodyPost_ret (v := .tuple #[placeV (l - 1) f x1 x2 x3, .bool true]) ?_ rfl ⟨by rw [HE.out], ?_⟩
        · rw [results_cell_tmp rfl]; go_simp
        · exact (H3.out.put5 1 rfl rfl).below
    · obtain rfl : k = 3 := by omega
      have HE : Hid (deepV o = .tuple #[placeV 0 0 false false false, .bool false]) := Lib.hid (by rw [← HD.out]; rfl)
      clear HD
      obtain ⟨s0, s1, s2, s3, s4⟩ := (HL.out.at_ 0 rfl).five
      have g0 := (HL.out.at_ 0 rfl).fz 0; have g1 := (HL.out.at_ 0 rfl).fz 1; have g2 := (HL.out.at_ 0 rfl).fz 2; have g3 := (HL.out.at_ 0 rfl).fz 3; have g4 := (HL.out.at_ 0 rfl).fz 4
      go_wp2
      refine bodyPost_ret (v := .tuple #[placeV 0 0 false false false, .bool false]) ?_ rfl ⟨by rw [HE.out], ?_⟩
      · rw [results_cell_tmp rfl]; go_simp
      · exact (HL.out.put5 0 rfl rfl).below

end
end Go.Proofs.YtiihhlmddmicjaaDoor
/- The walk of WalkSteps. -/
namespace Go.Proofs.YtiihhlmddmicjaaDoor
set_option linter.unusedVariables false
set_option linter.unusedSimpArgs false
open Go.ChangeShapes Go.WideShapes Go.ChangeAt Go.RowKit Go.Joins

/-- what lies where: the path's box, the steps, the trace -/
structure Sc (w0 wr : World) (b : Nat) (v vt : Value) (P : Pth) : Prop where
  box : Blk wr b (pathCells v P) 39
  steps : StepsIn wr v P.steps
  trace : WordsOwn wr vt (slotsP P.steps)
  below : Below w0.heap.size w0 wr

theorem Sc.quiet {w0 wr w3 : World} {b : Nat} {v vt : Value} {P : Pth} (h : Sc w0 wr b v vt P) (hb : Below wr.heap.size wr w3) : Sc w0 w3 b v vt P :=
  ⟨h.box.below hb, h.steps.below hb, own_below h.trace hb, h.below.trans (hb.mono h.below.size)⟩

end Go.Proofs.YtiihhlmddmicjaaDoor
/- A path in a variable of a law's own, beside a memory. -/
namespace Go.Proofs.YtiihhlmddmicjaaDoor
set_option linter.unusedVariables false
set_option linter.unusedSimpArgs false
open Go.ChangeShapes Go.WideShapes Go.ChangeAt Go.RowKit Go.Joins

structure Scn (w wr : World) (b : Nat) (v : Value) (P : Pth) (G : Nat → Prop) : Prop where
  box : Blk wr b (pathCells v P) 39
  nb : ¬ G b
  ge : w.heap.size ≤ b
  own : StepsOwn 65 wr w.heap.size v P.steps
  nv : ∀ i, v.ownBlock = some i → ¬ G i

section
variable {w wr w3 w4 : World} {b : Nat} {v : Value} {P : Pth} {G G' H : Nat → Prop} {m : Nat} {M : Int} {f f' : Int → Int} {tr tr' : List Int} {n n' : Nat}

theorem StepsOwn.down {e : TypeId} {B B' : Nat} {S : List (Int × Int × Int)} (h : StepsOwn e wr B v S) (hB : B' ≤ B) : StepsOwn e wr B' v S := by
  refine ⟨h.1, ?_⟩
  rcases h.2 with h2 | ⟨g, cap, cur, hv, hb, r⟩
  · exact Or.inl h2
  · exact Or.inr ⟨g, cap, cur, hv, Nat.le_trans hB hb, r⟩

/-- a path that a call answered is laid in a new variable -/
theorem Scn.new (h : Wk w wr (From w.heap.size) m M f tr n G) (hS : StepsOwn 65 wr w.heap.size v P.steps) (hv : ∀ i, v.ownBlock = some i → ¬ G i) :
    Scn w (wr.alloc (.cells (pathCells v P) 39)) wr.heap.size v P G ∧ Wk w (wr.alloc (.cells (pathCells v P) 39)) (From w.heap.size) m M f tr n G :=
  ⟨⟨Blk.new _ _ _, fun hg => by have := (h.foot _ hg).1; omega, h.turn.size, hS.below (below_alloc1 _ _), hv⟩, h.quiet (below_alloc1 _ _)⟩
theorem Scn.turn (h : Scn w wr b v P G) (ht : Turn H wr w3) (hb : ¬ H b) (hv : ∀ i, v.ownBlock = some i → ¬ H i) : Scn w w3 b v P G :=
  ⟨h.box.turn ht hb, h.nb, h.ge, h.own.turn ht hv, h.nv⟩
theorem Scn.step (h : Scn w wr b v P G) (k : Wk wr w4 G m M f' tr' n' G') : Scn w w4 b v P G' :=
  ⟨h.box.turn k.turn h.nb, k.free h.nb h.box.lt, h.ge, h.own.turn k.turn h.nv, fun i hi => k.free (h.nv i hi) (h.own.lt hi).2⟩
theorem Scn.quiet (h : Scn w wr b v P G) (hb : Below wr.heap.size wr w3) : Scn w w3 b v P G :=
  ⟨h.box.below hb, h.nb, h.ge, h.own.below hb, h.nv⟩
/-- a step of it -/
theorem Scn.cells {A : Option Addr} {L c : Nat} (h : Scn w wr b (.slice A L c) P G) {k : Nat} (hk : k < P.steps.length) : ∃ ad, A = some ad ∧ wr.cell? (ad.add (k * 3)) = some (.int .i64 (stepAt P.steps k).1) ∧ wr.cell? ⟨(ad.add (k * 3)).block, (ad.add (k * 3)).off + 1, none⟩ = some (.int .u64 (stepAt P.steps k).2.1) ∧ wr.cell? ⟨(ad.add (k * 3)).block, (ad.add (k * 3)).off + 2, none⟩ = some (.int .u64 (stepAt P.steps k).2.2) := by
  obtain ⟨A', c', hv, hc⟩ := h.own.into
  obtain ⟨ad, hA, d0, d1, d2⟩ := hc k hk
  simp at hv
  exact ⟨ad, hv.1.trans hA, d0, d1, d2⟩
end
end Go.Proofs.YtiihhlmddmicjaaDoor
