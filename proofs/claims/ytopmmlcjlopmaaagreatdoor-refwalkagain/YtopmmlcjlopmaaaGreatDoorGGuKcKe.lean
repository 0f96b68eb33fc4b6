/- Several texts of ours in one: Gu, Kc, Ke. -/
import Derived.Test.YtopmmlcjlopmaaaGreatDoorGGbRgHb
import Derived.Test.YtopmmlcjlopmaaaGreatDoorGHfHgGc
import Derived.Test.YtopmmlcjlopmaaaGreatDoorGKaHmHn
import Derived.Test.YtopmmlcjlopmaaaGreatDoorGRjIaEr
import Derived.Test.YtopmmlcjlopmaaaGreatDoorGIeKbGt
import Derived.Test.YtopmmlcjlopmaaaGreatDoorGVaVrFr
import Derived.Test.YtopmmlcjlopmaaaGreatDoorGEsEtGs
import Derived.StillTailTactics
/- Contracts of dormerref06: Code. -/
namespace Go.Proofs.YtopmmlcjlopmaaaGreatDoor
set_option linter.unusedVariables false
set_option linter.unusedSimpArgs false
open Go.ChangeShapes Go.WideShapes Go.ChangeAt Go.RowKit Go.Joins

set_option maxHeartbeats 1600000 in
theorem rcode2_any (user ac wp nxe smep smap p r : Bool) (w : World) :
    Calls Tryz.prog 77 #[accV 2 user ac, ctlV wp nxe smep smap, .bool p, .bool r] w fun e w' => e = .returned (.int .i64 (codeF p true user r false)) ∧ Below w.heap.size w w' := by
  cases p <;> cases user <;> cases r
  all_goals
    go_enter Tryz.func77, Tryz.ntmps77
    go_wp2
    go_ret
    exact ⟨rfl, below2 _ _ _⟩

set_option maxHeartbeats 1600000 in
theorem rcode3_any (user ac wp nxe smep smap p r : Bool) (w : World) :
    Calls Tryz.prog 77 #[accV 3 user ac, ctlV wp nxe smep smap, .bool p, .bool r] w fun e w' => e = .returned (.int .i64 (codeF p false user r (smep || nxe))) ∧ Below w.heap.size w w' := by
  cases p <;> cases user <;> cases r <;> cases smep <;> cases nxe
  all_goals
    go_enter Tryz.func77, Tryz.ntmps77
    go_wp2
    go_ret
    exact ⟨rfl, below2 _ _ _⟩

set_option maxHeartbeats 1600000 in
theorem rcode0_any (k : Int) (user ac wp nxe smep smap p r : Bool) (w : World) (c2 : (k == 2) = false) (c3 : (k == 3) = false) :
    Calls Tryz.prog 77 #[accV k user ac, ctlV wp nxe smep smap, .bool p, .bool r] w fun e w' => e = .returned (.int .i64 (codeF p false user r false)) ∧ Below w.heap.size w w' := by
  cases p <;> cases user <;> cases r
  all_goals
    go_enter Tryz.func77, Tryz.ntmps77
    go_wp2
    go_ret
    exact ⟨rfl, below2 _ _ _⟩

theorem rcode_any (k : Int) (user ac wp nxe smep smap p r : Bool) (w : World) :
    Calls Tryz.prog 77 #[accV k user ac, ctlV wp nxe smep smap, .bool p, .bool r] w fun e w' => e = .returned (.int .i64 (codeF p (k == 2) user r (fetF k smep nxe))) ∧ Below w.heap.size w w' := by
  by_cases h2 : k = 2
  · subst h2; exact rcode2_any _ _ _ _ _ _ _ _ _
  · by_cases h3 : k = 3
    · subst h3; exact rcode3_any _ _ _ _ _ _ _ _ _
    · have c2 : (k == 2) = false := by simp [h2]
      have c3 : (k == 3) = false := by simp [h3]
      rw [fet0 _ _ c3, c2]
      exact rcode0_any _ _ _ _ _ _ _ _ _ _ c2 c3
end Go.Proofs.YtopmmlcjlopmaaaGreatDoor
/- Layer 9: the document's answer; contract of dormerref09.Judge. -/
namespace Go.Proofs.YtopmmlcjlopmaaaGreatDoor
set_option linter.unusedVariables false
set_option linter.unusedSimpArgs false
open Go.ChangeShapes Go.WideShapes Go.ChangeAt Go.RowKit Go.Joins

/-- an address, or a fault -/
structure Ans where
  pa : Int
  bad : Int
  addr : Int
  code : Int
abbrev ansCells (x : Ans) : Array Value := #[.int .u64 x.pa, .int .i64 x.bad, .int .u64 x.addr, .int .i64 x.code]
def ans0 : Ans := ⟨0, 0, 0, 0⟩
/-- what the document answers of a path -/
def jans (P : Pth) (u : Usx) (a : Int) : Ans := if jmay P u = true then ⟨jpa P a, 0, 0, 0⟩ else ⟨0, 4, a, jcode P u⟩
theorem jans_yes {P : Pth} {u : Usx} (a : Int) (h : jmay P u = true) : jans P u a = ⟨jpa P a, 0, 0, 0⟩ := if_pos h
theorem jans_no {P : Pth} {u : Usx} (a : Int) (h : jmay P u = false) : jans P u a = ⟨0, 4, a, jcode P u⟩ := if_neg (by rw [h]; decide)

section
variable {w w' : World} {b : Nat} {t : TypeId} {x0 x1 x2 x3 : Value}
theorem Blk.four (h : Blk w b #[x0, x1, x2, x3] t) : w.cell? ⟨b, 0, none⟩ = some x0 ∧ w.cell? ⟨b, 1, none⟩ = some x1 ∧ w.cell? ⟨b, 2, none⟩ = some x2 ∧ w.cell? ⟨b, 3, none⟩ = some x3 := by
  unfold Blk at h; simp [World.cell?, h]
theorem Blk.set4 (h : Blk w b #[x0, x1, x2, x3] t) (y0 y1 y2 y3 : Value) : Blk ((((w.setCell ⟨b, 0, none⟩ y0).setCell ⟨b, 1, none⟩ y1).setCell ⟨b, 2, none⟩ y2).setCell ⟨b, 3, none⟩ y3) b #[y0, y1, y2, y3] t := by
  unfold Blk at *; simp [World.setCell, Array.getElem?_modify, h]
theorem turn4 (w : World) (b : Nat) (y0 y1 y2 y3 : Value) : Turn (fun i => i = b) w ((((w.setCell ⟨b, 0, none⟩ y0).setCell ⟨b, 1, none⟩ y1).setCell ⟨b, 2, none⟩ y2).setCell ⟨b, 3, none⟩ y3) :=
  (((turn1 _ _ _ _).and (turn1 _ _ _ _)).and (turn1 _ _ _ _)).and (turn1 _ _ _ _)
end

/-- three boxes: a path's, an access's, and the answer's -/
structure RJdg (w wr : World) (v : Value) (P : Pth) (u : Usx) : Prop where
  two : Jdg w wr 51 55 v P u
  res : Blk wr (w.heap.size + 2) (ansCells ans0) 47
theorem RJdg.start (w : World) (v : Value) (P : Pth) (u : Usx) : RJdg w (((w.alloc (.cells (pathCells v P) 51)).alloc (.cells (useCells u) 55)).alloc (.cells (ansCells ans0) 47)) v P u := by
  have e2 : ∀ o o', ((w.alloc o).alloc o').heap.size = w.heap.size + 2 := fun o o' => by simp
  refine ⟨(Jdg.start w _ _ v P u).quiet (below_alloc1 _ _), ?_⟩
  have := Blk.new ((w.alloc (.cells (pathCells v P) 51)).alloc (.cells (useCells u) 55)) (ansCells ans0) 47
  rwa [e2] at this
theorem RJdg.quiet {w wr w3 : World} {v : Value} {P : Pth} {u : Usx} (h : RJdg w wr v P u) (hb : Below wr.heap.size wr w3) : RJdg w w3 v P u := ⟨h.two.quiet hb, h.res.below hb⟩
theorem RJdg.done {w wr : World} {v : Value} {P : Pth} {u : Usx} (h : RJdg w wr v P u) (y0 y1 y2 y3 : Value) : Below w.heap.size w ((((wr.setCell ⟨w.heap.size + 2, 0, none⟩ y0).setCell ⟨w.heap.size + 2, 1, none⟩ y1).setCell ⟨w.heap.size + 2, 2, none⟩ y2).setCell ⟨w.heap.size + 2, 3, none⟩ y3) :=
  turn_below h.two.below (turn4 _ _ _ _ _ _) (by omega) h.two.below.size

theorem rlow_quiet (a l : Int) (w : World) (ha : W64 a) : Calls Tryz.prog 79 #[.int .u64 a, .int .i64 l] w fun e w' => e = .returned (.int .u64 (lowF a l)) ∧ w = w' := rlow_any a l w ha.1

set_option maxRecDepth 100000 in
set_option maxHeartbeats 3200000 in
theorem rjudge_any (v : Value) (P : Pth) (u : Usx) (a : Int) (w : World) (ha : W64 a) :
    Calls Tryz.prog 34 #[.agg (pathCells v P), useV u, .int .u64 a] w fun e w' => e = .returned (.agg (ansCells (jans P u a))) ∧ Below w.heap.size w w' := by
  have H0 := Lib.hid (RJdg.start w v P u)
  have HA := Lib.hid ha
  have HJ : Hid (codeF (P.why == 0 || P.why == 2) (u.k == 2) u.user (P.why == 2) (fetF u.k u.smep u.nxe) = jcode P u) := Lib.hid rfl
  have HW : Hid (IntKind.u64.wrap (P.fr + lowF a P.lev) = jpa P a) := Lib.hid rfl
  have HY : Hid (jmay P u = (decide (P.why = 0) && mayF P.W P.U P.X u.k u.user u.ac u.wp u.smep u.smap)) := Lib.hid rfl
  have HJ1 := Lib.hid (fun h => jans_yes (P := P) (u := u) a h)
  have HJ2 := Lib.hid (fun h => jans_no (P := P) (u := u) a h)
  clear ha
  obtain ⟨S, y, W, U, X, lv, fr⟩ := P
  obtain ⟨r, k, us, ac, wp, nx, se, sa⟩ := u
  have CM := fun w' => rmay_any W U X k us ac wp nx se sa w'
  simp only at H0 HJ HW HY HJ1 HJ2 CM ⊢
  generalize jcode _ _ = code at *
  generalize jpa _ a = pa at *
  by_cases h0 : y = 0
  · subst h0
    cases hm : mayF W U X k us ac wp se sa
    · rw [hm] at CM HY
      rw [HJ2.out (by rw [HY.out]; rfl)]
      have HC : Hid (codeF true (k == 2) us false (fetF k se nx) = code) := Lib.hid (by rw [← HJ.out]; rfl)
      clear HJ1 HJ2 HY hm HJ HW
      go_enter Tryz.func34, Tryz.ntmps34
      go_upto_region 1 with fail
      generalize hw0 : ((w.alloc _).alloc _).alloc _ = w0
      have H1 : Hid (RJdg w w0 v ⟨S, 0, W, U, X, lv, fr⟩ ⟨r, k, us, ac, wp, nx, se, sa⟩) := Lib.hid (by rw [← hw0]; exact H0.out)
      clear hw0 H0
      obtain ⟨p0, p1, p2, p3, p4, p5, p6⟩ := H1.out.two.pth.seven
      obtain ⟨q0, q1, q2, q3, q4, q5, q6, q7⟩ := H1.out.two.use.eight
      go_upto_region 4 with (first | (go_at_call 78; refine (CM _).mono ?_; rintro e w1 ⟨rfl, hB1⟩; have H2 := Lib.hid (H1.out.quiet hB1); clear hB1 H1 p0 p1 p2 p3 p4 p5 p6 q0 q1 q2 q3 q4 q5 q6 q7))
      obtain ⟨q0, q1, q2, q3, q4, q5, q6, q7⟩ := H2.out.two.use.eight
      go_wp2_with (first | (go_at_call 77; refine (rcode_any _ _ _ _ _ _ _ _ _ _).mono ?_; rintro e w2 ⟨rfl, hB2⟩; have H3 := Lib.hid (H2.out.quiet hB2); rw [HC.out]; clear hB2 H2 q0 q1 q2 q3 q4 q5 q6 q7; obtain ⟨z0, z1, z2, z3⟩ := H3.out.res.four; have f0 := H3.out.res.fz 0; have f1 := H3.out.res.fz 1; have f2 := H3.out.res.fz 2; have f3 := H3.out.res.fz 3))
      exact bodyPost_ret (results_cell_row rfl _ _ (w.heap.size + 2) _ _ _ _ rfl (H3.out.res.set4 _ _ _ _) Tryz.underlying47 rfl rfl) rfl ⟨rfl, H3.out.done _ _ _ _⟩
    · rw [hm] at CM HY
      rw [HJ1.out (by rw [HY.out]; rfl)]
      clear HJ1 HJ2 HY hm HJ
      go_enter Tryz.func34, Tryz.ntmps34
      go_upto_region 1 with fail
      generalize hw0 : ((w.alloc _).alloc _).alloc _ = w0
      have H1 : Hid (RJdg w w0 v ⟨S, 0, W, U, X, lv, fr⟩ ⟨r, k, us, ac, wp, nx, se, sa⟩) := Lib.hid (by rw [← hw0]; exact H0.out)
      clear hw0 H0
      obtain ⟨p0, p1, p2, p3, p4, p5, p6⟩ := H1.out.two.pth.seven
      obtain ⟨q0, q1, q2, q3, q4, q5, q6, q7⟩ := H1.out.two.use.eight
      go_upto_region 5 with (first | (go_at_call 78; refine (CM _).mono ?_; rintro e w1 ⟨rfl, hB1⟩; have H2 := Lib.hid (H1.out.quiet hB1); clear hB1 H1 p0 p1 p2 p3 p4 p5 p6 q0 q1 q2 q3 q4 q5 q6 q7))
      obtain ⟨p0, p1, p2, p3, p4, p5, p6⟩ := H2.out.two.pth.seven
      refine wp_region_still_tail 8 (by kernel_rfl) (by kernel_rfl) ?_
      simp only [List.take_succ_cons, List.take_zero, List.drop_succ_cons, List.drop_zero]
      repeat (first | still_step | still_call (stillOf (rlow_quiet _ _ _ HA.out)))
      refine wpStill_nil ?_
      change wpList _ _ _ _ _ w1.drew
      have H3 := Lib.hid (H2.out.quiet (Kept.drew0 w1))
      clear H2 p0 p1 p2 p3 p4 p5 p6
      generalize w1.drew = w2 at *
      obtain ⟨z0, z1, z2, z3⟩ := H3.out.res.four
      have f0 := H3.out.res.fz 0
      have f1 := H3.out.res.fz 1
      have f2 := H3.out.res.fz 2
      have f3 := H3.out.res.fz 3
      rw [HW.out]
      go_wp2
      exact bodyPost_ret (results_cell_row rfl _ _ (w.heap.size + 2) _ _ _ _ rfl (H3.out.res.set4 _ _ _ _) Tryz.underlying47 rfl rfl) rfl ⟨rfl, H3.out.done _ _ _ _⟩
  · have e0 : (y == 0) = false := by simpa using h0
    have e1 : (y != 0) = true := by simpa using h0
    rw [HJ2.out (by rw [HY.out]; simp [h0])]
    have HC : Hid (codeF (y == 2) (k == 2) us (y == 2) (fetF k se nx) = code) := Lib.hid (by rw [← HJ.out, e0, Bool.false_or])
    clear HJ1 HJ2 HY HJ HW h0 e0
    go_enter Tryz.func34, Tryz.ntmps34
    go_upto_region 1 with fail
    generalize hw0 : ((w.alloc _).alloc _).alloc _ = w0
    have H2 : Hid (RJdg w w0 v ⟨S, y, W, U, X, lv, fr⟩ ⟨r, k, us, ac, wp, nx, se, sa⟩) := Lib.hid (by rw [← hw0]; exact H0.out)
    clear hw0 H0
    obtain ⟨p0, p1, p2, p3, p4, p5, p6⟩ := H2.out.two.pth.seven
    obtain ⟨q0, q1, q2, q3, q4, q5, q6, q7⟩ := H2.out.two.use.eight
    go_wp2_with (first | (go_at_call 77; refine (rcode_any _ _ _ _ _ _ _ _ _ _).mono ?_; rintro e w2 ⟨rfl, hB2⟩; have H3 := Lib.hid (H2.out.quiet hB2); rw [HC.out]; clear hB2 H2 p0 p1 p2 p3 p4 p5 p6 q0 q1 q2 q3 q4 q5 q6 q7; obtain ⟨z0, z1, z2, z3⟩ := H3.out.res.four; have f0 := H3.out.res.fz 0; have f1 := H3.out.res.fz 1; have f2 := H3.out.res.fz 2; have f3 := H3.out.res.fz 3))
    exact bodyPost_ret (results_cell_row rfl _ _ (w.heap.size + 2) _ _ _ _ rfl (H3.out.res.set4 _ _ _ _) Tryz.underlying47 rfl rfl) rfl ⟨rfl, H3.out.done _ _ _ _⟩
end Go.Proofs.YtopmmlcjlopmaaaGreatDoor
/- Layer 9: answer: an address, or a fault, as the document has it. -/
namespace Go.Proofs.YtopmmlcjlopmaaaGreatDoor
set_option linter.unusedVariables false
set_option linter.unusedSimpArgs false
open Go.ChangeShapes Go.WideShapes Go.ChangeAt Go.RowKit Go.Joins

theorem Blk.two {w : World} {b : Nat} {t : TypeId} {x0 x1 : Value} (h : Blk w b #[x0, x1] t) : w.cell? ⟨b, 0, none⟩ = some x0 ∧ w.cell? ⟨b, 1, none⟩ = some x1 := by
  unfold Blk at h; simp [World.cell?, h]

/-- the answer's box, and what was there -/
structure Asw (w wr : World) : Prop where
  res : Blk wr w.heap.size (ansCells ans0) 47
  below : Below w.heap.size w wr
theorem Asw.start (w : World) : Asw w (w.alloc (.cells (ansCells ans0) 47)) := ⟨Blk.new _ _ _, below_alloc1 _ _⟩
theorem Asw.quiet {w wr w3 : World} (h : Asw w wr) (hb : Below wr.heap.size wr w3) : Asw w w3 := ⟨h.res.below hb, h.below.trans (hb.mono h.below.size)⟩
theorem Asw.done {w wr : World} (h : Asw w wr) (y0 y1 y2 y3 : Value) : Below w.heap.size w ((((wr.setCell ⟨w.heap.size, 0, none⟩ y0).setCell ⟨w.heap.size, 1, none⟩ y1).setCell ⟨w.heap.size, 2, none⟩ y2).setCell ⟨w.heap.size, 3, none⟩ y3) :=
  turn_below h.below (turn4 _ _ _ _ _ _) (Nat.le_refl _) h.below.size

set_option maxRecDepth 100000 in
theorem answer_nil (a : Int) (w : World) :
    Calls Tryz.prog 12 #[.int .u64 a, .nilIface] w fun e w' => e = .returned (.agg (ansCells ⟨a, 0, 0, 0⟩)) ∧ Below w.heap.size w w' := by
  have H0 := Lib.hid (Asw.start w)
  go_enter Tryz.func12, Tryz.ntmps12
  go_upto_region 1 with fail
  generalize hw0 : w.alloc _ = w0
  have H3 : Hid (Asw w w0) := Lib.hid (by rw [← hw0]; exact H0.out)
  clear hw0 H0
  obtain ⟨z0, z1, z2, z3⟩ := H3.out.res.four
  have f0 := H3.out.res.fz 0
  have f1 := H3.out.res.fz 1
  have f2 := H3.out.res.fz 2
  have f3 := H3.out.res.fz 3
  go_wp2
  exact bodyPost_ret (results_cell_row rfl _ _ w.heap.size _ _ _ _ rfl (H3.out.res.set4 _ _ _ _) Tryz.underlying47 rfl rfl) rfl ⟨rfl, H3.out.done _ _ _ _⟩

set_option maxRecDepth 100000 in
set_option maxHeartbeats 1600000 in
theorem answer_page (a : Int) (n : Nat) (t : TypeId) (x : Value) (addr code : Int) (w : World) (hg : ErrT w) (h : PageIn w n t x addr code) :
    Calls Tryz.prog 12 #[.int .u64 a, .iface t x] w fun e w' => e = .returned (.agg (ansCells ⟨a, 4, addr, code⟩)) ∧ Below w.heap.size w w' := by
  have H0 := Lib.hid (Asw.start w)
  have HG := Lib.hid hg
  have HP := Lib.hid h
  clear hg h
  go_enter Tryz.func12, Tryz.ntmps12
  go_upto_region 1 with fail
  generalize hw0 : w.alloc _ = w0
  have H1 : Hid (Asw w w0) := Lib.hid (by rw [← hw0]; exact H0.out)
  clear hw0 H0
  go_upto_region 4 with (first | (go_at_call 18; refine (of_pageIn n t x addr code _ (errT_keep HG.out H1.out.below) (page_keep HP.out H1.out.below)).mono ?_; rintro e w1 ⟨rfl, hk1⟩; have H2 := Lib.hid (H1.out.quiet hk1); clear hk1 H1))
  generalize hw2 : w1.alloc _ = w2
  have H3 : Hid (Asw w w2) := Lib.hid (by rw [← hw2]; exact H2.out.quiet (below_alloc1 _ _))
  have HF : Hid (Blk w2 w1.heap.size #[.int .u64 addr, .int .i64 code] 64) := Lib.hid (by rw [← hw2]; exact Blk.new _ _ _)
  clear hw2 H2
  generalize w1.heap.size = pb at *
  go_upto_region 5 with (first | (go_at_call 21; refine (kind_pageIn n t x addr code _ (errT_keep HG.out H3.out.below) (page_keep HP.out H3.out.below)).mono ?_; rintro e w3 ⟨rfl, hk3⟩; have H4 := Lib.hid (H3.out.quiet hk3); have HF4 := Lib.hid (HF.out.below hk3); clear hk3 H3 HF))
  have g0 : w3.cell? ⟨pb, 0, none⟩ = some (.int .u64 addr) := (HF4.out.two).1
  have g1 : w3.cell? ⟨pb, 1, none⟩ = some (.int .i64 code) := (HF4.out.two).2
  have hpb : pb < w3.heap.size := HF4.out.lt
  have hne : w.heap.size < w3.heap.size := H4.out.res.lt
  obtain ⟨z0, z1, z2, z3⟩ := H4.out.res.four
  have f0 := H4.out.res.fz 0
  have f1 := H4.out.res.fz 1
  have f2 := H4.out.res.fz 2
  have f3 := H4.out.res.fz 3
  go_wp2
  exact bodyPost_ret (results_cell_row rfl _ _ w.heap.size _ _ _ _ rfl ((H4.out.res.set4 _ _ _ _).alloc _) Tryz.underlying47 rfl rfl) rfl ⟨rfl, (H4.out.done _ _ _ _).alloc (by simp; omega) _⟩

set_option maxRecDepth 100000 in
set_option maxHeartbeats 1600000 in
theorem answer_num (a : Int) (n : Nat) (t : TypeId) (x : Value) (k : Int) (w : World) (hg : ErrT w) (h : NumIn w n t x k) :
    Calls Tryz.prog 12 #[.int .u64 a, .iface t x] w fun e w' => e = .returned (.agg (ansCells ⟨a, k, 0, 0⟩)) ∧ Below w.heap.size w w' := by
  have H0 := Lib.hid (Asw.start w)
  have HG := Lib.hid hg
  have HP := Lib.hid h
  clear hg h
  go_enter Tryz.func12, Tryz.ntmps12
  go_upto_region 1 with fail
  generalize hw0 : w.alloc _ = w0
  have H1 : Hid (Asw w w0) := Lib.hid (by rw [← hw0]; exact H0.out)
  clear hw0 H0
  go_upto_region 4 with (first | (go_at_call 18; refine (of_numIn n t x k _ (errT_keep HG.out H1.out.below) (num_keep HP.out H1.out.below)).mono ?_; rintro e w1 ⟨rfl, hk1⟩; have H2 := Lib.hid (H1.out.quiet hk1); clear hk1 H1))
  generalize hw2 : w1.alloc _ = w2
  have H3 : Hid (Asw w w2) := Lib.hid (by rw [← hw2]; exact H2.out.quiet (below_alloc1 _ _))
  clear hw2 H2
  generalize w1.heap.size = pb at *
  go_upto_region 5 with (first | (go_at_call 21; refine (kind_numIn n t x k _ (errT_keep HG.out H3.out.below) (num_keep HP.out H3.out.below)).mono ?_; rintro e w3 ⟨rfl, hk3⟩; have H4 := Lib.hid (H3.out.quiet hk3); clear hk3 H3))
  have hne : w.heap.size < w3.heap.size := H4.out.res.lt
  obtain ⟨z0, z1, z2, z3⟩ := H4.out.res.four
  have f0 := H4.out.res.fz 0
  have f1 := H4.out.res.fz 1
  have f2 := H4.out.res.fz 2
  have f3 := H4.out.res.fz 3
  go_wp2
  exact bodyPost_ret (results_cell_row rfl _ _ w.heap.size _ _ _ _ rfl ((H4.out.res.set4 _ _ _ _).alloc _) Tryz.underlying47 rfl rfl) rfl ⟨rfl, (H4.out.done _ _ _ _).alloc (by simp; omega) _⟩
end Go.Proofs.YtopmmlcjlopmaaaGreatDoor
