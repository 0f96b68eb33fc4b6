/- Several texts of ours in one: Kc, Bx, L8s. -/
import Derived.Test.YtopmmlcjlopmaaaGreatDoorGKaHmHn
import Derived.Test.YtopmmlcjlopmaaaGreatDoorGRjIaGt
import Derived.Test.YtopmmlcjlopmaaaGreatDoorGGuErEt
import Derived.Test.YtopmmlcjlopmaaaGreatDoorGVaVrFr
import Derived.StillTailTactics
import Derived.Test.YtopmmlcjlopmaaaGreatDoorGHcEbHd
import Derived.Test.YtopmmlcjlopmaaaGreatDoorGGbRgHb
import Derived.Test.YtopmmlcjlopmaaaGreatDoorGHfHgGc
import Derived.Test.YtopmmlcjlopmaaaGreatDoorGRlRsRp
/- Layer 9: the document's answer; contract of dormerref09.Judge. -/
namespace Go.Proofs.YtopmmlcjlopmaaaGreatDoor
set_option linter.unusedVariables false
set_option linter.unusedSimpArgs false
open Go.ChangeShapes Go.WideShapes Go.ChangeAt Go.RowKit Go.Joins

/-- an address, or a fault -/
structure Ans where
  pa : Int
  bad : Int
  addr : Int
  code : Int
abbrev ansCells (x : Ans) : Array Value := #[.int .u64 x.pa, .int .i64 x.bad, .int .u64 x.addr, .int .i64 x.code]
def ans0 : Ans := ⟨0, 0, 0, 0⟩
/-- what the document answers of a path -/
def jans (P : Pth) (u : Usx) (a : Int) : Ans := if jmay P u = true then ⟨jpa P a, 0, 0, 0⟩ else ⟨0, 4, a, jcode P u⟩
theorem jans_yes {P : Pth} {u : Usx} (a : Int) (h : jmay P u = true) : jans P u a = ⟨jpa P a, 0, 0, 0⟩ := if_pos h
theorem jans_no {P : Pth} {u : Usx} (a : Int) (h : jmay P u = false) : jans P u a = ⟨0, 4, a, jcode P u⟩ := if_neg (by rw [h]; decide)

section
variable {w w' : World} {b : Nat} {t : TypeId} {x0 x1 x2 x3 : Value}
theorem Blk.four (h : Blk w b #[x0, x1, x2, x3] t) : w.cell? ⟨b, 0, none⟩ = some x0 ∧ w.cell? ⟨b, 1, none⟩ = some x1 ∧ w.cell? ⟨b, 2, none⟩ = some x2 ∧ w.cell? ⟨b, 3, none⟩ = some x3 := by
  unfold Blk at h; simp [World.cell?, h]
theorem Blk.set4 (h : Blk w b #[x0, x1, x2, x3] t) (y0 y1 y2 y3 : Value) : Blk ((((w.setCell ⟨b, 0, none⟩ y0).setCell ⟨b, 1, none⟩ y1).setCell ⟨b, 2, none⟩ y2).setCell ⟨b, 3, none⟩ y3) b #[y0, y1, y2, y3] t := by
  unfold Blk at *; simp [World.setCell, Array.getElem?_modify, h]
theorem turn4 (w : World) (b : Nat) (y0 y1 y2 y3 : Value) : Turn (fun i => i = b) w ((((w.setCell ⟨b, 0, none⟩ y0).setCell ⟨b, 1, none⟩ y1).setCell ⟨b, 2, none⟩ y2).setCell ⟨b, 3, none⟩ y3) :=
  (((turn1 _ _ _ _).and (turn1 _ _ _ _)).and (turn1 _ _ _ _)).and (turn1 _ _ _ _)
end

/-- three boxes: a path's, an access's, and the answer's -/
structure RJdg (w wr : World) (v : Value) (P : Pth) (u : Usx) : Prop where
  two : Jdg w wr 51 55 v P u
  res : Blk wr (w.heap.size + 2) (ansCells ans0) 47
theorem RJdg.start (w : World) (v : Value) (P : Pth) (u : Usx) : RJdg w (((w.alloc (.cells (pathCells v P) 51)).alloc (.cells (useCells u) 55)).alloc (.cells (ansCells ans0) 47)) v P u := by
  have e2 : ∀ o o', ((w.alloc o).alloc o').heap.size = w.heap.size + 2 := fun o o' => by simp
  refine ⟨(Jdg.start w _ _ v P u).quiet (below_alloc1 _ _), ?_⟩
  have := Blk.new ((w.alloc (.cells (pathCells v P) 51)).alloc (.cells (useCells u) 55)) (ansCells ans0) 47
  rwa [e2] at this
theorem RJdg.quiet {w wr w3 : World} {v : Value} {P : Pth} {u : Usx} (h : RJdg w wr v P u) (hb : Below wr.heap.size wr w3) : RJdg w w3 v P u := ⟨h.two.quiet hb, h.res.below hb⟩
theorem RJdg.done {w wr : World} {v : Value} {P : Pth} {u : Usx} (h : RJdg w wr v P u) (y0 y1 y2 y3 : Value) : Below w.heap.size w ((((wr.setCell ⟨w.heap.size + 2, 0, none⟩ y0).setCell ⟨w.heap.size + 2, 1, none⟩ y1).setCell ⟨w.heap.size + 2, 2, none⟩ y2).setCell ⟨w.heap.size + 2, 3, none⟩ y3) :=
  turn_below h.two.below (turn4 _ _ _ _ _ _) (by omega) h.two.below.size

theorem rlow_quiet (a l : Int) (w : World) (ha : W64 a) : Calls Tryz.prog 79 #[.int .u64 a, .int .i64 l] w fun e w' => e = .returned (.int .u64 (lowF a l)) ∧ w = w' := rlow_any a l w ha.1

set_option maxRecDepth 100000 in
set_option maxHeartbeats 3200000 in
theorem rjudge_any (v : Value) (P : Pth) (u : Usx) (a : Int) (w : World) (ha : W64 a) :
    Calls Tryz.prog 34 #[.agg (pathCells v P), useV u, .int .u64 a] w fun e w' => e = .returned (.agg (ansCells (jans P u a))) ∧ Below w.heap.size w w' := by
  have H0 := Lib.hid (RJdg.start w v P u)
  have HA := Lib.hid ha
  have HJ : Hid (codeF (P.why == 0 || P.why == 2) (u.k == 2) u.user (P.why == 2) (fetF u.k u.smep u.nxe) = jcode P u) := Lib.hid rfl
  have HW : Hid (IntKind.u64.wrap (P.fr + lowF a P.lev) = jpa P a) := Lib.hid rfl
  have HY : Hid (jmay P u = (decide (P.why = 0) && mayF P.W P.U P.X u.k u.user u.ac u.wp u.smep u.smap)) := Lib.hid rfl
  have HJ1 := Lib.hid (fun h => jans_yes (P := P) (u := u) a h)
  have HJ2 := Lib.hid (fun h => jans_no (P := P) (u := u) a h)
  clear ha
  obtain ⟨S, y, W, U, X, lv, fr⟩ := P
  obtain ⟨r, k, us, ac, wp, nx, se, sa⟩ := u
  have CM := fun w' => rmay_any W U X k us ac wp nx se sa w'
  simp only at H0 HJ HW HY HJ1 HJ2 CM ⊢
  generalize jcode _ _ = code at *
  generalize jpa _ a = pa at *
  by_cases h0 : y = 0
  · subst h0
    cases hm : mayF W U X k us ac wp se sa
    · rw [hm] at CM HY
      rw [HJ2.out (by rw [HY.out]; rfl)]
      have HC : Hid (codeF true (k == 2) us false (fetF k se nx) = code) := Lib.hid (by rw [← HJ.out]; rfl)
      clear HJ1 HJ2 HY hm HJ HW
      go_enter Tryz.func34, Tryz.ntmps34
      go_upto_region 1 with fail
      generalize hw0 : ((w.alloc _).alloc _).alloc _ = w0
      have H1 : Hid (RJdg w w0 v ⟨S, 0, W, U, X, lv, fr⟩ ⟨r, k, us, ac, wp, nx, se, sa⟩) := Lib.hid (by rw [← hw0]; exact H0.out)
      clear hw0 H0
      obtain ⟨p0, p1, p2, p3, p4, p5, p6⟩ := H1.out.two.pth.seven
      obtain ⟨q0, q1, q2, q3, q4, q5, q6, q7⟩ := H1.out.two.use.eight
      go_upto_region 4 with (first | (go_at_call 78; refine (CM _).mono ?_; rintro e w1 ⟨rfl, hB1⟩; have H2 := Lib.hid (H1.out.quiet hB1); clear hB1 H1 p0 p1 p2 p3 p4 p5 p6 q0 q1 q2 q3 q4 q5 q6 q7))
      obtain ⟨q0, q1, q2, q3, q4, q5, q6, q7⟩ := H2.out.two.use.eight
      go_wp2_with (first | (go_at_call 77; refine (rcode_any _ _ _ _ _ _ _ _ _ _).mono ?_; rintro e w2 ⟨rfl, hB2⟩; have H3 := Lib.hid (H2.out.quiet hB2); rw [HC.out]; clear hB2 H2 q0 q1 q2 q3 q4 q5 q6 q7; obtain ⟨z0, z1, z2, z3⟩ := H3.out.res.four; have f0 := H3.out.res.fz 0; have f1 := H3.out.res.fz 1; have f2 := H3.out.res.fz 2; have f3 := H3.out.res.fz 3))
      exact bodyPost_ret (results_cell_row rfl _ _ (w.heap.size + 2) _ _ _ _ rfl (H3.out.res.set4 _ _ _ _) Tryz.underlying47 rfl rfl) rfl ⟨rfl, H3.out.done _ _ _ _⟩
    · rw [hm] at CM HY
      rw [HJ1.out (by rw [HY.out]; rfl)]
      clear HJ1 HJ2 HY hm HJ
      go_enter Tryz.func34, Tryz.ntmps34
      go_upto_region 1 with fail
      generalize hw0 : ((w.alloc _).alloc _).alloc _ = w0
      have H1 : Hid (RJdg w w0 v ⟨S, 0, W, U, X, lv, fr⟩ ⟨r, k, us, ac, wp, nx, se, sa⟩) := Lib.hid (by rw [← hw0]; exact H0.out)
      clear hw0 H0
      obtain ⟨p0, p1, p2, p3, p4, p5, p6⟩ := H1.out.two.pth.seven
      obtain ⟨q0, q1, q2, q3, q4, q5, q6, q7⟩ := H1.out.two.use.eight
      go_upto_region 5 with (first | (go_at_call 78; refine (CM _).mono ?_; rintro e w1 ⟨rfl, hB1⟩; have H2 := Lib.hid (H1.out.quiet hB1); clear hB1 H1 p0 p1 p2 p3 p4 p5 p6 q0 q1 q2 q3 q4 q5 q6 q7))
      obtain ⟨p0, p1, p2, p3, p4, p5, p6⟩ := H2.out.two.pth.seven
      refine wp_region_still_tail 8 (by kernel_rfl) (by kernel_rfl) ?_
      simp only [List.take_succ_cons, List.take_zero, List.drop_succ_cons, List.drop_zero]
      repeat (first | still_step | still_call (stillOf (rlow_quiet _ _ _ HA.out)))
      refine wpStill_nil ?_
      change wpList _ _ _ _ _ w1.drew
      have H3 := Lib.hid (H2.out.quiet (Kept.drew0 w1))
      clear H2 p0 p1 p2 p3 p4 p5 p6
      generalize w1.drew = w2 at *
      obtain ⟨z0, z1, z2, z3⟩ := H3.out.res.four
      have f0 := H3.out.res.fz 0
      have f1 := H3.out.res.fz 1
      have f2 := H3.out.res.fz 2
      have f3 := H3.out.res.fz 3
      rw [HW.out]
      go_wp2
      exact bodyPost_ret (results_cell_row rfl _ _ (w.heap.size + 2) _ _ _ _ rfl (H3.out.res.set4 _ _ _ _) Tryz.underlying47 rfl rfl) rfl ⟨rfl, H3.out.done _ _ _ _⟩
  · have e0 : (y == 0) = false := by simpa using h0
    have e1 : (y != 0) = true := by simpa using h0
    rw [HJ2.out (by rw [HY.out]; simp [h0])]
    have HC : Hid (codeF (y == 2) (k == 2) us (y == 2) (fetF k se nx) = code) := Lib.hid (by rw [← HJ.out, e0, Bool.false_or])
    clear HJ1 HJ2 HY HJ HW h0 e0
    go_enter Tryz.func34, Tryz.ntmps34
    go_upto_region 1 with fail
    generalize hw0 : ((w.alloc _).alloc _).alloc _ = w0
    have H2 : Hid (RJdg w w0 v ⟨S, y, W, U, X, lv, fr⟩ ⟨r, k, us, ac, wp, nx, se, sa⟩) := Lib.hid (by rw [← hw0]; exact H0.out)
    clear hw0 H0
    obtain ⟨p0, p1, p2, p3, p4, p5, p6⟩ := H2.out.two.pth.seven
    obtain ⟨q0, q1, q2, q3, q4, q5, q6, q7⟩ := H2.out.two.use.eight
    go_wp2_with (first | (go_at_call 77; refine (rcode_any _ _ _ _ _ _ _ _ _ _).mono ?_; rintro e w2 ⟨rfl, hB2⟩; have H3 := Lib.hid (H2.out.quiet hB2); rw [HC.out]; clear hB2 H2 p0 p1 p2 p3 p4 p5 p6 q0 q1 q2 q3 q4 q5 q6 q7; obtain ⟨z0, z1, z2, z3⟩ := H3.out.res.four; have f0 := H3.out.res.fz 0; have f1 := H3.out.res.fz 1; have f2 := H3.out.res.fz 2; have f3 := H3.out.res.fz 3))
    exact bodyPost_ret (results_cell_row rfl _ _ (w.heap.size + 2) _ _ _ _ rfl (H3.out.res.set4 _ _ _ _) Tryz.underlying47 rfl rfl) rfl ⟨rfl, H3.out.done _ _ _ _⟩
end Go.Proofs.YtopmmlcjlopmaaaGreatDoor
/- Boxes and rows that a walk holds, beside what others own: as lists, so that one step carries all of them. Nothing of the program. -/
namespace Go.Proofs.YtopmmlcjlopmaaaGreatDoor
set_option linter.unusedVariables false
set_option linter.unusedSimpArgs false
open Go.ChangeShapes Go.WideShapes Go.ChangeAt Go.RowKit Go.Joins

/-- a box: its block, its cells, its type -/
structure BoxD where
  b : Nat
  cs : Array Value
  t : TypeId
/-- a row that a slice owns -/
structure RowD where
  e : TypeId
  sz : Nat
  v : Value
  n : Nat
  xs : List Value

/-- the boxes bs and the rows rs, none of which is one of G -/
structure Hold (wr : World) (G : Nat → Prop) (bs : List BoxD) (rs : List RowD) : Prop where
  box : ∀ z ∈ bs, Blk wr z.b z.cs z.t ∧ ¬ G z.b
  row : ∀ r ∈ rs, wr.ownsRow 0 r.e r.sz r.v r.n r.xs ∧ ∀ i, r.v.ownBlock = some i → ¬ G i
  once : (bs.map (·.b)).Nodup
  lt : ∀ i, G i → i < wr.heap.size

theorem own_lt {wr : World} {B sz n : Nat} {e : TypeId} {v : Value} {xs : List Value} (h : wr.ownsRow B e sz v n xs) {i : Nat} (hi : v.ownBlock = some i) : B ≤ i ∧ i < wr.heap.size := World.ownsRow.lt h i hi
theorem own_down {wr : World} {B B' sz n : Nat} {e : TypeId} {v : Value} {xs : List Value} (h : wr.ownsRow B e sz v n xs) (hB : B' ≤ B) : wr.ownsRow B' e sz v n xs := by
  refine ⟨h.1, ?_⟩
  rcases h.2 with h2 | ⟨g, cap, cur, hv, hb, r⟩
  · exact Or.inl h2
  · exact Or.inr ⟨g, cap, cur, hv, Nat.le_trans hB hb, r⟩

section
variable {w wr w3 w4 : World} {F G G' H : Nat → Prop} {bs : List BoxD} {rs : List RowD} {b k m n' B n sz : Nat} {cs cs' xs : List Value} {M : Int} {f' : Int → Int} {tr' : List Int} {t e : TypeId} {v : Value}

theorem Hold.at_ (h : Hold wr G bs rs) (k : Nat) {b : Nat} {cs : Array Value} {t : TypeId} (hk : bs[k]? = some ⟨b, cs, t⟩) : Blk wr b cs t := (h.box _ (List.mem_of_getElem? hk)).1
theorem Hold.no (h : Hold wr G bs rs) (k : Nat) {b : Nat} {cs : Array Value} {t : TypeId} (hk : bs[k]? = some ⟨b, cs, t⟩) : ¬ G b := (h.box _ (List.mem_of_getElem? hk)).2
theorem Hold.of_ (h : Hold wr G bs rs) (k : Nat) {e : TypeId} {sz n : Nat} {v : Value} {xs : List Value} (hk : rs[k]? = some ⟨e, sz, v, n, xs⟩) : wr.ownsRow 0 e sz v n xs := (h.row _ (List.mem_of_getElem? hk)).1
theorem Hold.off (h : Hold wr G bs rs) (k : Nat) {e : TypeId} {sz n : Nat} {v : Value} {xs : List Value} (hk : rs[k]? = some ⟨e, sz, v, n, xs⟩) : ∀ i, v.ownBlock = some i → ¬ G i := (h.row _ (List.mem_of_getElem? hk)).2
theorem Hold.nil (wr : World) (G : Nat → Prop) (hG : ∀ i, G i → i < wr.heap.size) : Hold wr G [] [] := ⟨by simp, by simp, by simp, hG⟩
/-- of a call's own: what is older is others' -/
theorem Hold.start (w : World) : Hold w (fun i => i < w.heap.size) [] [] := Hold.nil _ _ fun _ h => h

theorem Hold.turn (h : Hold wr G bs rs) (ht : Turn H wr w3) (hb : ∀ z ∈ bs, ¬ H z.b) (hr : ∀ r ∈ rs, ∀ i, r.v.ownBlock = some i → ¬ H i) : Hold w3 G bs rs :=
  ⟨fun z hz => ⟨(h.box z hz).1.turn ht (hb z hz), (h.box z hz).2⟩, fun r hr' => ⟨own_turn (h.row r hr').1 ht (hr r hr'), (h.row r hr').2⟩, h.once, fun i hi => Nat.lt_of_lt_of_le (h.lt i hi) ht.size⟩
theorem Hold.quiet (h : Hold wr G bs rs) (hb : Below wr.heap.size wr w3) : Hold w3 G bs rs :=
  h.turn (H := fun _ => False) (Turn.of_kept _ hb) (fun _ _ h => h) (fun _ _ _ _ h => h)
/-- what is G's was turned, and G is another one behind it -/
theorem Hold.step (h : Hold wr G bs rs) (k : Wk wr w4 G m M f' tr' n' G') : Hold w4 G' bs rs :=
  ⟨fun z hz => ⟨(h.box z hz).1.turn k.turn (h.box z hz).2, k.free (h.box z hz).2 (h.box z hz).1.lt⟩,
   fun r hr => ⟨own_turn (h.row r hr).1 k.turn (h.row r hr).2, fun i hi => k.free ((h.row r hr).2 i hi) (own_lt (h.row r hr).1 hi).2⟩, h.once, fun i hi => (k.foot i hi).1⟩
theorem Hold.new (h : Hold wr G bs rs) (cs : Array Value) (t : TypeId) : Hold (wr.alloc (.cells cs t)) G (⟨wr.heap.size, cs, t⟩ :: bs) rs := by
  have hq := h.quiet (below_alloc1 wr (.cells cs t))
  refine ⟨fun z hz => ?_, hq.row, ?_, hq.lt⟩
  · rcases List.mem_cons.1 hz with rfl | hz
    · exact ⟨Blk.new _ _ _, fun hg => Nat.lt_irrefl _ (h.lt _ hg)⟩
    · exact hq.box z hz
  · refine List.nodup_cons.2 ⟨fun hm => ?_, h.once⟩
    obtain ⟨z, hz, e⟩ := List.mem_map.1 hm
    have h1 := (h.box z hz).1.lt
    have h2 : z.b = wr.heap.size := e
    omega
/-- a row that a call answered -/
theorem Hold.got (h : Hold wr G bs rs) (hr : wr.ownsRow B e sz v n xs) (hv : ∀ i, v.ownBlock = some i → ¬ G i) : Hold wr G bs (⟨e, sz, v, n, xs⟩ :: rs) :=
  ⟨h.box, fun r hr' => by
    rcases List.mem_cons.1 hr' with rfl | hr'
    · exact ⟨own_down hr (Nat.zero_le _), hv⟩
    · exact h.row r hr', h.once, h.lt⟩
/-- a box is turned -/
theorem Hold.put (h : Hold wr G bs rs) (k : Nat) {b : Nat} {cs cs' : Array Value} {t : TypeId} (hk : bs[k]? = some ⟨b, cs, t⟩) (ht : Turn (fun i => i = b) wr w3) (hb : Blk w3 b cs' t) (hr : rs.all (fun r => r.e != t) = true) : Hold w3 G (bs.set k ⟨b, cs', t⟩) rs := by
  have hkl : k < bs.length := by
    rcases Nat.lt_or_ge k bs.length with h1 | h1
    · exact h1
    · rw [List.getElem?_eq_none h1] at hk; cases hk
  have hkk : bs[k] = ⟨b, cs, t⟩ := by rw [List.getElem?_eq_getElem hkl] at hk; exact Option.some.inj hk
  have hmap : (bs.set k ⟨b, cs', t⟩).map (·.b) = bs.map (·.b) := by
    rw [List.map_set]
    apply List.ext_getElem (by simp)
    intro i h1 h2
    by_cases e : k = i
    · subst e; simp [hkk]
    · simp [List.getElem_set_ne e]
  have hne : ∀ j (hj : j < bs.length), j ≠ k → bs[j].b ≠ b := by
    intro j hj hjk e
    have h1 := List.getElem_inj (i := j) (j := k) (h₀ := by simpa using hj) (h₁ := by simpa using hkl) h.once
    simp [hkk] at h1
    exact hjk (h1.1 e)
  refine ⟨fun z hz => ?_, fun r hr' => ⟨own_turn (h.row r hr').1 ht (not_box (h.row r hr').1 (h.at_ k hk) ?_), (h.row r hr').2⟩, by rw [hmap]; exact h.once, fun i hi => Nat.lt_of_lt_of_le (h.lt i hi) ht.size⟩
  · obtain ⟨j, hj, hz⟩ := List.mem_iff_getElem.1 hz
    have hj' : j < bs.length := by simpa using hj
    by_cases e : k = j
    · subst e
      simp at hz
      subst hz
      exact ⟨hb, h.no k hk⟩
    · rw [List.getElem_set_ne e] at hz
      subst hz
      exact ⟨(h.box _ (List.getElem_mem hj')).1.turn ht (hne j hj' (fun h => e h.symm)), (h.box _ (List.getElem_mem hj')).2⟩
  · have := List.all_eq_true.1 hr r hr'
    simpa using this
/-- fewer are held -/
theorem Hold.less (h : Hold wr G bs rs) {bs' : List BoxD} {rs' : List RowD} (hb : bs'.Sublist bs) (hr : ∀ r ∈ rs', r ∈ rs) : Hold wr G bs' rs' :=
  ⟨fun z hz => h.box z (hb.subset hz), fun r h' => h.row r (hr r h'), h.once.sublist (hb.map _), h.lt⟩
/-- nothing of the call's start was turned -/
theorem Hold.below {B : Nat} (h : Hold wr (fun i => i < B) bs rs) (k : Nat) {b : Nat} {cs : Array Value} {t : TypeId} (hk : bs[k]? = some ⟨b, cs, t⟩) (hw : Below B w wr) (ht : Turn (fun i => i = b) wr w3) : Below B w w3 :=
  hw.trans (ht.below (fun i hi => by have := h.no k hk; omega) (Nat.le_of_not_lt fun hl => Nat.lt_irrefl _ (h.lt _ hl)))
end

/- OWN -/
/-- a call's own boxes and rows; nothing older was turned -/
structure Mine (w wr : World) (bs : List BoxD) (rs : List RowD) : Prop where
  hold : Hold wr (fun i => i < w.heap.size) bs rs
  below : Below w.heap.size w wr

section
variable {w wr w3 : World} {bs : List BoxD} {rs : List RowD} {b B n sz : Nat} {e t : TypeId} {v : Value} {xs : List Value} {cs : Array Value}
theorem Mine.start (w : World) : Mine w w [] [] := ⟨Hold.start w, Below.refl _ _⟩
theorem Mine.world (h : Mine w wr bs rs) (e : wr = w3) : Mine w w3 bs rs := e ▸ h
theorem Mine.size (h : Mine w wr bs rs) : w.heap.size ≤ wr.heap.size := h.below.size
theorem Mine.quiet (h : Mine w wr bs rs) (hb : Below wr.heap.size wr w3) : Mine w w3 bs rs := ⟨h.hold.quiet hb, h.below.trans (hb.mono h.below.size)⟩
theorem Mine.new (h : Mine w wr bs rs) {b : Nat} (hb : wr.heap.size = b) (cs : Array Value) (t : TypeId) : Mine w (wr.alloc (.cells cs t)) (⟨b, cs, t⟩ :: bs) rs := by
  subst hb; exact ⟨h.hold.new cs t, h.below.trans ((below_alloc1 _ _).mono h.below.size)⟩
theorem Mine.got (h : Mine w wr bs rs) (hr : wr.ownsRow B e sz v n xs) (hB : w.heap.size ≤ B) : Mine w wr bs (⟨e, sz, v, n, xs⟩ :: rs) :=
  ⟨h.hold.got hr fun i hi hl => by have := (own_lt hr hi).1; omega, h.below⟩
theorem Mine.put (h : Mine w wr bs rs) (k : Nat) {b : Nat} {cs cs' : Array Value} {t : TypeId} (hk : bs[k]? = some ⟨b, cs, t⟩) (ht : Turn (fun i => i = b) wr w3) (hb : Blk w3 b cs' t) (hr : rs.all (fun r => r.e != t) = true := by rfl) : Mine w w3 (bs.set k ⟨b, cs', t⟩) rs :=
  ⟨h.hold.put k hk ht hb hr, h.hold.below k hk h.below ht⟩
theorem Mine.at_ (h : Mine w wr bs rs) (k : Nat) {b : Nat} {cs : Array Value} {t : TypeId} (hk : bs[k]? = some ⟨b, cs, t⟩) : Blk wr b cs t := h.hold.at_ k hk
theorem Mine.of_ (h : Mine w wr bs rs) (k : Nat) {e : TypeId} {sz n : Nat} {v : Value} {xs : List Value} (hk : rs[k]? = some ⟨e, sz, v, n, xs⟩) : wr.ownsRow 0 e sz v n xs := h.hold.of_ k hk
theorem own_up {wr : World} {B B' sz n : Nat} {e : TypeId} {v : Value} {xs : List Value} (h : wr.ownsRow B' e sz v n xs) (hn : ∀ i, v.ownBlock = some i → B ≤ i) : wr.ownsRow B e sz v n xs := by
  refine ⟨h.1, ?_⟩
  rcases h.2 with h2 | ⟨g, cap, cur, hv, _, r⟩
  · exact Or.inl h2
  · exact Or.inr ⟨g, cap, cur, hv, hn g (by rw [hv]; rfl), r⟩
/-- a row, from the call's start on -/
theorem Mine.mine (h : Mine w wr bs rs) (k : Nat) {e : TypeId} {sz n : Nat} {v : Value} {xs : List Value} (hk : rs[k]? = some ⟨e, sz, v, n, xs⟩) : wr.ownsRow w.heap.size e sz v n xs :=
  own_up (h.hold.of_ k hk) fun i hi => Nat.le_of_not_lt (h.hold.off k hk i hi)
theorem Hold.drop {G : Nat → Prop} (h : Hold wr G bs rs) (n m : Nat) : Hold wr G (bs.drop n) (rs.drop m) := h.less (List.drop_sublist n bs) fun r hr => List.mem_of_mem_drop hr
theorem Hold.pick {G : Nat → Prop} (h : Hold wr G bs rs) (l m : List Nat) (hl : l.Nodup := by decide) : Hold wr G (l.filterMap fun i => bs[i]?) (m.filterMap fun i => rs[i]?) := by
  refine ⟨fun z hz => ?_, fun r hr => ?_, ?_, h.lt⟩
  · obtain ⟨i, _, hi⟩ := List.mem_filterMap.1 hz
    exact h.box z (List.mem_of_getElem? hi)
  · obtain ⟨i, _, hi⟩ := List.mem_filterMap.1 hr
    exact h.row r (List.mem_of_getElem? hi)
  · rw [List.map_filterMap]
    refine List.Pairwise.filterMap (R := fun x y => x ≠ y) _ ?_ hl
    intro i j hij x hx y hy
    obtain ⟨z, hz, rfl⟩ := Option.map_eq_some_iff.1 hx
    obtain ⟨z', hz', rfl⟩ := Option.map_eq_some_iff.1 hy
    intro e
    have h1 : i < bs.length := by
      rcases Nat.lt_or_ge i bs.length with h | h
      · exact h
      · rw [List.getElem?_eq_none h] at hz; cases hz
    have h2 : j < bs.length := by
      rcases Nat.lt_or_ge j bs.length with h | h
      · exact h
      · rw [List.getElem?_eq_none h] at hz'; cases hz'
    rw [List.getElem?_eq_getElem h1] at hz
    rw [List.getElem?_eq_getElem h2] at hz'
    have e1 := Option.some.inj hz
    have e2 := Option.some.inj hz'
    have h3 := List.getElem_inj (i := i) (j := j) (h₀ := by simpa using h1) (h₁ := by simpa using h2) h.once
    simp [e1, e2] at h3
    exact hij (h3.1 e)
theorem Mine.pick (h : Mine w wr bs rs) (l m : List Nat) (hl : l.Nodup := by decide) : Mine w wr (l.filterMap fun i => bs[i]?) (m.filterMap fun i => rs[i]?) := ⟨h.hold.pick l m hl, h.below⟩
theorem Mine.drop (h : Mine w wr bs rs) (n m : Nat) : Mine w wr (bs.drop n) (rs.drop m) := ⟨h.hold.drop n m, h.below⟩
end

section
variable {w wr w3 : World} {G : Nat → Prop} {bs : List BoxD} {rs : List RowD} {b : Nat} {t : TypeId} {x0 x1 y0 y1 : Value}
end

section
variable {w wr w3 : World} {G : Nat → Prop} {bs : List BoxD} {rs : List RowD} {b : Nat} {t : TypeId} {x0 x1 x2 y0 y1 y2 : Value}
theorem turnB3 (w : World) (b : Nat) (y0 y1 y2 : Value) : Turn (fun i => i = b) w (((w.setCell ⟨b, 0, none⟩ y0).setCell ⟨b, 1, none⟩ y1).setCell ⟨b, 2, none⟩ y2) := ((turn1 _ _ _ _).and (turn1 _ _ _ _)).and (turn1 _ _ _ _)
theorem setB3 (h : Blk w b #[x0, x1, x2] t) (y0 y1 y2 : Value) : Blk (((w.setCell ⟨b, 0, none⟩ y0).setCell ⟨b, 1, none⟩ y1).setCell ⟨b, 2, none⟩ y2) b #[y0, y1, y2] t := by
  unfold Blk at *; simp [World.setCell, Array.getElem?_modify, h]
theorem Hold.put3 (h : Hold wr G bs rs) (k : Nat) (hk : bs[k]? = some ⟨b, #[x0, x1, x2], t⟩) (hq : ((wr.setCell ⟨b, 0, none⟩ y0).setCell ⟨b, 1, none⟩ y1).setCell ⟨b, 2, none⟩ y2 = w3) (hr : rs.all (fun r => r.e != t) = true := by rfl) : Hold w3 G (bs.set k ⟨b, #[y0, y1, y2], t⟩) rs := by
  subst hq; exact h.put k hk (turnB3 _ _ _ _ _) (setB3 (h.at_ k hk) _ _ _) hr
theorem Mine.put3 (h : Mine w wr bs rs) (k : Nat) (hk : bs[k]? = some ⟨b, #[x0, x1, x2], t⟩) (hq : ((wr.setCell ⟨b, 0, none⟩ y0).setCell ⟨b, 1, none⟩ y1).setCell ⟨b, 2, none⟩ y2 = w3) (hr : rs.all (fun r => r.e != t) = true := by rfl) : Mine w w3 (bs.set k ⟨b, #[y0, y1, y2], t⟩) rs := by
  subst hq; exact h.put k hk (turnB3 _ _ _ _ _) (setB3 (h.at_ k hk) _ _ _) hr
end

section
variable {w wr w3 : World} {G : Nat → Prop} {bs : List BoxD} {rs : List RowD} {b : Nat} {t : TypeId} {x0 x1 x2 x3 y0 y1 y2 y3 : Value}
theorem turnB4 (w : World) (b : Nat) (y0 y1 y2 y3 : Value) : Turn (fun i => i = b) w ((((w.setCell ⟨b, 0, none⟩ y0).setCell ⟨b, 1, none⟩ y1).setCell ⟨b, 2, none⟩ y2).setCell ⟨b, 3, none⟩ y3) := (((turn1 _ _ _ _).and (turn1 _ _ _ _)).and (turn1 _ _ _ _)).and (turn1 _ _ _ _)
theorem setB4 (h : Blk w b #[x0, x1, x2, x3] t) (y0 y1 y2 y3 : Value) : Blk ((((w.setCell ⟨b, 0, none⟩ y0).setCell ⟨b, 1, none⟩ y1).setCell ⟨b, 2, none⟩ y2).setCell ⟨b, 3, none⟩ y3) b #[y0, y1, y2, y3] t := by
  unfold Blk at *; simp [World.setCell, Array.getElem?_modify, h]
theorem Hold.put4 (h : Hold wr G bs rs) (k : Nat) (hk : bs[k]? = some ⟨b, #[x0, x1, x2, x3], t⟩) (hq : (((wr.setCell ⟨b, 0, none⟩ y0).setCell ⟨b, 1, none⟩ y1).setCell ⟨b, 2, none⟩ y2).setCell ⟨b, 3, none⟩ y3 = w3) (hr : rs.all (fun r => r.e != t) = true := by rfl) : Hold w3 G (bs.set k ⟨b, #[y0, y1, y2, y3], t⟩) rs := by
  subst hq; exact h.put k hk (turnB4 _ _ _ _ _ _) (setB4 (h.at_ k hk) _ _ _ _) hr
theorem Mine.put4 (h : Mine w wr bs rs) (k : Nat) (hk : bs[k]? = some ⟨b, #[x0, x1, x2, x3], t⟩) (hq : (((wr.setCell ⟨b, 0, none⟩ y0).setCell ⟨b, 1, none⟩ y1).setCell ⟨b, 2, none⟩ y2).setCell ⟨b, 3, none⟩ y3 = w3) (hr : rs.all (fun r => r.e != t) = true := by rfl) : Mine w w3 (bs.set k ⟨b, #[y0, y1, y2, y3], t⟩) rs := by
  subst hq; exact h.put k hk (turnB4 _ _ _ _ _ _) (setB4 (h.at_ k hk) _ _ _ _) hr
end

section
variable {w wr w3 : World} {G : Nat → Prop} {bs : List BoxD} {rs : List RowD} {b : Nat} {t : TypeId} {x0 x1 x2 x3 x4 y0 y1 y2 y3 y4 : Value}
end

section
variable {w wr w3 : World} {G : Nat → Prop} {bs : List BoxD} {rs : List RowD} {b : Nat} {t : TypeId} {x0 x1 x2 x3 x4 x5 y0 y1 y2 y3 y4 y5 : Value}
end

section
variable {w wr w3 : World} {G : Nat → Prop} {bs : List BoxD} {rs : List RowD} {b : Nat} {t : TypeId} {x0 x1 x2 x3 x4 x5 x6 y0 y1 y2 y3 y4 y5 y6 : Value}
theorem turnB7 (w : World) (b : Nat) (y0 y1 y2 y3 y4 y5 y6 : Value) : Turn (fun i => i = b) w (((((((w.setCell ⟨b, 0, none⟩ y0).setCell ⟨b, 1, none⟩ y1).setCell ⟨b, 2, none⟩ y2).setCell ⟨b, 3, none⟩ y3).setCell ⟨b, 4, none⟩ y4).setCell ⟨b, 5, none⟩ y5).setCell ⟨b, 6, none⟩ y6) := ((((((turn1 _ _ _ _).and (turn1 _ _ _ _)).and (turn1 _ _ _ _)).and (turn1 _ _ _ _)).and (turn1 _ _ _ _)).and (turn1 _ _ _ _)).and (turn1 _ _ _ _)
theorem setB7 (h : Blk w b #[x0, x1, x2, x3, x4, x5, x6] t) (y0 y1 y2 y3 y4 y5 y6 : Value) : Blk (((((((w.setCell ⟨b, 0, none⟩ y0).setCell ⟨b, 1, none⟩ y1).setCell ⟨b, 2, none⟩ y2).setCell ⟨b, 3, none⟩ y3).setCell ⟨b, 4, none⟩ y4).setCell ⟨b, 5, none⟩ y5).setCell ⟨b, 6, none⟩ y6) b #[y0, y1, y2, y3, y4, y5, y6] t := by
  unfold Blk at *; simp [World.setCell, Array.getElem?_modify, h]
theorem Hold.put7 (h : Hold wr G bs rs) (k : Nat) (hk : bs[k]? = some ⟨b, #[x0, x1, x2, x3, x4, x5, x6], t⟩) (hq : ((((((wr.setCell ⟨b, 0, none⟩ y0).setCell ⟨b, 1, none⟩ y1).setCell ⟨b, 2, none⟩ y2).setCell ⟨b, 3, none⟩ y3).setCell ⟨b, 4, none⟩ y4).setCell ⟨b, 5, none⟩ y5).setCell ⟨b, 6, none⟩ y6 = w3) (hr : rs.all (fun r => r.e != t) = true := by rfl) : Hold w3 G (bs.set k ⟨b, #[y0, y1, y2, y3, y4, y5, y6], t⟩) rs := by
  subst hq; exact h.put k hk (turnB7 _ _ _ _ _ _ _ _ _) (setB7 (h.at_ k hk) _ _ _ _ _ _ _) hr
theorem Mine.put7 (h : Mine w wr bs rs) (k : Nat) (hk : bs[k]? = some ⟨b, #[x0, x1, x2, x3, x4, x5, x6], t⟩) (hq : ((((((wr.setCell ⟨b, 0, none⟩ y0).setCell ⟨b, 1, none⟩ y1).setCell ⟨b, 2, none⟩ y2).setCell ⟨b, 3, none⟩ y3).setCell ⟨b, 4, none⟩ y4).setCell ⟨b, 5, none⟩ y5).setCell ⟨b, 6, none⟩ y6 = w3) (hr : rs.all (fun r => r.e != t) = true := by rfl) : Mine w w3 (bs.set k ⟨b, #[y0, y1, y2, y3, y4, y5, y6], t⟩) rs := by
  subst hq; exact h.put k hk (turnB7 _ _ _ _ _ _ _ _ _) (setB7 (h.at_ k hk) _ _ _ _ _ _ _) hr
end

section
variable {w wr w3 : World} {G : Nat → Prop} {bs : List BoxD} {rs : List RowD} {b : Nat} {t : TypeId} {x0 x1 x2 x3 x4 x5 x6 x7 y0 y1 y2 y3 y4 y5 y6 y7 : Value}
end

/-- a memory of a law's own, and the law's boxes and rows beside it; nothing older was turned -/
structure Law (w wr : World) (m : Nat) (f : Int → Int) (tr : List Int) (n : Nat) (G : Nat → Prop) (bs : List BoxD) (rs : List RowD) : Prop where
  wk : Wk w wr (From w.heap.size) m 16 f tr n G
  hold : Hold wr G bs rs
  low : ∀ z ∈ bs, w.heap.size ≤ z.b

section
variable {w wr w1 w2 w3 w4 : World} {G G' : Nat → Prop} {bs : List BoxD} {rs : List RowD} {m n n' B sz k : Nat} {f f' : Int → Int} {tr tr' : List Int} {e : TypeId} {v : Value} {xs : List Value}
theorem Law.start (h : Mine w w1 bs rs) (hM : Mem w2 (From w1.heap.size) m 16 f tr n) (hB : Below w1.heap.size w1 w2) : Law w w2 m f tr n (fun i => From w1.heap.size i ∧ i < w2.heap.size) bs rs := by
  have hq := h.quiet hB
  refine ⟨Wk.made hM hq.below h.size, ⟨fun z hz => ⟨(hq.hold.box z hz).1, fun hg => ?_⟩, fun r hr => ⟨(hq.hold.row r hr).1, fun i hi hg => ?_⟩, hq.hold.once, fun i hi => hi.2⟩, fun z hz => Nat.le_of_not_lt (h.hold.box z hz).2⟩
  · have h1 := (h.hold.box z hz).1.lt
    have h2 : w1.heap.size ≤ z.b := hg.1
    omega
  · have h1 := (own_lt (h.hold.row r hr).1 hi).2
    have h2 : w1.heap.size ≤ i := hg.1
    omega
theorem Law.world (h : Law w wr m f tr n G bs rs) (e : wr = w3) : Law w w3 m f tr n G bs rs := e ▸ h
theorem Law.below (h : Law w wr m f tr n G bs rs) : Below w.heap.size w wr := h.wk.belowW
theorem Law.size (h : Law w wr m f tr n G bs rs) : w.heap.size ≤ wr.heap.size := h.wk.belowW.size
theorem Law.quiet (h : Law w wr m f tr n G bs rs) (hb : Below wr.heap.size wr w3) : Law w w3 m f tr n G bs rs := ⟨h.wk.quiet hb, h.hold.quiet hb, h.low⟩
theorem Law.step (h : Law w wr m f tr n G bs rs) (k : Wk wr w4 G m 16 f' tr' n' G') : Law w w4 m f' tr' n' G' bs rs := ⟨h.wk.join k, h.hold.step k, h.low⟩
theorem Law.new (h : Law w wr m f tr n G bs rs) {b : Nat} (hb : wr.heap.size = b) (cs : Array Value) (t : TypeId) : Law w (wr.alloc (.cells cs t)) m f tr n G (⟨b, cs, t⟩ :: bs) rs := by
  subst hb; exact ⟨h.wk.quiet (below_alloc1 _ _), h.hold.new cs t, fun z hz => by
    rcases List.mem_cons.1 hz with rfl | hz
    · exact h.size
    · exact h.low z hz⟩
theorem Law.got (h : Law w wr m f tr n G bs rs) (hr : wr.ownsRow B e sz v k xs) (hv : ∀ i, v.ownBlock = some i → ¬ G i) : Law w wr m f tr n G bs (⟨e, sz, v, k, xs⟩ :: rs) := ⟨h.wk, h.hold.got hr hv, h.low⟩
/-- a row that a quiet call made -/
theorem Law.made (h : Law w wr m f tr n G bs rs) (hb : Below wr.heap.size wr w3) (hr : w3.ownsRow B e sz v k xs) (hB : wr.heap.size ≤ B) : Law w w3 m f tr n G bs (⟨e, sz, v, k, xs⟩ :: rs) :=
  (h.quiet hb).got hr fun i hi hg => by have := h.hold.lt i hg; have := (own_lt hr hi).1; omega
theorem Law.at_ (h : Law w wr m f tr n G bs rs) (k : Nat) {b : Nat} {cs : Array Value} {t : TypeId} (hk : bs[k]? = some ⟨b, cs, t⟩) : Blk wr b cs t := h.hold.at_ k hk
theorem Law.no (h : Law w wr m f tr n G bs rs) (k : Nat) {b : Nat} {cs : Array Value} {t : TypeId} (hk : bs[k]? = some ⟨b, cs, t⟩) : ¬ G b := h.hold.no k hk
theorem Law.of_ (h : Law w wr m f tr n G bs rs) (k : Nat) {e : TypeId} {sz n : Nat} {v : Value} {xs : List Value} (hk : rs[k]? = some ⟨e, sz, v, n, xs⟩) : wr.ownsRow 0 e sz v n xs := h.hold.of_ k hk
theorem Law.off (h : Law w wr m f tr n G bs rs) (k : Nat) {e : TypeId} {sz n : Nat} {v : Value} {xs : List Value} (hk : rs[k]? = some ⟨e, sz, v, n, xs⟩) : ∀ i, v.ownBlock = some i → ¬ G i := h.hold.off k hk
theorem Law.put (h : Law w wr m f tr n G bs rs) (k : Nat) {b : Nat} {cs cs' : Array Value} {t : TypeId} (hk : bs[k]? = some ⟨b, cs, t⟩) (ht : Turn (fun i => i = b) wr w3) (hb : Blk w3 b cs' t) (hr : rs.all (fun r => r.e != t) = true := by rfl) : Law w w3 m f tr n G (bs.set k ⟨b, cs', t⟩) rs :=
  ⟨h.wk.set ht (h.hold.no k hk) (h.low _ (List.mem_of_getElem? hk)), h.hold.put k hk ht hb hr, fun z hz => by
    rcases List.mem_or_eq_of_mem_set hz with hz | rfl
    · exact h.low z hz
    · exact h.low ⟨b, cs, t⟩ (List.mem_of_getElem? hk)⟩
theorem Law.pick (h : Law w wr m f tr n G bs rs) (l k : List Nat) (hl : l.Nodup := by decide) : Law w wr m f tr n G (l.filterMap fun i => bs[i]?) (k.filterMap fun i => rs[i]?) := ⟨h.wk, h.hold.pick l k hl, fun z hz => by
    obtain ⟨i, _, hi⟩ := List.mem_filterMap.1 hz
    exact h.low z (List.mem_of_getElem? hi)⟩
end

/-- two memories of a law's own, apart -/
structure Law2 (w wr : World) (m : Nat) (f : Int → Int) (tr : List Int) (n : Nat) (G : Nat → Prop) (m0 : Nat) (f0 : Int → Int) (tr0 : List Int) (n0 : Nat) (H : Nat → Prop) (bs : List BoxD) (rs : List RowD) : Prop where
  m : Wk w wr (From w.heap.size) m 16 f tr n G
  k : Wk w wr (From w.heap.size) m0 16 f0 tr0 n0 H
  free : ∀ i, G i → ¬ H i
  hold : Hold wr (fun i => G i ∨ H i) bs rs

section
variable {w wr w1 w2 w3 w4 : World} {G G' H H' : Nat → Prop} {bs : List BoxD} {rs : List RowD} {m m0 n n' n0 n0' B sz k : Nat} {f f' f0 f0' : Int → Int} {tr tr' tr0 tr0' : List Int} {e : TypeId} {v : Value} {xs : List Value}
theorem Law.stepGot (h : Law w wr m f tr n G bs rs) (j : Wk wr w4 G m 16 f' tr' n' G') (hr : w4.ownsRow B e sz v k xs) (hv : ∀ i, v.ownBlock = some i → ¬ G' i) : Law w w4 m f' tr' n' G' bs (⟨e, sz, v, k, xs⟩ :: rs) := (h.step j).got hr hv
/-- a second memory was made -/
theorem Law.two (h : Law w wr m f tr n G bs rs) (hM : Mem w3 (From wr.heap.size) m0 16 f0 tr0 n0) (hB : Below wr.heap.size wr w3) : Law2 w w3 m f tr n G m0 f0 tr0 n0 (fun i => From wr.heap.size i ∧ i < w3.heap.size) bs rs := by
  have hq := h.quiet hB
  refine ⟨hq.wk, Wk.made hM hq.below h.size, fun i hi hg => ?_, fun z hz => ⟨(hq.hold.box z hz).1, ?_⟩, fun r hr => ⟨(hq.hold.row r hr).1, fun i hi => ?_⟩, hq.hold.once, ?_⟩
  · have h1 := h.hold.lt i hi
    have h2 : wr.heap.size ≤ i := hg.1
    omega
  · rintro (hg | hg)
    · exact (hq.hold.box z hz).2 hg
    · have h1 := (h.hold.box z hz).1.lt
      have h2 : wr.heap.size ≤ z.b := hg.1
      omega
  · rintro (hg | hg)
    · exact (hq.hold.row r hr).2 i hi hg
    · have h1 := (own_lt (h.hold.row r hr).1 hi).2
      have h2 : wr.heap.size ≤ i := hg.1
      omega
  · rintro i (hg | hg)
    · exact hq.hold.lt i hg
    · exact hg.2
theorem Law2.world (h : Law2 w wr m f tr n G m0 f0 tr0 n0 H bs rs) (e : wr = w3) : Law2 w w3 m f tr n G m0 f0 tr0 n0 H bs rs := e ▸ h
theorem Law2.below (h : Law2 w wr m f tr n G m0 f0 tr0 n0 H bs rs) : Below w.heap.size w wr := h.m.belowW
theorem Law2.quiet (h : Law2 w wr m f tr n G m0 f0 tr0 n0 H bs rs) (hb : Below wr.heap.size wr w3) : Law2 w w3 m f tr n G m0 f0 tr0 n0 H bs rs := ⟨h.m.quiet hb, h.k.quiet hb, h.free, h.hold.quiet hb⟩
theorem Law2.step (h : Law2 w wr m f tr n G m0 f0 tr0 n0 H bs rs) (j : Wk wr w4 G m 16 f' tr' n' G') : Law2 w w4 m f' tr' n' G' m0 f0 tr0 n0 H bs rs := by
  refine ⟨h.m.join j, h.k.other j.turn (fun i _ hg hh => h.free i hg hh) (fun i hi => (h.m.foot i hi).2), fun i hi hh => j.free (fun hg => h.free i hg hh) (h.k.foot i hh).1 hi, ?_⟩
  have hb : ∀ i, ¬ (G i ∨ H i) → i < wr.heap.size → ¬ (G' i ∨ H i) := fun i hn hl hg => by
    rcases hg with hg | hg
    · exact j.free (fun h' => hn (Or.inl h')) hl hg
    · exact hn (Or.inr hg)
  exact ⟨fun z hz => ⟨(h.hold.box z hz).1.turn j.turn (fun hg => (h.hold.box z hz).2 (Or.inl hg)), hb _ (h.hold.box z hz).2 (h.hold.box z hz).1.lt⟩,
    fun r hr => ⟨own_turn (h.hold.row r hr).1 j.turn (fun i hi hg => (h.hold.row r hr).2 i hi (Or.inl hg)), fun i hi => hb i ((h.hold.row r hr).2 i hi) (own_lt (h.hold.row r hr).1 hi).2⟩, h.hold.once,
    fun i hi => hi.elim (fun hg => (j.foot i hg).1) (fun hg => Nat.lt_of_lt_of_le (h.k.foot i hg).1 j.turn.size)⟩
theorem Law2.got (h : Law2 w wr m f tr n G m0 f0 tr0 n0 H bs rs) (hr : wr.ownsRow B e sz v k xs) (hv : ∀ i, v.ownBlock = some i → ¬ G i) (hh : ∀ i, v.ownBlock = some i → ¬ H i) : Law2 w wr m f tr n G m0 f0 tr0 n0 H bs (⟨e, sz, v, k, xs⟩ :: rs) :=
  ⟨h.m, h.k, h.free, h.hold.got hr fun i hi hg => hg.elim (hv i hi) (hh i hi)⟩
theorem Law2.stepGot (h : Law2 w wr m f tr n G m0 f0 tr0 n0 H bs rs) (j : Wk wr w4 G m 16 f' tr' n' G') (hr : w4.ownsRow B e sz v k xs) (hB : wr.heap.size ≤ B) (hv : ∀ i, v.ownBlock = some i → ¬ G' i) : Law2 w w4 m f' tr' n' G' m0 f0 tr0 n0 H bs (⟨e, sz, v, k, xs⟩ :: rs) :=
  (h.step j).got hr hv fun i hi hg => by have := (h.k.foot i hg).1; have := (own_lt hr hi).1; omega
theorem Law2.new (h : Law2 w wr m f tr n G m0 f0 tr0 n0 H bs rs) {b : Nat} (hb : wr.heap.size = b) (cs : Array Value) (t : TypeId) : Law2 w (wr.alloc (.cells cs t)) m f tr n G m0 f0 tr0 n0 H (⟨b, cs, t⟩ :: bs) rs := by
  subst hb; exact ⟨h.m.quiet (below_alloc1 _ _), h.k.quiet (below_alloc1 _ _), h.free, h.hold.new cs t⟩
theorem Law2.at_ (h : Law2 w wr m f tr n G m0 f0 tr0 n0 H bs rs) (k : Nat) {b : Nat} {cs : Array Value} {t : TypeId} (hk : bs[k]? = some ⟨b, cs, t⟩) : Blk wr b cs t := h.hold.at_ k hk
theorem Law2.of_ (h : Law2 w wr m f tr n G m0 f0 tr0 n0 H bs rs) (k : Nat) {e : TypeId} {sz n' : Nat} {v : Value} {xs : List Value} (hk : rs[k]? = some ⟨e, sz, v, n', xs⟩) : wr.ownsRow 0 e sz v n' xs := h.hold.of_ k hk
theorem Law2.off (h : Law2 w wr m f tr n G m0 f0 tr0 n0 H bs rs) (k : Nat) {e : TypeId} {sz n' : Nat} {v : Value} {xs : List Value} (hk : rs[k]? = some ⟨e, sz, v, n', xs⟩) : (∀ i, v.ownBlock = some i → ¬ G i) ∧ ∀ i, v.ownBlock = some i → ¬ H i :=
  ⟨fun i hi hg => h.hold.off k hk i hi (Or.inl hg), fun i hi hg => h.hold.off k hk i hi (Or.inr hg)⟩
end

section
variable {w wr w3 : World} {G : Nat → Prop} {bs : List BoxD} {rs : List RowD} {m n b : Nat} {f : Int → Int} {tr : List Int} {t : TypeId}
theorem Law.put3 {x0 x1 x2 y0 y1 y2 : Value} (h : Law w wr m f tr n G bs rs) (k : Nat) (hk : bs[k]? = some ⟨b, #[x0, x1, x2], t⟩) (hq : ((wr.setCell ⟨b, 0, none⟩ y0).setCell ⟨b, 1, none⟩ y1).setCell ⟨b, 2, none⟩ y2 = w3) (hr : rs.all (fun r => r.e != t) = true := by rfl) : Law w w3 m f tr n G (bs.set k ⟨b, #[y0, y1, y2], t⟩) rs := by
  subst hq; exact h.put k hk (turnB3 _ _ _ _ _) (setB3 (h.at_ k hk) _ _ _) hr
theorem Law.put4 {x0 x1 x2 x3 y0 y1 y2 y3 : Value} (h : Law w wr m f tr n G bs rs) (k : Nat) (hk : bs[k]? = some ⟨b, #[x0, x1, x2, x3], t⟩) (hq : (((wr.setCell ⟨b, 0, none⟩ y0).setCell ⟨b, 1, none⟩ y1).setCell ⟨b, 2, none⟩ y2).setCell ⟨b, 3, none⟩ y3 = w3) (hr : rs.all (fun r => r.e != t) = true := by rfl) : Law w w3 m f tr n G (bs.set k ⟨b, #[y0, y1, y2, y3], t⟩) rs := by
  subst hq; exact h.put k hk (turnB4 _ _ _ _ _ _) (setB4 (h.at_ k hk) _ _ _ _) hr
theorem Law.put7 {x0 x1 x2 x3 x4 x5 x6 y0 y1 y2 y3 y4 y5 y6 : Value} (h : Law w wr m f tr n G bs rs) (k : Nat) (hk : bs[k]? = some ⟨b, #[x0, x1, x2, x3, x4, x5, x6], t⟩) (hq : ((((((wr.setCell ⟨b, 0, none⟩ y0).setCell ⟨b, 1, none⟩ y1).setCell ⟨b, 2, none⟩ y2).setCell ⟨b, 3, none⟩ y3).setCell ⟨b, 4, none⟩ y4).setCell ⟨b, 5, none⟩ y5).setCell ⟨b, 6, none⟩ y6 = w3) (hr : rs.all (fun r => r.e != t) = true := by rfl) : Law w w3 m f tr n G (bs.set k ⟨b, #[y0, y1, y2, y3, y4, y5, y6], t⟩) rs := by
  subst hq; exact h.put k hk (turnB7 _ _ _ _ _ _ _ _ _) (setB7 (h.at_ k hk) _ _ _ _ _ _ _) hr
end
/-- nothing that was there has turned -/
structure Grow (w wr : World) : Prop where
  h : Below w.heap.size w wr
theorem Grow.quiet {w wr w3 : World} (g : Grow w wr) (hb : Below wr.heap.size wr w3) : Grow w w3 := ⟨g.h.trans (hb.mono g.h.size)⟩
theorem Grow.put {w wr w3 : World} {b : Nat} (g : Grow w wr) (hb : w.heap.size ≤ b) (ht : Turn (fun i => i = b) wr w3) : Grow w w3 := ⟨turn_below g.h ht hb g.h.size⟩

/- steps of a region that draws its order, in few words -/
section
variable {P : Program} {ops : Array Oper} {Q : Exit → Act → World → Prop} {md : Region.Mode} {S : World → Prop}
theorem share {T G : Prop} (ht : T) (h : T → G) : G := h ht
/-- number i is taken first -/
theorem tk (i : Nat) {oi : Oper} {rest : List Oper} {v : Value} {fuel : Nat} {listed : Array Bool} {a : Act} {w : World}
    (hy : ∀ w, S w → (execOp a.eval oi).run P w = .ok (.value v) w) (h : wpAnyH P md ops Q S fuel (listed.setIfInBounds i true) (a.put oi.dst v) w)
    (hi : ops.toList.drop i = oi :: rest := by rfl) (hs : Region.noSelect ops = true := by kernel_rfl) (hf : Region.free md ops listed i = true := by kernel_rfl) (hr : (Region.ready md ops listed).contains i = true := by kernel_rfl)
    (hQ : ∀ c a w, Q (.panic c) (a.put oi.dst v) w → Q (.panic c) a w := by exact fun _ _ _ h => h) (hwt : Region.wanted oi (yielded ops a.tmps) = true := by rfl) (hS : S w := by assumption) : wpAnyH P md ops Q S (fuel + 1) listed a w :=
  anyH_take hi hs hf hr hQ hwt hS hy h
end
end Go.Proofs.YtopmmlcjlopmaaaGreatDoor
/- The walk of WalkSteps. -/
namespace Go.Proofs.YtopmmlcjlopmaaaGreatDoor
set_option linter.unusedVariables false
set_option linter.unusedSimpArgs false
open Go.ChangeShapes Go.WideShapes Go.ChangeAt Go.RowKit Go.Joins

/-- what lies where: the path's box, the steps, the trace -/
structure Sc (w0 wr : World) (b : Nat) (v vt : Value) (P : Pth) : Prop where
  box : Blk wr b (pathCells v P) 37
  steps : StepsIn wr v P.steps
  trace : WordsOwn wr vt (slotsP P.steps)
  below : Below w0.heap.size w0 wr

theorem Sc.quiet {w0 wr w3 : World} {b : Nat} {v vt : Value} {P : Pth} (h : Sc w0 wr b v vt P) (hb : Below wr.heap.size wr w3) : Sc w0 w3 b v vt P :=
  ⟨h.box.below hb, h.steps.below hb, own_below h.trace hb, h.below.trans (hb.mono h.below.size)⟩

end Go.Proofs.YtopmmlcjlopmaaaGreatDoor
