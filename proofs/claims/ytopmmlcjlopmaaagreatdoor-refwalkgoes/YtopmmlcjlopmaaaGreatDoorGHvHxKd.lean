/- Several texts of ours in one: Hv, Hx, Kd. -/
import Derived.Test.YtopmmlcjlopmaaaGreatDoorGHsHtKh
import Derived.Deep.RegionLaw
import Derived.Deep.AppendLies
import Derived.Test.YtopmmlcjlopmaaaGreatDoorGIcIfHw
import Derived.Test.YtopmmlcjlopmaaaGreatDoorGRjIaEr
import Derived.BigQuiet
import Derived.Test.YtopmmlcjlopmaaaGreatDoorGGuKcKe
import Derived.Test.YtopmmlcjlopmaaaGreatDoorGBxKfSo
/- real of layer 8: a path as the document has it. -/
namespace Go.Proofs.YtopmmlcjlopmaaaGreatDoor
set_option linter.unusedVariables false
set_option linter.unusedSimpArgs false
open Go.ChangeShapes Go.WideShapes Go.ChangeAt Go.RowKit Go.Joins

theorem take_more (S : List (Int × Int × Int)) {k : Nat} (hk : k < S.length) : S.take (k + 1) = S.take k ++ [stepAt S k] := by
  rw [List.take_add_one, List.getElem?_eq_getElem hk]
  simp [stepAt, List.getD, List.getElem?_eq_getElem hk]

/-- real, in its loop -/
structure Rea (w wr : World) (vin : Value) (P : Pth) (k : Nat) (v : Value) : Prop where
  box : Blk wr w.heap.size (pathCells vin P) 37
  res : Blk wr (w.heap.size + 1) (pathCells (.slice none 0 0) (offP 0)) 51
  pth : Blk wr (w.heap.size + 2) (pathCells v P) 51
  own : StepsOwn 97 wr (w.heap.size + 3) v (P.steps.take k)
  below : Below w.heap.size w wr

section
variable {w wr w3 w5 : World} {vin v v' : Value} {P : Pth} {k : Nat}
theorem Rea.start (w : World) (vin : Value) (P : Pth) : Rea w (((w.alloc (.cells (pathCells vin P) 37)).alloc (.cells (pathCells (.slice none 0 0) (offP 0)) 51)).alloc (.cells (pathCells (.slice none 0 0) P) 51)) vin P 0 (.slice none 0 0) := by
  have e1 : ∀ o, (w.alloc o).heap.size = w.heap.size + 1 := fun o => by simp
  have e2 : ∀ o o', ((w.alloc o).alloc o').heap.size = w.heap.size + 2 := fun o o' => by simp
  refine ⟨((Blk.new w _ _).alloc _).alloc _, ?_, ?_, StepsOwn.nil _ _ _, below3 w _ _ _⟩
  · have := (Blk.new (w.alloc (.cells (pathCells vin P) 37)) (pathCells (.slice none 0 0) (offP 0)) 51).alloc (.cells (pathCells (.slice none 0 0) P) 51)
    rwa [e1] at this
  · have := Blk.new ((w.alloc (.cells (pathCells vin P) 37)).alloc (.cells (pathCells (.slice none 0 0) (offP 0)) 51)) (pathCells (.slice none 0 0) P) 51
    rwa [e2] at this
theorem Rea.quiet (h : Rea w wr vin P k v) (hb : Below wr.heap.size wr w3) : Rea w w3 vin P k v :=
  ⟨h.box.below hb, h.res.below hb, h.pth.below hb, h.own.below hb, h.below.trans (hb.mono h.below.size)⟩
theorem Rea.more {l s x : Int} {u : TypeId} (h : Rea w wr vin P k v) (hk : k < P.steps.length) (hx : stepAt P.steps k = (l, s, x)) (hown : w5.ownsRow (w.heap.size + 3) 97 3 v' (k + 1) (stepCells (P.steps.take k) ++ [.int .i64 l, .int .u64 s, .int .u64 x]))
    (hg : (wr.alloc (.cells #[.int .i64 l, .int .u64 s, .int .u64 x] u)).grownBy w5 v.ownBlock) :
    Rea w (w5.setCell ⟨w.heap.size + 2, 0, none⟩ v') vin P (k + 1) v' ∧ Blk w5 (w.heap.size + 2) (pathCells v P) 51 := by
  have ht : Turn (fun i => v.ownBlock = some i) wr w5 := (Turn.alloc _ wr _).and (Turn.grown hg (fun i hi => hi))
  have hv : ∀ i, v.ownBlock = some i → w.heap.size + 3 ≤ i := fun i hi => (h.own.lt hi).1
  have n0 : ¬ v.ownBlock = some w.heap.size := fun e => by have := hv _ e; omega
  have n1 : ¬ v.ownBlock = some (w.heap.size + 1) := fun e => by have := hv _ e; omega
  have n2 : ¬ v.ownBlock = some (w.heap.size + 2) := fun e => by have := hv _ e; omega
  have hs : StepsOwn 97 w5 (w.heap.size + 3) v' (P.steps.take (k + 1)) := by
    rw [take_more _ hk, hx]
    exact StepsOwn.more (by rw [List.length_take, Nat.min_eq_left (by omega)]; exact hown)
  have hp5 := h.pth.turn ht n2
  have t2 := turn1 w5 (w.heap.size + 2) 0 v'
  have b5 : Below w.heap.size w w5 := h.below.trans (ht.below (fun i hi => by have := hv i hi; omega) h.below.size)
  exact ⟨⟨(h.box.turn ht n0).turn t2 (by omega), (h.res.turn ht n1).turn t2 (by omega), hp5.set1 0 v', hs.turn t2 (fun i hi e => by have := (hs.lt hi).1; omega), turn_below b5 t2 (by omega) b5.size⟩, hp5⟩
end

set_option maxRecDepth 100000 in
set_option maxHeartbeats 3200000 in
theorem real_any (w : World) (A : Option Addr) (L c : Nat) (P : Pth) (hL : P.steps.length = L) (hS : StepsIn w (.slice A L c) P.steps) (hl : L * 24 ≤ 140737488355328) :
    Calls Tryz.prog 14 #[pathV (.slice A L c) P.why P.W P.U P.X P.lev P.fr] w fun e w' => ∃ A' c', e = .returned (pathV (.slice A' L c') P.why P.W P.U P.X P.lev P.fr) ∧ StepsOwn 97 w' w.heap.size (.slice A' L c') P.steps ∧ Below w.heap.size w w' := by
  obtain ⟨i0, hi, hz0, hz1, hz2⟩ := info_parts infoRStep
  have HP := Lib.hid (Rea.start w (.slice A L c) P)
  have HL := Lib.hid hL
  have HS := Lib.hid hS
  clear hL hS
  go_enter Tryz.func14, Tryz.ntmps14
  go_wp2
  go_loopw [4] (fun i wr => ∃ (k : Nat) (v : Value), k ≤ L ∧ i = .int .i64 k ∧ Rea w wr (.slice A L c) P k v) (fun i _ => (L - intOf i).toNat)
  case atStart => exact ⟨0, _, by omega, rfl, HP.out⟩
  case round =>
    obtain ⟨k, v, hk, rfl, hR⟩ := hrel
    clear HP
    have HR := Lib.hid hR
    obtain ⟨A1, c1, rfl⟩ := hR.own.form
    clear hR
    obtain ⟨p0, p1, p2, p3, p4, p5, p6⟩ := HR.out.box.seven
    have hlk : (P.steps.take k).length = k := by rw [List.length_take, Nat.min_eq_left (by rw [HL.out]; exact hk)]
    rw [hlk] at HR
    by_cases hlt : k < L
    · obtain ⟨ad, rfl, d0, d1, d2⟩ := steps_at (HS.out.below HR.out.below) (k := k) (by rw [HL.out]; exact hlt)
      obtain ⟨q0, q1, q2, q3, q4, q5, q6⟩ := HR.out.pth.seven
      generalize hst : stepAt P.steps k = st at *
      obtain ⟨l, s, x⟩ := st
      have HST := Lib.hid hst
      clear hst
      go_wp2
      have HR2 := Lib.hid (HR.out.quiet (Kept.drew0 wr))
      have HO2 : Hid (wr.drew.ownsRow (w.heap.size + 3) 97 3 (.slice A1 k c1) k (stepCells (P.steps.take k))) := Lib.hid (by have := HR2.out.own; unfold StepsOwn at this; rw [hlk] at this; exact this)
      have HZ2 : Hid (w.heap.size + 3 ≤ wr.heap.size) := Lib.hid (by have := HR.out.pth.lt; omega)
      have al0 : ∀ o, (wr.alloc o).cell? ⟨w.heap.size + 1 + 1, 0, none⟩ = some (.slice A1 k c1) := fun o => (World.cell?_of_block (a := ⟨w.heap.size + 2, 0, none⟩) (Deep.blk_alloc_lt _ _ _ HR.out.pth.lt)).trans q0
      clear HR hlk
      go_region_law (refine step_append_lies _ rfl _ _ 48 rfl (w.heap.size + 3) 97 i0 _ 3 24 Tryz.underlying48 hi hz0 hz1 hz2 rfl (by decide) (.slice A1 k c1) k (stepCells (P.steps.take k)) rfl (World.ownsRow.alloc HO2.out _) ⟨wr.drew.heap.size, 0, none⟩ 1 1 [.int .i64 l, .int .u64 s, .int .u64 x] rfl rfl (three_cells _ _ _ _ _) (three_one _ _ _) (by decide) (by unfold maxLen; omega) (by omega) (by have := HZ2.out; simp; omega) _ rfl ?_; intro g5 cap5 w5 hown' hgrow hat hlt5; have HN := Lib.hid (HR2.out.more (by rw [HL.out]; exact hlt) HST.out hown' hgrow); clear hgrow hown' hat hlt5; obtain ⟨p0, p1, p2, p3, p4, p5, p6⟩ := HN.out.2.seven; have q0 := HN.out.2.fz 0)
      all_goals
        go_wp2
        go_roundw
        case rel => exact ⟨k + 1, _, by omega, by go_num, HN.out.1⟩
        case measure => simp [intOf]; omega
    · have hle : L ≤ k := by omega
      obtain rfl : k = L := by omega
      obtain ⟨q0, q1, q2, q3, q4, q5, q6⟩ := HR.out.pth.seven
      obtain ⟨r0, r1, r2, r3, r4, r5, r6⟩ := HR.out.res.seven
      have s0 := HR.out.res.fz 0; have s1 := HR.out.res.fz 1; have s2 := HR.out.res.fz 2; have s3 := HR.out.res.fz 3; have s4 := HR.out.res.fz 4; have s5 := HR.out.res.fz 5; have s6 := HR.out.res.fz 6
      clear hlk hk hlt
      go_wp2
      have HE : Hid (P.steps.take k = P.steps) := Lib.hid (by rw [← HL.out]; exact List.take_length)
      refine bodyPost_ret (results_cell_row rfl _ _ (w.heap.size + 1) _ _ _ _ rfl (HR.out.res.set7 _ _ _ _ _ _ _) Tryz.underlying51 rfl rfl) rfl ⟨A1, c1, rfl, ?_, turn_below HR.out.below (turn7 _ _ _ _ _ _ _ _ _) (by omega) HR.out.below.size⟩
      have ho := HR.out.own
      rw [HE.out] at ho
      exact (ho.down (by omega)).turn (turn7 _ _ _ _ _ _ _ _ _) (fun i hi e => by have := (ho.lt hi).1; omega)
end Go.Proofs.YtopmmlcjlopmaaaGreatDoor
/- The document's Same, where two paths' heads are the same; both Sames of any two paths. -/
namespace Go.Proofs.YtopmmlcjlopmaaaGreatDoor
set_option linter.unusedVariables false
set_option linter.unusedSimpArgs false
open Go.ChangeShapes Go.WideShapes Go.ChangeAt Go.RowKit Go.Joins

/-- two of the document's paths in the variables of a call -/
structure RTwo (w wr : World) (pb : Nat) (v : Value) (P : Pth) (qb : Nat) (v' : Value) (Q : Pth) : Prop where
  boxP : Blk wr pb (pathCells v P) 51
  boxQ : Blk wr qb (pathCells v' Q) 51
  stepsP : StepsIn wr v P.steps
  stepsQ : StepsIn wr v' Q.steps
  below : Below w.heap.size w wr

section
variable {w wr w3 : World} {pb qb : Nat} {v v' : Value} {P Q : Pth}
theorem RTwo.quiet (h : RTwo w wr pb v P qb v' Q) (hb : Below wr.heap.size wr w3) : RTwo w w3 pb v P qb v' Q :=
  ⟨h.boxP.below hb, h.boxQ.below hb, h.stepsP.below hb, h.stepsQ.below hb, h.below.trans (hb.mono h.below.size)⟩
theorem RTwo.start (h1 : StepsIn w v P.steps) (h2 : StepsIn w v' Q.steps) : RTwo w ((w.alloc (.cells (pathCells v P) 51)).alloc (.cells (pathCells v' Q) 51)) w.heap.size v P (w.heap.size + 1) v' Q :=
  ⟨(Blk.new w _ _).alloc _, last_obj2 w _ _, h1.below (below2 w _ _), h2.below (below2 w _ _), below2 w _ _⟩
end

set_option maxRecDepth 100000 in
set_option maxHeartbeats 3200000 in
theorem rsame_yes (w : World) (A A' : Option Addr) (L c c' : Nat) (S T : List (Int × Int × Int)) (y : Int) (W U X : Bool) (lv fr : Int) (hL : S.length = L) (hT : T.length = L) (hS1 : StepsIn w (.slice A L c) S) (hS2 : StepsIn w (.slice A' L c') T) (hl : L ≤ maxLen) (hw1 : ∀ k, k < L → W64 (stepAt S k).2.2) (hw2 : ∀ k, k < L → W64 (stepAt T k).2.2) :
    Calls Tryz.prog 13 #[pathV (.slice A L c) y W U X lv fr, pathV (.slice A' L c') y W U X lv fr] w fun e w' => e = .returned (.bool (sameN S T L)) ∧ Below w.heap.size w w' := by
  have H0 := Lib.hid (RTwo.start (P := ⟨S, y, W, U, X, lv, fr⟩) (Q := ⟨T, y, W, U, X, lv, fr⟩) hS1 hS2)
  have HL := Lib.hid hL
  have HT := Lib.hid hT
  have HW1 := Lib.hid hw1
  have HW2 := Lib.hid hw2
  clear hS1 hS2 hL hT hw1 hw2
  go_enter Tryz.func13, Tryz.ntmps13
  go_wp2
  go_loopw [5] (fun i wr => ∃ k : Nat, k ≤ L ∧ i = .int .i64 k ∧ RTwo w wr w.heap.size (.slice A L c) ⟨S, y, W, U, X, lv, fr⟩ (w.heap.size + 1) (.slice A' L c') ⟨T, y, W, U, X, lv, fr⟩ ∧ sameN S T k = true) (fun i _ => (L - intOf i).toNat)
  case atStart => exact ⟨0, by omega, rfl, H0.out, rfl⟩
  case round =>
    obtain ⟨k, hk, rfl, hB, hY⟩ := hrel
    clear H0
    have HB := Lib.hid hB
    have HY := Lib.hid hY
    clear hB hY
    obtain ⟨p0, p1, p2, p3, p4, p5, p6⟩ := HB.out.boxP.seven
    by_cases hlt : k < L
    · obtain ⟨ad, rfl, d0, d1, d2⟩ := steps_at HB.out.stepsP (k := k) (by show k < S.length; rw [HL.out]; exact hlt)
      obtain ⟨ad', rfl, g0, g1, g2⟩ := steps_at HB.out.stepsQ (k := k) (by show k < T.length; rw [HT.out]; exact hlt)
      obtain ⟨q0, q1, q2, q3, q4, q5, q6⟩ := HB.out.boxQ.seven
      have HN : Hid (sameN S T (k + 1) = (sameN S T k && ((stepAt S k).1 == (stepAt T k).1 && ((stepAt S k).2.1 == (stepAt T k).2.1 && bareF (stepAt S k).2.2 == bareF (stepAt T k).2.2)))) := Lib.hid rfl
      have HNo : Hid (sameN S T (k + 1) = false → sameN S T L = false) := Lib.hid (same_false (by omega))
      have HX := Lib.hid (HW1.out k hlt)
      have HX' := Lib.hid (HW2.out k hlt)
      change wr.cell? _ = some (.int .i64 (stepAt S k).1) at d0
      change wr.cell? _ = some (.int .u64 (stepAt S k).2.1) at d1
      change wr.cell? _ = some (.int .u64 (stepAt S k).2.2) at d2
      change wr.cell? _ = some (.int .i64 (stepAt T k).1) at g0
      change wr.cell? _ = some (.int .u64 (stepAt T k).2.1) at g1
      change wr.cell? _ = some (.int .u64 (stepAt T k).2.2) at g2
      generalize (stepAt S k).1 = l at *
      generalize (stepAt S k).2.1 = s at *
      generalize (stepAt S k).2.2 = x at *
      generalize (stepAt T k).1 = l' at *
      generalize (stepAt T k).2.1 = s' at *
      generalize (stepAt T k).2.2 = x' at *
      have G0 : ∀ o, (wr.alloc o).cell? (ad'.add (k * 3)) = some (.int .i64 l') := fun o => (World.cell?_of_block (Deep.blk_alloc_lt _ _ _ (World.block_lt_of_cell? _ _ g0))).trans g0
      have G1 : ∀ o, (wr.alloc o).cell? ⟨(ad'.add (k * 3)).block, (ad'.add (k * 3)).off + 1, none⟩ = some (.int .u64 s') := fun o => (World.cell?_of_block (a := ⟨(ad'.add (k * 3)).block, (ad'.add (k * 3)).off + 1, none⟩) (Deep.blk_alloc_lt _ _ _ (World.block_lt_of_cell? _ _ g1))).trans g1
      have G2 : ∀ o, (wr.alloc o).cell? ⟨(ad'.add (k * 3)).block, (ad'.add (k * 3)).off + 2, none⟩ = some (.int .u64 x') := fun o => (World.cell?_of_block (a := ⟨(ad'.add (k * 3)).block, (ad'.add (k * 3)).off + 2, none⟩) (Deep.blk_alloc_lt _ _ _ (World.block_lt_of_cell? _ _ g2))).trans g2
      have hbl := HB.out.boxQ.lt
      have e9 : IntKind.i64.wrap ((k : Int) + 1) = (k : Int) + 1 := i64_wrap (by omega) (by unfold maxLen at hl; omega)
      go_upto_region 8 with fail
      obtain ⟨w1, hw1⟩ : ∃ w1, (wr.alloc (.cells #[.int .i64 l, .int .u64 s, .int .u64 x] 97)).alloc (.cells #[.int .i64 l', .int .u64 s', .int .u64 x'] 97) = w1 := ⟨_, rfl⟩
      have HB1 : Hid (RTwo w w1 w.heap.size (.slice (some ad) L c) ⟨S, y, W, U, X, lv, fr⟩ (w.heap.size + 1) (.slice (some ad') L c') ⟨T, y, W, U, X, lv, fr⟩) := Lib.hid (by rw [← hw1]; exact HB.out.quiet (below2 _ _ _))
      have hs1 : Blk w1 wr.heap.size #[.int .i64 l, .int .u64 s, .int .u64 x] 97 := by rw [← hw1]; exact (Blk.new wr _ _).alloc _
      have hs2 : Blk w1 (wr.heap.size + 1) #[.int .i64 l', .int .u64 s', .int .u64 x'] 97 := by rw [← hw1]; exact last_obj2 wr _ _
      obtain ⟨s0, s1, s2⟩ := hs1.three8
      obtain ⟨t0, t1, t2⟩ := hs2.three8
      rw [hw1]
      clear hw1 hs1 hs2 G0 G1 G2 d0 d1 d2 g0 g1 g2 HB p0 p1 p2 p3 p4 p5 p6 q0 q1 q2 q3 q4 q5 q6 hbl
      generalize wr.heap.size = sb at *
      obtain ⟨z, hz⟩ : ∃ z, bareF x = z := ⟨_, rfl⟩
      obtain ⟨z', hz'⟩ : ∃ z', bareF x' = z' := ⟨_, rfl⟩
      have CX := fun k => bare_any x (w1.drewN k) HX.out
      have CX' := fun k => bare_any x' (w1.drewN k) HX'.out
      rw [hz] at CX HN
      rw [hz'] at CX' HN
      clear hz hz' HX HX'
      by_cases hl1 : l = l'
      · subst hl1
        have b1 : (l != l) = false := by simp
        by_cases hl2 : s = s'
        · subst hl2
          have b2 : (s != s) = false := by simp
          by_cases hl3 : z = z'
          · subst hl3
            have b3 : (z != z) = false := by simp
            have HN : Hid (sameN S T (k + 1) = true) := Lib.hid (by rw [HN.out, HY.out]; simp)
            clear HY HNo
            go_wp2
            go_quiet (first | (go_at_call 37; exact quietOf (CX _)) | (go_at_call 37; exact quietOf (CX' _)))
            have HB2 := Lib.hid (HB1.out.quiet (drewN_below w1 nq))
            clear HB1 s0 s1 s2 t0 t1 t2 CX CX'
            go_wp2
            go_roundw
            case rel => exact ⟨k + 1, by omega, by go_num, HB2.out, HN.out⟩
            case measure => simp [intOf]; omega
          · have b3 : (z != z') = true := by simpa using hl3
            have HN : Hid (sameN S T L = false) := Lib.hid (HNo.out (by rw [HN.out, show (z == z') = false by simpa using hl3]; simp))
            clear HY HNo hl3
            go_wp2
            go_quiet (first | (go_at_call 37; exact quietOf (CX _)) | (go_at_call 37; exact quietOf (CX' _)))
            have HB2 := Lib.hid (HB1.out.quiet (drewN_below w1 nq))
            clear HB1 s0 s1 s2 t0 t1 t2 CX CX'
            have HE := Lib.hid HB2.out.below
            clear HB2
            go_wp2
            go_ret
            exact ⟨by rw [HN.out]; rfl, HE.out⟩
        · have b2 : (s != s') = true := by simpa using hl2
          have HN : Hid (sameN S T L = false) := Lib.hid (HNo.out (by rw [HN.out, show (s == s') = false by simpa using hl2]; simp))
          clear HY HNo hl2
          go_wp2
          go_quiet (first | (go_at_call 37; exact quietOf (CX _)) | (go_at_call 37; exact quietOf (CX' _)))
          have HB2 := Lib.hid (HB1.out.quiet (drewN_below w1 nq))
          clear HB1 s0 s1 s2 t0 t1 t2 CX CX'
          have HE := Lib.hid HB2.out.below
          clear HB2
          go_wp2
          go_ret
          exact ⟨by rw [HN.out]; rfl, HE.out⟩
      · have b1 : (l != l') = true := by simpa using hl1
        have HN : Hid (sameN S T L = false) := Lib.hid (HNo.out (by rw [HN.out, show (l == l') = false by simpa using hl1]; simp))
        clear HY HNo hl1
        go_wp2
        go_quiet (first | (go_at_call 37; exact quietOf (CX _)) | (go_at_call 37; exact quietOf (CX' _)))
        have HB2 := Lib.hid (HB1.out.quiet (drewN_below w1 nq))
        clear HB1 s0 s1 s2 t0 t1 t2 CX CX'
        have HE := Lib.hid HB2.out.below
        clear HB2
        go_wp2
        go_ret
        exact ⟨by rw [HN.out]; rfl, HE.out⟩
    · have hle : L ≤ k := by omega
      obtain rfl : k = L := by omega
      go_wp2
      go_ret
      exact ⟨by rw [HY.out]; rfl, HB.out.below⟩

/-- are two paths the same, but for A and D? -/
abbrev headP (P Q : Pth) : Prop := P.why = Q.why ∧ P.W = Q.W ∧ P.U = Q.U ∧ P.X = Q.X ∧ P.lev = Q.lev ∧ P.fr = Q.fr ∧ P.steps.length = Q.steps.length
def alikeP (P Q : Pth) : Bool := if headP P Q then sameN P.steps Q.steps P.steps.length else false

theorem alikeP_self (P : Pth) : alikeP P P = true := by
  unfold alikeP
  rw [if_pos (by unfold headP; simp)]
  exact same_of _ (fun _ _ => ⟨rfl, rfl, rfl⟩)

theorem rsame_all (w : World) (P Q : Pth) (A A' : Option Addr) (L L' c c' : Nat) (hL : P.steps.length = L) (hL' : Q.steps.length = L') (h1 : StepsIn w (.slice A L c) P.steps) (h2 : StepsIn w (.slice A' L' c') Q.steps) (hl : L ≤ maxLen) (hw1 : ∀ k, k < P.steps.length → W64 (stepAt P.steps k).2.2) (hw2 : ∀ k, k < Q.steps.length → W64 (stepAt Q.steps k).2.2) :
    Calls Tryz.prog 13 #[pathV (.slice A L c) P.why P.W P.U P.X P.lev P.fr, pathV (.slice A' L' c') Q.why Q.W Q.U Q.X Q.lev Q.fr] w fun e w' => e = .returned (.bool (alikeP P Q)) ∧ Below w.heap.size w w' := by
  unfold alikeP
  by_cases h : headP P Q
  · rw [if_pos h]
    obtain ⟨e1, e2, e3, e4, e5, e6, e7⟩ := h
    obtain rfl : L = L' := by rw [← hL, ← hL', e7]
    rw [← e1, ← e2, ← e3, ← e4, ← e5, ← e6, hL]
    exact rsame_yes w A A' L c c' P.steps Q.steps P.why P.W P.U P.X P.lev P.fr hL hL' h1 h2 hl (by rw [← hL]; exact hw1) (by rw [← hL']; exact hw2)
  · rw [if_neg h]
    refine rsame_no w A A' L L' c c' _ _ _ _ _ _ _ _ _ _ _ _ (fun hh => h ?_)
    obtain ⟨e1, e2, e3, e4, e5, e6, e7⟩ := hh
    exact ⟨e1, e2, e3, e4, e5, e6, by rw [hL, hL', e7]⟩

set_option maxRecDepth 100000 in
/-- where the document's walk begins -/
theorem rtop_any (r : Int) (w : World) (hr : W64 r) :
    Calls Tryz.prog 33 #[.int .u64 r] w fun e w' => e = .returned (placeV 4 (tableF r) true true true) ∧ Below w.heap.size w w' := by
  go_enter Tryz.func33, Tryz.ntmps33
  go_wp2_with (first | (go_at_call 76; refine (rtable_any _ _ hr).mono ?_; rintro e w' ⟨rfl, rfl⟩))
  exact bodyPost_ret (results_cell_row rfl _ _ w.heap.size _ _ _ _ rfl (last_obj w _) Tryz.underlying90 rfl rfl) rfl ⟨rfl, below_alloc1 w _⟩
end Go.Proofs.YtopmmlcjlopmaaaGreatDoor
/- Layer 9: contract of the document's Translate. (Laid by tools/gen_kd.py.) -/
namespace Go.Proofs.YtopmmlcjlopmaaaGreatDoor
set_option linter.unusedVariables false
set_option linter.unusedSimpArgs false
open Go.ChangeShapes Go.WideShapes Go.ChangeAt Go.RowKit Go.Joins

theorem results_ccc {P : Program} {fn : Func} {p q r : Tmp} {ty tz ta : TypeId} (h : fn.results = #[.cell p ty, .cell q tz, .cell r ta]) (tmps : Array Value) (w : World) (g k l : Nat) {t u v : TypeId} {cs ds es : Array Value} {d e f : TypeDesc}
    (hg : Blk w g cs t) (hk : Blk w k ds u) (hl : Blk w l es v) (hp : tmps.getD p undef = .pointer (some ⟨g, 0, none⟩)) (hq : tmps.getD q undef = .pointer (some ⟨k, 0, none⟩)) (hr : tmps.getD r undef = .pointer (some ⟨l, 0, none⟩))
    (hu : P.underlying ty = some d) (hd : (match d with | .struct _ | .array _ _ => true | _ => false) = true) (hi : (P.info? ty).map (·.size) = some cs.size)
    (hu2 : P.underlying tz = some e) (hd2 : (match e with | .struct _ | .array _ _ => true | _ => false) = true) (hi2 : (P.info? tz).map (·.size) = some ds.size)
    (hu3 : P.underlying ta = some f) (hd3 : (match f with | .struct _ | .array _ _ => true | _ => false) = true) (hi3 : (P.info? ta).map (·.size) = some es.size) :
    (results fn tmps).run P w = .ok (.tuple #[.agg cs, .agg ds, .agg es]) w := by
  have hp' : tmps[p]?.getD undef = .pointer (some ⟨g, 0, none⟩) := by simpa using hp
  have hq' : tmps[q]?.getD undef = .pointer (some ⟨k, 0, none⟩) := by simpa using hq
  have hr' : tmps[r]?.getD undef = .pointer (some ⟨l, 0, none⟩) := by simpa using hr
  simp [results, h, hp', hq', hr', asAddr, run_loadVar_row w g t ty cs _ d hg hu hd hi, run_loadVar_row w k u tz ds _ e hk hu2 hd2 hi2, run_loadVar_row w l v ta es _ f hl hu3 hd3 hi3, Sem.run_bind, Result.andThen]

abbrev zeroRP : Array Value := pathCells (.slice none 0 0) (offP 0)
abbrev zeroMem : Array Value := docCells 0 (.slice none 0 0) (.slice none 0 0)

/-- the memory's words behind a translation -/
def outF (M : Int) (f : Int → Int) (P : Pth) (u : Usx) : Int → Int := if jmay P u = true then markN M f P.steps (u.k == 2) P.steps.length else f

/-- what the document's Translate answers of an address that is canonical -/
def RTAns (w : World) (vt0 : Value) (M : Int) (f : Int → Int) (tr : List Int) (L : List (Int × Int)) (P : Pth) (u : Usx) (a : Int) (e : Ending) (w' : World) : Prop :=
  ∃ v vs' vt' L', e = .returned (.tuple #[.agg (docCells M vs' vt'), .agg (ansCells (jans P u a)), .agg (pathCells v P)]) ∧ Doc w' M vs' vt' (outF M f P u) (tr ++ slotsP P.steps) L' ∧ L'.length ≤ L.length + P.steps.length ∧
    StepsOwn 97 w' w.heap.size v P.steps ∧ NewOr w vt0 vt' ∧ Below w.heap.size w w'

theorem rtr_start (w : World) (M : Int) (vs vt : Value) (u : Usx) : Mine w (((((w.alloc (.cells (docCells M vs vt) 45)).alloc (.cells (useCells u) 55)).alloc (.cells zeroMem 45)).alloc (.cells (ansCells ans0) 47)).alloc (.cells zeroRP 51))
    [⟨w.heap.size + 4, zeroRP, 51⟩, ⟨w.heap.size + 3, ansCells ans0, 47⟩, ⟨w.heap.size + 2, zeroMem, 45⟩, ⟨w.heap.size + 1, useCells u, 55⟩, ⟨w.heap.size, docCells M vs vt, 45⟩] [] :=
  (((((Mine.start w).new rfl _ _).new (by simp) _ _).new (by simp) _ _).new (by simp) _ _).new (by simp) _ _

set_option maxRecDepth 100000 in
theorem rtrans_gp {w : World} {M : Int} {vs vt : Value} {f : Int → Int} {tr : List Int} {L : List (Int × Int)} (h : Doc w M vs vt f tr L) (u : Usx) (a : Int) (ha : W64 a) (hc : canonF a = false) :
    Calls Tryz.prog 10 #[.agg (docCells M vs vt), useV u, .int .u64 a] w fun e w' => e = .returned (.tuple #[.agg (docCells M vs vt), .agg (ansCells ⟨0, 5, 0, 0⟩), .agg zeroRP]) ∧ Doc w' M vs vt f tr L ∧ Below w.heap.size w w' := by
  obtain ⟨A0, c0, A1, c1, rfl, rfl⟩ := h.form
  have CC := fun w' => rcanon_any a w' ha
  rw [hc] at CC
  have H0 := Lib.hid (rtr_start w M (.slice A0 L.length c0) (.slice A1 tr.length c1) u)
  have HD := Lib.hid h
  clear h ha hc
  go_enter Tryz.func10, Tryz.ntmps10
  go_upto_region 1 with fail
  generalize hw1 : ((((w.alloc _).alloc _).alloc _).alloc _).alloc _ = w1
  have H1 := Lib.hid (H0.out.world hw1)
  clear hw1 H0
  obtain ⟨b0, b1, b2⟩ := (H1.out.at_ 4 rfl).three
  go_upto_region 2 with (first | (go_at_call 17; refine (CC _).mono ?_; rintro e w' ⟨rfl, rfl⟩))
  obtain ⟨x0, x1, x2⟩ := (H1.out.at_ 2 rfl).three
  have y0 := (H1.out.at_ 2 rfl).fz 0; have y1 := (H1.out.at_ 2 rfl).fz 1; have y2 := (H1.out.at_ 2 rfl).fz 2
  obtain ⟨p0, p1, p2, p3⟩ := (H1.out.at_ 1 rfl).four
  have q0 := (H1.out.at_ 1 rfl).fz 0; have q1 := (H1.out.at_ 1 rfl).fz 1; have q2 := (H1.out.at_ 1 rfl).fz 2; have q3 := (H1.out.at_ 1 rfl).fz 3
  obtain ⟨r0, r1, r2, r3, r4, r5, r6⟩ := (H1.out.at_ 0 rfl).seven
  have s0 := (H1.out.at_ 0 rfl).fz 0; have s1 := (H1.out.at_ 0 rfl).fz 1; have s2 := (H1.out.at_ 0 rfl).fz 2; have s3 := (H1.out.at_ 0 rfl).fz 3; have s4 := (H1.out.at_ 0 rfl).fz 4; have s5 := (H1.out.at_ 0 rfl).fz 5; have s6 := (H1.out.at_ 0 rfl).fz 6
  go_wp2
  generalize hq2 : ((w1.setCell _ _).setCell _ _).setCell _ _ = w2
  have H2 := Lib.hid (H1.out.put3 2 rfl hq2)
  generalize hq3 : (((w2.setCell _ _).setCell _ _).setCell _ _).setCell _ _ = w3
  have H3 := Lib.hid (H2.out.put4 1 rfl hq3)
  generalize hq4 : ((((((w3.setCell _ _).setCell _ _).setCell _ _).setCell _ _).setCell _ _).setCell _ _).setCell _ _ = w4
  have H4 := Lib.hid (H3.out.put7 0 rfl hq4)
  refine bodyPost_ret (results_ccc rfl _ _ _ _ _ (H4.out.at_ 2 rfl) (H4.out.at_ 1 rfl) (H4.out.at_ 0 rfl) rfl rfl rfl Tryz.underlying45 rfl rfl Tryz.underlying47 rfl rfl Tryz.underlying51 rfl rfl) rfl ?_
  exact ⟨rfl, HD.out.quiet H4.out.below, H4.out.below⟩

set_option maxRecDepth 100000 in
set_option maxHeartbeats 16000000 in
theorem rtrans_any {w : World} {M : Int} {vs vt : Value} {f : Int → Int} {tr : List Int} {L : List (Int × Int)} (h : Doc w M vs vt f tr L) (hM : 14 ≤ M ∧ M ≤ 22) (hl : L.length < 40000) (htr : tr.length < 1000) (hwd : ∀ j, W64 (f j)) (u : Usx) (a : Int) (hr : W64 u.root) (ha : W64 a) (hc : canonF a = true)
    (P : Pth) (hP : walkZ M f a u.nxe 4 (tableF u.root) true true true = P) (hn : P.steps.length ≤ 4) (hw : ∀ k, k < P.steps.length → W64 (stepAt P.steps k).2.1) :
    Calls Tryz.prog 10 #[.agg (docCells M vs vt), useV u, .int .u64 a] w (RTAns w vt M f tr L P u a) := by
  obtain ⟨A0, c0, A1, c1, rfl, rfl⟩ := h.form
  have CC := fun w' => rcanon_any a w' ha
  rw [hc] at CC
  have CT := fun w' => rtop_any u.root w' hr
  have CF : ∀ w', Below w.heap.size w w' → Calls Tryz.prog 32 #[.agg (docCells M (.slice A0 L.length c0) (.slice A1 tr.length c1)), placeV 4 (tableF u.root) true true true, .int .u64 a, .bool u.nxe] w' (RAns w' (.slice A1 tr.length c1) M (.slice A0 L.length c0) f tr L P) := fun w' hb => by
    rw [← hP]; exact rfrom_any (h.quiet hb) hM (by omega) htr hwd 4 (tableF u.root) a true true true u.nxe (w64_table _) ha
  obtain ⟨N, hN⟩ : ∃ N, P.steps.length = N := ⟨_, rfl⟩
  obtain ⟨T, hT⟩ : ∃ T, tr ++ slotsP P.steps = T := ⟨_, rfl⟩
  have HTl : Hid (T.length = tr.length + N) := Lib.hid (by rw [← hT, ← hN]; simp [slotsP])
  have HT := Lib.hid hT
  have HNN := Lib.hid hN
  have H0 := Lib.hid (rtr_start w M (.slice A0 L.length c0) (.slice A1 tr.length c1) u)
  have HA := Lib.hid ha
  have HM := Lib.hid hM
  have HWd := Lib.hid hwd
  rw [hN] at hn hw
  have HW := Lib.hid hw
  unfold RAns at CF
  rw [hT] at CF
  unfold RTAns
  rw [hT, hN]
  clear h hr ha hc hP hw hwd hM hT hN
  go_enter Tryz.func10, Tryz.ntmps10
  go_upto_region 1 with fail
  generalize hw1 : ((((w.alloc _).alloc _).alloc _).alloc _).alloc _ = w0
  have H1 := Lib.hid (H0.out.world hw1)
  clear hw1 H0
  go_upto_region 3 with (first | (go_at_call 17; refine (CC _).mono ?_; rintro e w' ⟨rfl, rfl⟩))
  go_cut [9, 10] from 18 (fun s9 s10 wc => ∃ (z12 z13 : Nat) (A5 A6 : Option Addr) (c5 c6 : Nat), s9 = .pointer (some ⟨z12, 0, none⟩) ∧ s10 = .pointer (some ⟨z13, 0, none⟩) ∧ Hid (Mine w wc [⟨z13, pathCells (.slice A5 N c5) P, 51⟩, ⟨z12, docCells M (.slice A0 L.length c0) (.slice A6 T.length c6), 45⟩, ⟨w.heap.size + 4, zeroRP, 51⟩, ⟨w.heap.size + 3, ansCells ans0, 47⟩, ⟨w.heap.size + 2, zeroMem, 45⟩, ⟨w.heap.size + 1, useCells u, 55⟩, ⟨w.heap.size, docCells M (.slice A0 L.length c0) (.slice A1 tr.length c1), 45⟩] [⟨97, 3, .slice A5 N c5, P.steps.length, stepCells P.steps⟩]) ∧ Hid (Doc wc M (.slice A0 L.length c0) (.slice A6 T.length c6) f T L) ∧ Hid (NewOr w (.slice A1 tr.length c1) (.slice A6 T.length c6)))
  case first =>
    refine wp_region_held_drew (S := fun w' => Mine w w' _ _) (by kernel_rfl) ((H1.out.quiet (Kept.drew0 w0)).pick [3, 4] []) (fun hHeld => ?_)
    have HX := Lib.hid (H1.out.quiet (Kept.drew0 w0))
    clear H1
    have H1 := HX
    clear HX
    generalize w0.drew = w1 at *
    refine tk (v := ?_) 0 ?_ ?_
    rotate_left
    · intro w hSw
      obtain ⟨q0, q1, q2, q3, q4, q5, q6, q7⟩ := (hSw.at_ 0 rfl).eight
      obtain ⟨c0, c1, c2⟩ := (hSw.at_ 1 rfl).three
      go_simp
      (try with_reducible rfl)
    (try simp only [Act.put, List.setIfInBounds_toArray, List.set_cons_zero, List.set_cons_succ])
    refine tk (v := ?_) 1 ?_ ?_
    rotate_left
    · intro w hSw
      go_simp
      (try with_reducible rfl)
    (try simp only [Act.put, List.setIfInBounds_toArray, List.set_cons_zero, List.set_cons_succ])
    refine tk (v := ?_) 2 ?_ ?_
    rotate_left
    · intro w hSw
      obtain ⟨q0, q1, q2, q3, q4, q5, q6, q7⟩ := (hSw.at_ 0 rfl).eight
      obtain ⟨c0, c1, c2⟩ := (hSw.at_ 1 rfl).three
      go_simp
      (try with_reducible rfl)
    (try simp only [Act.put, List.setIfInBounds_toArray, List.set_cons_zero, List.set_cons_succ])
    refine tk (v := ?_) 4 ?_ ?_
    rotate_left
    · intro w hSw
      go_simp
      (try with_reducible rfl)
    (try simp only [Act.put, List.setIfInBounds_toArray, List.set_cons_zero, List.set_cons_succ])
    refine tk (v := ?_) 5 ?_ ?_
    rotate_left
    · intro w hSw
      go_simp
      (try with_reducible rfl)
    (try simp only [Act.put, List.setIfInBounds_toArray, List.set_cons_zero, List.set_cons_succ])
    refine tk (v := ?_) 6 ?_ ?_
    rotate_left
    · intro w hSw
      go_simp
      (try with_reducible rfl)
    (try simp only [Act.put, List.setIfInBounds_toArray, List.set_cons_zero, List.set_cons_succ])
    refine tk (v := ?_) 7 ?_ ?_
    rotate_left
    · intro w hSw
      obtain ⟨q0, q1, q2, q3, q4, q5, q6, q7⟩ := (hSw.at_ 0 rfl).eight
      obtain ⟨c0, c1, c2⟩ := (hSw.at_ 1 rfl).three
      go_simp
      (try with_reducible rfl)
    (try simp only [Act.put, List.setIfInBounds_toArray, List.set_cons_zero, List.set_cons_succ])
    refine wpAnyH_ready (rs := [3, 12, 13]) (by kernel_rfl) (by simp) ?_
    refine anyH_one rfl (fun K hK => ?_) ?_
    · go_simp
      refine (CT _).mono ?_
      rintro e w2 ⟨rfl, hB2⟩
      have H2 := Lib.hid (H1.out.quiet hB2)
      clear H1
      refine hK.out _ _ (H2.out.pick [3, 4] []) (fun hHeld => ?_)
      clear hK K
      (try simp only [Act.put, List.setIfInBounds_toArray, List.set_cons_zero, List.set_cons_succ])
      refine wpAnyH_ready (rs := [8, 12, 13]) (by kernel_rfl) (by simp) ?_
      refine anyH_one rfl (fun K hK => ?_) ?_
      · go_simp
        refine (CF _ H2.out.below).mono ?_
        rintro e w3 ⟨v, vt, rfl, hD, hS, hN, hB3⟩
        obtain ⟨A5, c5, hv⟩ := StepsOwn.form hS
        rw [HNN.out] at hv
        subst hv
        obtain ⟨_, _, A6, c6, _, rfl⟩ := Doc.form hD
        have H3 := Lib.hid (H2.out.quiet hB3)
        clear H2
        have HN := Lib.hid (hN.step (Or.inl rfl) (by have := hHeld.size; omega))
        have G3 := Lib.hid (H3.out.got hS (by have := hHeld.size; omega))
        have FD_3 := Lib.hid hD
        clear hD hS hN H3
        have H3 := G3
        clear G3
        refine hK.out _ _ (H3.out.pick [3, 4] []) (fun hHeld => ?_)
        clear hK K
        (try simp only [Act.put, List.setIfInBounds_toArray, List.set_cons_zero, List.set_cons_succ])
        refine tk (v := ?_) 9 ?_ ?_
        rotate_left
        · intro w hSw
          go_simp
          (try with_reducible rfl)
        (try simp only [Act.put, List.setIfInBounds_toArray, List.set_cons_zero, List.set_cons_succ])
        refine tk (v := ?_) 10 ?_ ?_
        rotate_left
        · intro w hSw
          go_simp
          (try with_reducible rfl)
        (try simp only [Act.put, List.setIfInBounds_toArray, List.set_cons_zero, List.set_cons_succ])
        refine tk (v := ?_) 11 ?_ ?_
        rotate_left
        · intro w hSw
          go_simp
          (try with_reducible rfl)
        (try simp only [Act.put, List.setIfInBounds_toArray, List.set_cons_zero, List.set_cons_succ])
        refine wpAnyH_ready (rs := [12, 13]) (by kernel_rfl) (by simp) ?_
        refine anyH_one rfl (fun K hK => ?_) ?_
        · go_simp
          generalize hq4 : w3.alloc _ = w4
          have hB4 : Below w3.heap.size w3 w4 := by rw [← hq4]; exact below_alloc1 _ _
          have H4 := Lib.hid ((H3.out.new (b := w3.heap.size) rfl _ _).world hq4)
          have FD_4 := Lib.hid (FD_3.out.quiet hB4)
          clear H3 hq4 hB4 FD_3
          generalize w3.heap.size = z12 at H4 ⊢
          refine hK.out _ _ (H4.out.pick [4, 5] []) (fun hHeld => ?_)
          clear hK K
          (try simp only [Act.put, List.setIfInBounds_toArray, List.set_cons_zero, List.set_cons_succ])
          refine wpAnyH_ready (rs := [13]) (by kernel_rfl) (by simp) ?_
          refine anyH_one rfl (fun K hK => ?_) ?_
          · go_simp
            generalize hq5 : w4.alloc _ = w5
            have hB5 : Below w4.heap.size w4 w5 := by rw [← hq5]; exact below_alloc1 _ _
            have H5 := Lib.hid ((H4.out.new (b := w4.heap.size) rfl _ _).world hq5)
            have FD_5 := Lib.hid (FD_4.out.quiet hB5)
            clear H4 hq5 hB5 FD_4
            generalize w4.heap.size = z13 at H5 ⊢
            refine hK.out _ _ (H5.out.pick [5, 6] []) (fun hHeld => ?_)
            clear hK K
            (try simp only [Act.put, List.setIfInBounds_toArray, List.set_cons_zero, List.set_cons_succ])
            refine wpAnyH_ready (rs := [14]) (by kernel_rfl) (by simp) ?_
            refine anyH_one rfl (fun K hK => ?_) ?_
            · obtain ⟨r0, r1, r2⟩ := (H5.out.at_ 1 rfl).three
              have s0 := (H5.out.at_ 1 rfl).fz 0; have s1 := (H5.out.at_ 1 rfl).fz 1; have s2 := (H5.out.at_ 1 rfl).fz 2
              go_simp
              generalize hq6 : ((w5.setCell _ _).setCell _ _).setCell _ _ = w6
              have H6 := Lib.hid (H5.out.put3 1 rfl hq6)
              have FD_6 := Lib.hid (FD_5.out.box (H5.out.at_ 1 rfl) (by decide) (by decide) (hq6 ▸ turnB3 _ _ _ _ _))
              clear H5 hq6 r0 s0 r1 s1 r2 s2 FD_5
              refine hK.out _ _ (H6.out.pick [5, 6] []) (fun hHeld => ?_)
              clear hK K
              (try simp only [Act.put, List.setIfInBounds_toArray, List.set_cons_zero, List.set_cons_succ])
              refine wpAnyH_ready (rs := [15]) (by kernel_rfl) (by simp) ?_
              refine anyH_one rfl (fun K hK => ?_) ?_
              · obtain ⟨r0, r1, r2, r3, r4, r5, r6⟩ := (H6.out.at_ 0 rfl).seven
                have s0 := (H6.out.at_ 0 rfl).fz 0; have s1 := (H6.out.at_ 0 rfl).fz 1; have s2 := (H6.out.at_ 0 rfl).fz 2; have s3 := (H6.out.at_ 0 rfl).fz 3; have s4 := (H6.out.at_ 0 rfl).fz 4; have s5 := (H6.out.at_ 0 rfl).fz 5; have s6 := (H6.out.at_ 0 rfl).fz 6
                go_simp
                generalize hq7 : ((((((w6.setCell _ _).setCell _ _).setCell _ _).setCell _ _).setCell _ _).setCell _ _).setCell _ _ = w7
                have H7 := Lib.hid (H6.out.put7 0 rfl hq7)
                have FD_7 := Lib.hid (FD_6.out.box (H6.out.at_ 0 rfl) (by decide) (by decide) (hq7 ▸ turnB7 _ _ _ _ _ _ _ _ _))
                clear H6 hq7 r0 s0 r1 s1 r2 s2 r3 s3 r4 s4 r5 s5 r6 s6 FD_6
                refine hK.out _ _ (H7.out.pick [5, 6] []) (fun hHeld => ?_)
                clear hK K
                (try simp only [Act.put, List.setIfInBounds_toArray, List.set_cons_zero, List.set_cons_succ])
                refine wpAnyH_done (by kernel_rfl) ?_ _
                have HQ := Lib.hid (H7.out.pick [0, 1, 2, 3, 4, 5, 6] [0])
                go_wp2
                go_meet
                case rel => exact ⟨z12, z13, _, _, _, _, rfl, rfl, HQ, FD_7, HN⟩
              exact AllReadyH.nil
            exact AllReadyH.nil
          exact AllReadyH.nil
        refine anyH_one rfl (fun K hK => ?_) ?_
        · go_simp
          generalize hq4 : w3.alloc _ = w4
          have hB4 : Below w3.heap.size w3 w4 := by rw [← hq4]; exact below_alloc1 _ _
          have H4 := Lib.hid ((H3.out.new (b := w3.heap.size) rfl _ _).world hq4)
          have FD_4 := Lib.hid (FD_3.out.quiet hB4)
          clear H3 hq4 hB4 FD_3
          generalize w3.heap.size = z13 at H4 ⊢
          refine hK.out _ _ (H4.out.pick [4, 5] []) (fun hHeld => ?_)
          clear hK K
          (try simp only [Act.put, List.setIfInBounds_toArray, List.set_cons_zero, List.set_cons_succ])
          refine wpAnyH_ready (rs := [12]) (by kernel_rfl) (by simp) ?_
          refine anyH_one rfl (fun K hK => ?_) ?_
          · go_simp
            generalize hq5 : w4.alloc _ = w5
            have hB5 : Below w4.heap.size w4 w5 := by rw [← hq5]; exact below_alloc1 _ _
            have H5 := Lib.hid ((H4.out.new (b := w4.heap.size) rfl _ _).world hq5)
            have FD_5 := Lib.hid (FD_4.out.quiet hB5)
            clear H4 hq5 hB5 FD_4
            generalize w4.heap.size = z12 at H5 ⊢
            refine hK.out _ _ (H5.out.pick [5, 6] []) (fun hHeld => ?_)
            clear hK K
            (try simp only [Act.put, List.setIfInBounds_toArray, List.set_cons_zero, List.set_cons_succ])
            refine wpAnyH_ready (rs := [14]) (by kernel_rfl) (by simp) ?_
            refine anyH_one rfl (fun K hK => ?_) ?_
            · obtain ⟨r0, r1, r2⟩ := (H5.out.at_ 0 rfl).three
              have s0 := (H5.out.at_ 0 rfl).fz 0; have s1 := (H5.out.at_ 0 rfl).fz 1; have s2 := (H5.out.at_ 0 rfl).fz 2
              go_simp
              generalize hq6 : ((w5.setCell _ _).setCell _ _).setCell _ _ = w6
              have H6 := Lib.hid (H5.out.put3 0 rfl hq6)
              have FD_6 := Lib.hid (FD_5.out.box (H5.out.at_ 0 rfl) (by decide) (by decide) (hq6 ▸ turnB3 _ _ _ _ _))
              clear H5 hq6 r0 s0 r1 s1 r2 s2 FD_5
              refine hK.out _ _ (H6.out.pick [5, 6] []) (fun hHeld => ?_)
              clear hK K
              (try simp only [Act.put, List.setIfInBounds_toArray, List.set_cons_zero, List.set_cons_succ])
              refine wpAnyH_ready (rs := [15]) (by kernel_rfl) (by simp) ?_
              refine anyH_one rfl (fun K hK => ?_) ?_
              · obtain ⟨r0, r1, r2, r3, r4, r5, r6⟩ := (H6.out.at_ 1 rfl).seven
                have s0 := (H6.out.at_ 1 rfl).fz 0; have s1 := (H6.out.at_ 1 rfl).fz 1; have s2 := (H6.out.at_ 1 rfl).fz 2; have s3 := (H6.out.at_ 1 rfl).fz 3; have s4 := (H6.out.at_ 1 rfl).fz 4; have s5 := (H6.out.at_ 1 rfl).fz 5; have s6 := (H6.out.at_ 1 rfl).fz 6
                go_simp
                generalize hq7 : ((((((w6.setCell _ _).setCell _ _).setCell _ _).setCell _ _).setCell _ _).setCell _ _).setCell _ _ = w7
                have H7 := Lib.hid (H6.out.put7 1 rfl hq7)
                have FD_7 := Lib.hid (FD_6.out.box (H6.out.at_ 1 rfl) (by decide) (by decide) (hq7 ▸ turnB7 _ _ _ _ _ _ _ _ _))
                clear H6 hq7 r0 s0 r1 s1 r2 s2 r3 s3 r4 s4 r5 s5 r6 s6 FD_6
                refine hK.out _ _ (H7.out.pick [5, 6] []) (fun hHeld => ?_)
                clear hK K
                (try simp only [Act.put, List.setIfInBounds_toArray, List.set_cons_zero, List.set_cons_succ])
                refine wpAnyH_done (by kernel_rfl) ?_ _
                have HQ := Lib.hid (H7.out.pick [1, 0, 2, 3, 4, 5, 6] [0])
                go_wp2
                go_meet
                case rel => exact ⟨z12, z13, _, _, _, _, rfl, rfl, HQ, FD_7, HN⟩
              exact AllReadyH.nil
            exact AllReadyH.nil
          exact AllReadyH.nil
        exact AllReadyH.nil
      refine anyH_one rfl (fun K hK => ?_) ?_
      · go_simp
        generalize hq3 : w2.alloc _ = w3
        have hB3 : Below w2.heap.size w2 w3 := by rw [← hq3]; exact below_alloc1 _ _
        have H3 := Lib.hid ((H2.out.new (b := w2.heap.size) rfl _ _).world hq3)
        clear H2 hq3 hB3
        generalize w2.heap.size = z12 at H3 ⊢
        refine hK.out _ _ (H3.out.pick [4, 5] []) (fun hHeld => ?_)
        clear hK K
        (try simp only [Act.put, List.setIfInBounds_toArray, List.set_cons_zero, List.set_cons_succ])
        refine wpAnyH_ready (rs := [8, 13]) (by kernel_rfl) (by simp) ?_
        refine anyH_one rfl (fun K hK => ?_) ?_
        · go_simp
          refine (CF _ H3.out.below).mono ?_
          rintro e w4 ⟨v, vt, rfl, hD, hS, hN, hB4⟩
          obtain ⟨A5, c5, hv⟩ := StepsOwn.form hS
          rw [HNN.out] at hv
          subst hv
          obtain ⟨_, _, A6, c6, _, rfl⟩ := Doc.form hD
          have H4 := Lib.hid (H3.out.quiet hB4)
          clear H3
          have HN := Lib.hid (hN.step (Or.inl rfl) (by have := hHeld.size; omega))
          have G4 := Lib.hid (H4.out.got hS (by have := hHeld.size; omega))
          have FD_4 := Lib.hid hD
          clear hD hS hN H4
          have H4 := G4
          clear G4
          refine hK.out _ _ (H4.out.pick [4, 5] []) (fun hHeld => ?_)
          clear hK K
          (try simp only [Act.put, List.setIfInBounds_toArray, List.set_cons_zero, List.set_cons_succ])
          refine tk (v := ?_) 9 ?_ ?_
          rotate_left
          · intro w hSw
            go_simp
            (try with_reducible rfl)
          (try simp only [Act.put, List.setIfInBounds_toArray, List.set_cons_zero, List.set_cons_succ])
          refine tk (v := ?_) 10 ?_ ?_
          rotate_left
          · intro w hSw
            go_simp
            (try with_reducible rfl)
          (try simp only [Act.put, List.setIfInBounds_toArray, List.set_cons_zero, List.set_cons_succ])
          refine tk (v := ?_) 11 ?_ ?_
          rotate_left
          · intro w hSw
            go_simp
            (try with_reducible rfl)
          (try simp only [Act.put, List.setIfInBounds_toArray, List.set_cons_zero, List.set_cons_succ])
          refine wpAnyH_ready (rs := [13]) (by kernel_rfl) (by simp) ?_
          refine anyH_one rfl (fun K hK => ?_) ?_
          · go_simp
            generalize hq5 : w4.alloc _ = w5
            have hB5 : Below w4.heap.size w4 w5 := by rw [← hq5]; exact below_alloc1 _ _
            have H5 := Lib.hid ((H4.out.new (b := w4.heap.size) rfl _ _).world hq5)
            have FD_5 := Lib.hid (FD_4.out.quiet hB5)
            clear H4 hq5 hB5 FD_4
            generalize w4.heap.size = z13 at H5 ⊢
            refine hK.out _ _ (H5.out.pick [5, 6] []) (fun hHeld => ?_)
            clear hK K
            (try simp only [Act.put, List.setIfInBounds_toArray, List.set_cons_zero, List.set_cons_succ])
            refine wpAnyH_ready (rs := [14]) (by kernel_rfl) (by simp) ?_
            refine anyH_one rfl (fun K hK => ?_) ?_
            · obtain ⟨r0, r1, r2⟩ := (H5.out.at_ 1 rfl).three
              have s0 := (H5.out.at_ 1 rfl).fz 0; have s1 := (H5.out.at_ 1 rfl).fz 1; have s2 := (H5.out.at_ 1 rfl).fz 2
              go_simp
              generalize hq6 : ((w5.setCell _ _).setCell _ _).setCell _ _ = w6
              have H6 := Lib.hid (H5.out.put3 1 rfl hq6)
              have FD_6 := Lib.hid (FD_5.out.box (H5.out.at_ 1 rfl) (by decide) (by decide) (hq6 ▸ turnB3 _ _ _ _ _))
              clear H5 hq6 r0 s0 r1 s1 r2 s2 FD_5
              refine hK.out _ _ (H6.out.pick [5, 6] []) (fun hHeld => ?_)
              clear hK K
              (try simp only [Act.put, List.setIfInBounds_toArray, List.set_cons_zero, List.set_cons_succ])
              refine wpAnyH_ready (rs := [15]) (by kernel_rfl) (by simp) ?_
              refine anyH_one rfl (fun K hK => ?_) ?_
              · obtain ⟨r0, r1, r2, r3, r4, r5, r6⟩ := (H6.out.at_ 0 rfl).seven
                have s0 := (H6.out.at_ 0 rfl).fz 0; have s1 := (H6.out.at_ 0 rfl).fz 1; have s2 := (H6.out.at_ 0 rfl).fz 2; have s3 := (H6.out.at_ 0 rfl).fz 3; have s4 := (H6.out.at_ 0 rfl).fz 4; have s5 := (H6.out.at_ 0 rfl).fz 5; have s6 := (H6.out.at_ 0 rfl).fz 6
                go_simp
                generalize hq7 : ((((((w6.setCell _ _).setCell _ _).setCell _ _).setCell _ _).setCell _ _).setCell _ _).setCell _ _ = w7
                have H7 := Lib.hid (H6.out.put7 0 rfl hq7)
                have FD_7 := Lib.hid (FD_6.out.box (H6.out.at_ 0 rfl) (by decide) (by decide) (hq7 ▸ turnB7 _ _ _ _ _ _ _ _ _))
                clear H6 hq7 r0 s0 r1 s1 r2 s2 r3 s3 r4 s4 r5 s5 r6 s6 FD_6
                refine hK.out _ _ (H7.out.pick [5, 6] []) (fun hHeld => ?_)
                clear hK K
                (try simp only [Act.put, List.setIfInBounds_toArray, List.set_cons_zero, List.set_cons_succ])
                refine wpAnyH_done (by kernel_rfl) ?_ _
                have HQ := Lib.hid (H7.out.pick [0, 1, 2, 3, 4, 5, 6] [0])
                go_wp2
                go_meet
                case rel => exact ⟨z12, z13, _, _, _, _, rfl, rfl, HQ, FD_7, HN⟩
              exact AllReadyH.nil
            exact AllReadyH.nil
          exact AllReadyH.nil
        refine anyH_one rfl (fun K hK => ?_) ?_
        · go_simp
          generalize hq4 : w3.alloc _ = w4
          have hB4 : Below w3.heap.size w3 w4 := by rw [← hq4]; exact below_alloc1 _ _
          have H4 := Lib.hid ((H3.out.new (b := w3.heap.size) rfl _ _).world hq4)
          clear H3 hq4 hB4
          generalize w3.heap.size = z13 at H4 ⊢
          refine hK.out _ _ (H4.out.pick [5, 6] []) (fun hHeld => ?_)
          clear hK K
          (try simp only [Act.put, List.setIfInBounds_toArray, List.set_cons_zero, List.set_cons_succ])
          refine wpAnyH_ready (rs := [8]) (by kernel_rfl) (by simp) ?_
          refine anyH_one rfl (fun K hK => ?_) ?_
          · go_simp
            refine (CF _ H4.out.below).mono ?_
            rintro e w5 ⟨v, vt, rfl, hD, hS, hN, hB5⟩
            obtain ⟨A5, c5, hv⟩ := StepsOwn.form hS
            rw [HNN.out] at hv
            subst hv
            obtain ⟨_, _, A6, c6, _, rfl⟩ := Doc.form hD
            have H5 := Lib.hid (H4.out.quiet hB5)
            clear H4
            have HN := Lib.hid (hN.step (Or.inl rfl) (by have := hHeld.size; omega))
            have G5 := Lib.hid (H5.out.got hS (by have := hHeld.size; omega))
            have FD_5 := Lib.hid hD
            clear hD hS hN H5
            have H5 := G5
            clear G5
            refine hK.out _ _ (H5.out.pick [5, 6] []) (fun hHeld => ?_)
            clear hK K
            (try simp only [Act.put, List.setIfInBounds_toArray, List.set_cons_zero, List.set_cons_succ])
            refine tk (v := ?_) 9 ?_ ?_
            rotate_left
            · intro w hSw
              go_simp
              (try with_reducible rfl)
            (try simp only [Act.put, List.setIfInBounds_toArray, List.set_cons_zero, List.set_cons_succ])
            refine tk (v := ?_) 10 ?_ ?_
            rotate_left
            · intro w hSw
              go_simp
              (try with_reducible rfl)
            (try simp only [Act.put, List.setIfInBounds_toArray, List.set_cons_zero, List.set_cons_succ])
            refine tk (v := ?_) 11 ?_ ?_
            rotate_left
            · intro w hSw
              go_simp
              (try with_reducible rfl)
            (try simp only [Act.put, List.setIfInBounds_toArray, List.set_cons_zero, List.set_cons_succ])
            refine wpAnyH_ready (rs := [14]) (by kernel_rfl) (by simp) ?_
            refine anyH_one rfl (fun K hK => ?_) ?_
            · obtain ⟨r0, r1, r2⟩ := (H5.out.at_ 1 rfl).three
              have s0 := (H5.out.at_ 1 rfl).fz 0; have s1 := (H5.out.at_ 1 rfl).fz 1; have s2 := (H5.out.at_ 1 rfl).fz 2
              go_simp
              generalize hq6 : ((w5.setCell _ _).setCell _ _).setCell _ _ = w6
              have H6 := Lib.hid (H5.out.put3 1 rfl hq6)
              have FD_6 := Lib.hid (FD_5.out.box (H5.out.at_ 1 rfl) (by decide) (by decide) (hq6 ▸ turnB3 _ _ _ _ _))
              clear H5 hq6 r0 s0 r1 s1 r2 s2 FD_5
              refine hK.out _ _ (H6.out.pick [5, 6] []) (fun hHeld => ?_)
              clear hK K
              (try simp only [Act.put, List.setIfInBounds_toArray, List.set_cons_zero, List.set_cons_succ])
              refine wpAnyH_ready (rs := [15]) (by kernel_rfl) (by simp) ?_
              refine anyH_one rfl (fun K hK => ?_) ?_
              · obtain ⟨r0, r1, r2, r3, r4, r5, r6⟩ := (H6.out.at_ 0 rfl).seven
                have s0 := (H6.out.at_ 0 rfl).fz 0; have s1 := (H6.out.at_ 0 rfl).fz 1; have s2 := (H6.out.at_ 0 rfl).fz 2; have s3 := (H6.out.at_ 0 rfl).fz 3; have s4 := (H6.out.at_ 0 rfl).fz 4; have s5 := (H6.out.at_ 0 rfl).fz 5; have s6 := (H6.out.at_ 0 rfl).fz 6
                go_simp
                generalize hq7 : ((((((w6.setCell _ _).setCell _ _).setCell _ _).setCell _ _).setCell _ _).setCell _ _).setCell _ _ = w7
                have H7 := Lib.hid (H6.out.put7 0 rfl hq7)
                have FD_7 := Lib.hid (FD_6.out.box (H6.out.at_ 0 rfl) (by decide) (by decide) (hq7 ▸ turnB7 _ _ _ _ _ _ _ _ _))
                clear H6 hq7 r0 s0 r1 s1 r2 s2 r3 s3 r4 s4 r5 s5 r6 s6 FD_6
                refine hK.out _ _ (H7.out.pick [5, 6] []) (fun hHeld => ?_)
                clear hK K
                (try simp only [Act.put, List.setIfInBounds_toArray, List.set_cons_zero, List.set_cons_succ])
                refine wpAnyH_done (by kernel_rfl) ?_ _
                have HQ := Lib.hid (H7.out.pick [0, 1, 2, 3, 4, 5, 6] [0])
                go_wp2
                go_meet
                case rel => exact ⟨z12, z13, _, _, _, _, rfl, rfl, HQ, FD_7, HN⟩
              exact AllReadyH.nil
            exact AllReadyH.nil
          exact AllReadyH.nil
        exact AllReadyH.nil
      refine anyH_one rfl (fun K hK => ?_) ?_
      · go_simp
        generalize hq3 : w2.alloc _ = w3
        have hB3 : Below w2.heap.size w2 w3 := by rw [← hq3]; exact below_alloc1 _ _
        have H3 := Lib.hid ((H2.out.new (b := w2.heap.size) rfl _ _).world hq3)
        clear H2 hq3 hB3
        generalize w2.heap.size = z13 at H3 ⊢
        refine hK.out _ _ (H3.out.pick [4, 5] []) (fun hHeld => ?_)
        clear hK K
        (try simp only [Act.put, List.setIfInBounds_toArray, List.set_cons_zero, List.set_cons_succ])
        refine wpAnyH_ready (rs := [8, 12]) (by kernel_rfl) (by simp) ?_
        refine anyH_one rfl (fun K hK => ?_) ?_
        · go_simp
          refine (CF _ H3.out.below).mono ?_
          rintro e w4 ⟨v, vt, rfl, hD, hS, hN, hB4⟩
          obtain ⟨A5, c5, hv⟩ := StepsOwn.form hS
          rw [HNN.out] at hv
          subst hv
          obtain ⟨_, _, A6, c6, _, rfl⟩ := Doc.form hD
          have H4 := Lib.hid (H3.out.quiet hB4)
          clear H3
          have HN := Lib.hid (hN.step (Or.inl rfl) (by have := hHeld.size; omega))
          have G4 := Lib.hid (H4.out.got hS (by have := hHeld.size; omega))
          have FD_4 := Lib.hid hD
          clear hD hS hN H4
          have H4 := G4
          clear G4
          refine hK.out _ _ (H4.out.pick [4, 5] []) (fun hHeld => ?_)
          clear hK K
          (try simp only [Act.put, List.setIfInBounds_toArray, List.set_cons_zero, List.set_cons_succ])
          refine tk (v := ?_) 9 ?_ ?_
          rotate_left
          · intro w hSw
            go_simp
            (try with_reducible rfl)
          (try simp only [Act.put, List.setIfInBounds_toArray, List.set_cons_zero, List.set_cons_succ])
          refine tk (v := ?_) 10 ?_ ?_
          rotate_left
          · intro w hSw
            go_simp
            (try with_reducible rfl)
          (try simp only [Act.put, List.setIfInBounds_toArray, List.set_cons_zero, List.set_cons_succ])
          refine tk (v := ?_) 11 ?_ ?_
          rotate_left
          · intro w hSw
            go_simp
            (try with_reducible rfl)
          (try simp only [Act.put, List.setIfInBounds_toArray, List.set_cons_zero, List.set_cons_succ])
          refine wpAnyH_ready (rs := [12]) (by kernel_rfl) (by simp) ?_
          refine anyH_one rfl (fun K hK => ?_) ?_
          · go_simp
            generalize hq5 : w4.alloc _ = w5
            have hB5 : Below w4.heap.size w4 w5 := by rw [← hq5]; exact below_alloc1 _ _
            have H5 := Lib.hid ((H4.out.new (b := w4.heap.size) rfl _ _).world hq5)
            have FD_5 := Lib.hid (FD_4.out.quiet hB5)
            clear H4 hq5 hB5 FD_4
            generalize w4.heap.size = z12 at H5 ⊢
            refine hK.out _ _ (H5.out.pick [5, 6] []) (fun hHeld => ?_)
            clear hK K
            (try simp only [Act.put, List.setIfInBounds_toArray, List.set_cons_zero, List.set_cons_succ])
            refine wpAnyH_ready (rs := [14]) (by kernel_rfl) (by simp) ?_
            refine anyH_one rfl (fun K hK => ?_) ?_
            · obtain ⟨r0, r1, r2⟩ := (H5.out.at_ 0 rfl).three
              have s0 := (H5.out.at_ 0 rfl).fz 0; have s1 := (H5.out.at_ 0 rfl).fz 1; have s2 := (H5.out.at_ 0 rfl).fz 2
              go_simp
              generalize hq6 : ((w5.setCell _ _).setCell _ _).setCell _ _ = w6
              have H6 := Lib.hid (H5.out.put3 0 rfl hq6)
              have FD_6 := Lib.hid (FD_5.out.box (H5.out.at_ 0 rfl) (by decide) (by decide) (hq6 ▸ turnB3 _ _ _ _ _))
              clear H5 hq6 r0 s0 r1 s1 r2 s2 FD_5
              refine hK.out _ _ (H6.out.pick [5, 6] []) (fun hHeld => ?_)
              clear hK K
              (try simp only [Act.put, List.setIfInBounds_toArray, List.set_cons_zero, List.set_cons_succ])
              refine wpAnyH_ready (rs := [15]) (by kernel_rfl) (by simp) ?_
              refine anyH_one rfl (fun K hK => ?_) ?_
              · obtain ⟨r0, r1, r2, r3, r4, r5, r6⟩ := (H6.out.at_ 1 rfl).seven
                have s0 := (H6.out.at_ 1 rfl).fz 0; have s1 := (H6.out.at_ 1 rfl).fz 1; have s2 := (H6.out.at_ 1 rfl).fz 2; have s3 := (H6.out.at_ 1 rfl).fz 3; have s4 := (H6.out.at_ 1 rfl).fz 4; have s5 := (H6.out.at_ 1 rfl).fz 5; have s6 := (H6.out.at_ 1 rfl).fz 6
                go_simp
                generalize hq7 : ((((((w6.setCell _ _).setCell _ _).setCell _ _).setCell _ _).setCell _ _).setCell _ _).setCell _ _ = w7
                have H7 := Lib.hid (H6.out.put7 1 rfl hq7)
                have FD_7 := Lib.hid (FD_6.out.box (H6.out.at_ 1 rfl) (by decide) (by decide) (hq7 ▸ turnB7 _ _ _ _ _ _ _ _ _))
                clear H6 hq7 r0 s0 r1 s1 r2 s2 r3 s3 r4 s4 r5 s5 r6 s6 FD_6
                refine hK.out _ _ (H7.out.pick [5, 6] []) (fun hHeld => ?_)
                clear hK K
                (try simp only [Act.put, List.setIfInBounds_toArray, List.set_cons_zero, List.set_cons_succ])
                refine wpAnyH_done (by kernel_rfl) ?_ _
                have HQ := Lib.hid (H7.out.pick [1, 0, 2, 3, 4, 5, 6] [0])
                go_wp2
                go_meet
                case rel => exact ⟨z12, z13, _, _, _, _, rfl, rfl, HQ, FD_7, HN⟩
              exact AllReadyH.nil
            exact AllReadyH.nil
          exact AllReadyH.nil
        refine anyH_one rfl (fun K hK => ?_) ?_
        · go_simp
          generalize hq4 : w3.alloc _ = w4
          have hB4 : Below w3.heap.size w3 w4 := by rw [← hq4]; exact below_alloc1 _ _
          have H4 := Lib.hid ((H3.out.new (b := w3.heap.size) rfl _ _).world hq4)
          clear H3 hq4 hB4
          generalize w3.heap.size = z12 at H4 ⊢
          refine hK.out _ _ (H4.out.pick [5, 6] []) (fun hHeld => ?_)
          clear hK K
          (try simp only [Act.put, List.setIfInBounds_toArray, List.set_cons_zero, List.set_cons_succ])
          refine wpAnyH_ready (rs := [8]) (by kernel_rfl) (by simp) ?_
          refine anyH_one rfl (fun K hK => ?_) ?_
          · go_simp
            refine (CF _ H4.out.below).mono ?_
            rintro e w5 ⟨v, vt, rfl, hD, hS, hN, hB5⟩
            obtain ⟨A5, c5, hv⟩ := StepsOwn.form hS
            rw [HNN.out] at hv
            subst hv
            obtain ⟨_, _, A6, c6, _, rfl⟩ := Doc.form hD
            have H5 := Lib.hid (H4.out.quiet hB5)
            clear H4
            have HN := Lib.hid (hN.step (Or.inl rfl) (by have := hHeld.size; omega))
            have G5 := Lib.hid (H5.out.got hS (by have := hHeld.size; omega))
            have FD_5 := Lib.hid hD
            clear hD hS hN H5
            have H5 := G5
            clear G5
            refine hK.out _ _ (H5.out.pick [5, 6] []) (fun hHeld => ?_)
            clear hK K
            (try simp only [Act.put, List.setIfInBounds_toArray, List.set_cons_zero, List.set_cons_succ])
            refine tk (v := ?_) 9 ?_ ?_
            rotate_left
            · intro w hSw
              go_simp
              (try with_reducible rfl)
            (try simp only [Act.put, List.setIfInBounds_toArray, List.set_cons_zero, List.set_cons_succ])
            refine tk (v := ?_) 10 ?_ ?_
            rotate_left
            · intro w hSw
              go_simp
              (try with_reducible rfl)
            (try simp only [Act.put, List.setIfInBounds_toArray, List.set_cons_zero, List.set_cons_succ])
            refine tk (v := ?_) 11 ?_ ?_
            rotate_left
            · intro w hSw
              go_simp
              (try with_reducible rfl)
            (try simp only [Act.put, List.setIfInBounds_toArray, List.set_cons_zero, List.set_cons_succ])
            refine wpAnyH_ready (rs := [14]) (by kernel_rfl) (by simp) ?_
            refine anyH_one rfl (fun K hK => ?_) ?_
            · obtain ⟨r0, r1, r2⟩ := (H5.out.at_ 0 rfl).three
              have s0 := (H5.out.at_ 0 rfl).fz 0; have s1 := (H5.out.at_ 0 rfl).fz 1; have s2 := (H5.out.at_ 0 rfl).fz 2
              go_simp
              generalize hq6 : ((w5.setCell _ _).setCell _ _).setCell _ _ = w6
              have H6 := Lib.hid (H5.out.put3 0 rfl hq6)
              have FD_6 := Lib.hid (FD_5.out.box (H5.out.at_ 0 rfl) (by decide) (by decide) (hq6 ▸ turnB3 _ _ _ _ _))
              clear H5 hq6 r0 s0 r1 s1 r2 s2 FD_5
              refine hK.out _ _ (H6.out.pick [5, 6] []) (fun hHeld => ?_)
              clear hK K
              (try simp only [Act.put, List.setIfInBounds_toArray, List.set_cons_zero, List.set_cons_succ])
              refine wpAnyH_ready (rs := [15]) (by kernel_rfl) (by simp) ?_
              refine anyH_one rfl (fun K hK => ?_) ?_
              · obtain ⟨r0, r1, r2, r3, r4, r5, r6⟩ := (H6.out.at_ 1 rfl).seven
                have s0 := (H6.out.at_ 1 rfl).fz 0; have s1 := (H6.out.at_ 1 rfl).fz 1; have s2 := (H6.out.at_ 1 rfl).fz 2; have s3 := (H6.out.at_ 1 rfl).fz 3; have s4 := (H6.out.at_ 1 rfl).fz 4; have s5 := (H6.out.at_ 1 rfl).fz 5; have s6 := (H6.out.at_ 1 rfl).fz 6
                go_simp
                generalize hq7 : ((((((w6.setCell _ _).setCell _ _).setCell _ _).setCell _ _).setCell _ _).setCell _ _).setCell _ _ = w7
                have H7 := Lib.hid (H6.out.put7 1 rfl hq7)
                have FD_7 := Lib.hid (FD_6.out.box (H6.out.at_ 1 rfl) (by decide) (by decide) (hq7 ▸ turnB7 _ _ _ _ _ _ _ _ _))
                clear H6 hq7 r0 s0 r1 s1 r2 s2 r3 s3 r4 s4 r5 s5 r6 s6 FD_6
                refine hK.out _ _ (H7.out.pick [5, 6] []) (fun hHeld => ?_)
                clear hK K
                (try simp only [Act.put, List.setIfInBounds_toArray, List.set_cons_zero, List.set_cons_succ])
                refine wpAnyH_done (by kernel_rfl) ?_ _
                have HQ := Lib.hid (H7.out.pick [1, 0, 2, 3, 4, 5, 6] [0])
                go_wp2
                go_meet
                case rel => exact ⟨z12, z13, _, _, _, _, rfl, rfl, HQ, FD_7, HN⟩
              exact AllReadyH.nil
            exact AllReadyH.nil
          exact AllReadyH.nil
        exact AllReadyH.nil
      exact AllReadyH.nil
    refine anyH_one rfl (fun K hK => ?_) ?_
    · go_simp
      generalize hq2 : w1.alloc _ = w2
      have hB2 : Below w1.heap.size w1 w2 := by rw [← hq2]; exact below_alloc1 _ _
      have H2 := Lib.hid ((H1.out.new (b := w1.heap.size) rfl _ _).world hq2)
      clear H1 hq2 hB2
      generalize w1.heap.size = z12 at H2 ⊢
      refine hK.out _ _ (H2.out.pick [4, 5] []) (fun hHeld => ?_)
      clear hK K
      (try simp only [Act.put, List.setIfInBounds_toArray, List.set_cons_zero, List.set_cons_succ])
      refine wpAnyH_ready (rs := [3, 13]) (by kernel_rfl) (by simp) ?_
      refine anyH_one rfl (fun K hK => ?_) ?_
      · go_simp
        refine (CT _).mono ?_
        rintro e w3 ⟨rfl, hB3⟩
        have H3 := Lib.hid (H2.out.quiet hB3)
        clear H2
        refine hK.out _ _ (H3.out.pick [4, 5] []) (fun hHeld => ?_)
        clear hK K
        (try simp only [Act.put, List.setIfInBounds_toArray, List.set_cons_zero, List.set_cons_succ])
        refine wpAnyH_ready (rs := [8, 13]) (by kernel_rfl) (by simp) ?_
        refine anyH_one rfl (fun K hK => ?_) ?_
        · go_simp
          refine (CF _ H3.out.below).mono ?_
          rintro e w4 ⟨v, vt, rfl, hD, hS, hN, hB4⟩
          obtain ⟨A5, c5, hv⟩ := StepsOwn.form hS
          rw [HNN.out] at hv
          subst hv
          obtain ⟨_, _, A6, c6, _, rfl⟩ := Doc.form hD
          have H4 := Lib.hid (H3.out.quiet hB4)
          clear H3
          have HN := Lib.hid (hN.step (Or.inl rfl) (by have := hHeld.size; omega))
          have G4 := Lib.hid (H4.out.got hS (by have := hHeld.size; omega))
          have FD_4 := Lib.hid hD
          clear hD hS hN H4
          have H4 := G4
          clear G4
          refine hK.out _ _ (H4.out.pick [4, 5] []) (fun hHeld => ?_)
          clear hK K
          (try simp only [Act.put, List.setIfInBounds_toArray, List.set_cons_zero, List.set_cons_succ])
          refine tk (v := ?_) 9 ?_ ?_
          rotate_left
          · intro w hSw
            go_simp
            (try with_reducible rfl)
          (try simp only [Act.put, List.setIfInBounds_toArray, List.set_cons_zero, List.set_cons_succ])
          refine tk (v := ?_) 10 ?_ ?_
          rotate_left
          · intro w hSw
            go_simp
            (try with_reducible rfl)
          (try simp only [Act.put, List.setIfInBounds_toArray, List.set_cons_zero, List.set_cons_succ])
          refine tk (v := ?_) 11 ?_ ?_
          rotate_left
          · intro w hSw
            go_simp
            (try with_reducible rfl)
          (try simp only [Act.put, List.setIfInBounds_toArray, List.set_cons_zero, List.set_cons_succ])
          refine wpAnyH_ready (rs := [13]) (by kernel_rfl) (by simp) ?_
          refine anyH_one rfl (fun K hK => ?_) ?_
          · go_simp
            generalize hq5 : w4.alloc _ = w5
            have hB5 : Below w4.heap.size w4 w5 := by rw [← hq5]; exact below_alloc1 _ _
            have H5 := Lib.hid ((H4.out.new (b := w4.heap.size) rfl _ _).world hq5)
            have FD_5 := Lib.hid (FD_4.out.quiet hB5)
            clear H4 hq5 hB5 FD_4
            generalize w4.heap.size = z13 at H5 ⊢
            refine hK.out _ _ (H5.out.pick [5, 6] []) (fun hHeld => ?_)
            clear hK K
            (try simp only [Act.put, List.setIfInBounds_toArray, List.set_cons_zero, List.set_cons_succ])
            refine wpAnyH_ready (rs := [14]) (by kernel_rfl) (by simp) ?_
            refine anyH_one rfl (fun K hK => ?_) ?_
            · obtain ⟨r0, r1, r2⟩ := (H5.out.at_ 1 rfl).three
              have s0 := (H5.out.at_ 1 rfl).fz 0; have s1 := (H5.out.at_ 1 rfl).fz 1; have s2 := (H5.out.at_ 1 rfl).fz 2
              go_simp
              generalize hq6 : ((w5.setCell _ _).setCell _ _).setCell _ _ = w6
              have H6 := Lib.hid (H5.out.put3 1 rfl hq6)
              have FD_6 := Lib.hid (FD_5.out.box (H5.out.at_ 1 rfl) (by decide) (by decide) (hq6 ▸ turnB3 _ _ _ _ _))
              clear H5 hq6 r0 s0 r1 s1 r2 s2 FD_5
              refine hK.out _ _ (H6.out.pick [5, 6] []) (fun hHeld => ?_)
              clear hK K
              (try simp only [Act.put, List.setIfInBounds_toArray, List.set_cons_zero, List.set_cons_succ])
              refine wpAnyH_ready (rs := [15]) (by kernel_rfl) (by simp) ?_
              refine anyH_one rfl (fun K hK => ?_) ?_
              · obtain ⟨r0, r1, r2, r3, r4, r5, r6⟩ := (H6.out.at_ 0 rfl).seven
                have s0 := (H6.out.at_ 0 rfl).fz 0; have s1 := (H6.out.at_ 0 rfl).fz 1; have s2 := (H6.out.at_ 0 rfl).fz 2; have s3 := (H6.out.at_ 0 rfl).fz 3; have s4 := (H6.out.at_ 0 rfl).fz 4; have s5 := (H6.out.at_ 0 rfl).fz 5; have s6 := (H6.out.at_ 0 rfl).fz 6
                go_simp
                generalize hq7 : ((((((w6.setCell _ _).setCell _ _).setCell _ _).setCell _ _).setCell _ _).setCell _ _).setCell _ _ = w7
                have H7 := Lib.hid (H6.out.put7 0 rfl hq7)
                have FD_7 := Lib.hid (FD_6.out.box (H6.out.at_ 0 rfl) (by decide) (by decide) (hq7 ▸ turnB7 _ _ _ _ _ _ _ _ _))
                clear H6 hq7 r0 s0 r1 s1 r2 s2 r3 s3 r4 s4 r5 s5 r6 s6 FD_6
                refine hK.out _ _ (H7.out.pick [5, 6] []) (fun hHeld => ?_)
                clear hK K
                (try simp only [Act.put, List.setIfInBounds_toArray, List.set_cons_zero, List.set_cons_succ])
                refine wpAnyH_done (by kernel_rfl) ?_ _
                have HQ := Lib.hid (H7.out.pick [0, 1, 2, 3, 4, 5, 6] [0])
                go_wp2
                go_meet
                case rel => exact ⟨z12, z13, _, _, _, _, rfl, rfl, HQ, FD_7, HN⟩
              exact AllReadyH.nil
            exact AllReadyH.nil
          exact AllReadyH.nil
        refine anyH_one rfl (fun K hK => ?_) ?_
        · go_simp
          generalize hq4 : w3.alloc _ = w4
          have hB4 : Below w3.heap.size w3 w4 := by rw [← hq4]; exact below_alloc1 _ _
          have H4 := Lib.hid ((H3.out.new (b := w3.heap.size) rfl _ _).world hq4)
          clear H3 hq4 hB4
          generalize w3.heap.size = z13 at H4 ⊢
          refine hK.out _ _ (H4.out.pick [5, 6] []) (fun hHeld => ?_)
          clear hK K
          (try simp only [Act.put, List.setIfInBounds_toArray, List.set_cons_zero, List.set_cons_succ])
          refine wpAnyH_ready (rs := [8]) (by kernel_rfl) (by simp) ?_
          refine anyH_one rfl (fun K hK => ?_) ?_
          · go_simp
            refine (CF _ H4.out.below).mono ?_
            rintro e w5 ⟨v, vt, rfl, hD, hS, hN, hB5⟩
            obtain ⟨A5, c5, hv⟩ := StepsOwn.form hS
            rw [HNN.out] at hv
            subst hv
            obtain ⟨_, _, A6, c6, _, rfl⟩ := Doc.form hD
            have H5 := Lib.hid (H4.out.quiet hB5)
            clear H4
            have HN := Lib.hid (hN.step (Or.inl rfl) (by have := hHeld.size; omega))
            have G5 := Lib.hid (H5.out.got hS (by have := hHeld.size; omega))
            have FD_5 := Lib.hid hD
            clear hD hS hN H5
            have H5 := G5
            clear G5
            refine hK.out _ _ (H5.out.pick [5, 6] []) (fun hHeld => ?_)
            clear hK K
            (try simp only [Act.put, List.setIfInBounds_toArray, List.set_cons_zero, List.set_cons_succ])
            refine tk (v := ?_) 9 ?_ ?_
            rotate_left
            · intro w hSw
              go_simp
              (try with_reducible rfl)
            (try simp only [Act.put, List.setIfInBounds_toArray, List.set_cons_zero, List.set_cons_succ])
            refine tk (v := ?_) 10 ?_ ?_
            rotate_left
            · intro w hSw
              go_simp
              (try with_reducible rfl)
            (try simp only [Act.put, List.setIfInBounds_toArray, List.set_cons_zero, List.set_cons_succ])
            refine tk (v := ?_) 11 ?_ ?_
            rotate_left
            · intro w hSw
              go_simp
              (try with_reducible rfl)
            (try simp only [Act.put, List.setIfInBounds_toArray, List.set_cons_zero, List.set_cons_succ])
            refine wpAnyH_ready (rs := [14]) (by kernel_rfl) (by simp) ?_
            refine anyH_one rfl (fun K hK => ?_) ?_
            · obtain ⟨r0, r1, r2⟩ := (H5.out.at_ 1 rfl).three
              have s0 := (H5.out.at_ 1 rfl).fz 0; have s1 := (H5.out.at_ 1 rfl).fz 1; have s2 := (H5.out.at_ 1 rfl).fz 2
              go_simp
              generalize hq6 : ((w5.setCell _ _).setCell _ _).setCell _ _ = w6
              have H6 := Lib.hid (H5.out.put3 1 rfl hq6)
              have FD_6 := Lib.hid (FD_5.out.box (H5.out.at_ 1 rfl) (by decide) (by decide) (hq6 ▸ turnB3 _ _ _ _ _))
              clear H5 hq6 r0 s0 r1 s1 r2 s2 FD_5
              refine hK.out _ _ (H6.out.pick [5, 6] []) (fun hHeld => ?_)
              clear hK K
              (try simp only [Act.put, List.setIfInBounds_toArray, List.set_cons_zero, List.set_cons_succ])
              refine wpAnyH_ready (rs := [15]) (by kernel_rfl) (by simp) ?_
              refine anyH_one rfl (fun K hK => ?_) ?_
              · obtain ⟨r0, r1, r2, r3, r4, r5, r6⟩ := (H6.out.at_ 0 rfl).seven
                have s0 := (H6.out.at_ 0 rfl).fz 0; have s1 := (H6.out.at_ 0 rfl).fz 1; have s2 := (H6.out.at_ 0 rfl).fz 2; have s3 := (H6.out.at_ 0 rfl).fz 3; have s4 := (H6.out.at_ 0 rfl).fz 4; have s5 := (H6.out.at_ 0 rfl).fz 5; have s6 := (H6.out.at_ 0 rfl).fz 6
                go_simp
                generalize hq7 : ((((((w6.setCell _ _).setCell _ _).setCell _ _).setCell _ _).setCell _ _).setCell _ _).setCell _ _ = w7
                have H7 := Lib.hid (H6.out.put7 0 rfl hq7)
                have FD_7 := Lib.hid (FD_6.out.box (H6.out.at_ 0 rfl) (by decide) (by decide) (hq7 ▸ turnB7 _ _ _ _ _ _ _ _ _))
                clear H6 hq7 r0 s0 r1 s1 r2 s2 r3 s3 r4 s4 r5 s5 r6 s6 FD_6
                refine hK.out _ _ (H7.out.pick [5, 6] []) (fun hHeld => ?_)
                clear hK K
                (try simp only [Act.put, List.setIfInBounds_toArray, List.set_cons_zero, List.set_cons_succ])
                refine wpAnyH_done (by kernel_rfl) ?_ _
                have HQ := Lib.hid (H7.out.pick [0, 1, 2, 3, 4, 5, 6] [0])
                go_wp2
                go_meet
                case rel => exact ⟨z12, z13, _, _, _, _, rfl, rfl, HQ, FD_7, HN⟩
              exact AllReadyH.nil
            exact AllReadyH.nil
          exact AllReadyH.nil
        exact AllReadyH.nil
      refine anyH_one rfl (fun K hK => ?_) ?_
      · go_simp
        generalize hq3 : w2.alloc _ = w3
        have hB3 : Below w2.heap.size w2 w3 := by rw [← hq3]; exact below_alloc1 _ _
        have H3 := Lib.hid ((H2.out.new (b := w2.heap.size) rfl _ _).world hq3)
        clear H2 hq3 hB3
        generalize w2.heap.size = z13 at H3 ⊢
        refine hK.out _ _ (H3.out.pick [5, 6] []) (fun hHeld => ?_)
        clear hK K
        (try simp only [Act.put, List.setIfInBounds_toArray, List.set_cons_zero, List.set_cons_succ])
        refine wpAnyH_ready (rs := [3]) (by kernel_rfl) (by simp) ?_
        refine anyH_one rfl (fun K hK => ?_) ?_
        · go_simp
          refine (CT _).mono ?_
          rintro e w4 ⟨rfl, hB4⟩
          have H4 := Lib.hid (H3.out.quiet hB4)
          clear H3
          refine hK.out _ _ (H4.out.pick [5, 6] []) (fun hHeld => ?_)
          clear hK K
          (try simp only [Act.put, List.setIfInBounds_toArray, List.set_cons_zero, List.set_cons_succ])
          refine wpAnyH_ready (rs := [8]) (by kernel_rfl) (by simp) ?_
          refine anyH_one rfl (fun K hK => ?_) ?_
          · go_simp
            refine (CF _ H4.out.below).mono ?_
            rintro e w5 ⟨v, vt, rfl, hD, hS, hN, hB5⟩
            obtain ⟨A5, c5, hv⟩ := StepsOwn.form hS
            rw [HNN.out] at hv
            subst hv
            obtain ⟨_, _, A6, c6, _, rfl⟩ := Doc.form hD
            have H5 := Lib.hid (H4.out.quiet hB5)
            clear H4
            have HN := Lib.hid (hN.step (Or.inl rfl) (by have := hHeld.size; omega))
            have G5 := Lib.hid (H5.out.got hS (by have := hHeld.size; omega))
            have FD_5 := Lib.hid hD
            clear hD hS hN H5
            have H5 := G5
            clear G5
            refine hK.out _ _ (H5.out.pick [5, 6] []) (fun hHeld => ?_)
            clear hK K
            (try simp only [Act.put, List.setIfInBounds_toArray, List.set_cons_zero, List.set_cons_succ])
            refine tk (v := ?_) 9 ?_ ?_
            rotate_left
            · intro w hSw
              go_simp
              (try with_reducible rfl)
            (try simp only [Act.put, List.setIfInBounds_toArray, List.set_cons_zero, List.set_cons_succ])
            refine tk (v := ?_) 10 ?_ ?_
            rotate_left
            · intro w hSw
              go_simp
              (try with_reducible rfl)
            (try simp only [Act.put, List.setIfInBounds_toArray, List.set_cons_zero, List.set_cons_succ])
            refine tk (v := ?_) 11 ?_ ?_
            rotate_left
            · intro w hSw
              go_simp
              (try with_reducible rfl)
            (try simp only [Act.put, List.setIfInBounds_toArray, List.set_cons_zero, List.set_cons_succ])
            refine wpAnyH_ready (rs := [14]) (by kernel_rfl) (by simp) ?_
            refine anyH_one rfl (fun K hK => ?_) ?_
            · obtain ⟨r0, r1, r2⟩ := (H5.out.at_ 1 rfl).three
              have s0 := (H5.out.at_ 1 rfl).fz 0; have s1 := (H5.out.at_ 1 rfl).fz 1; have s2 := (H5.out.at_ 1 rfl).fz 2
              go_simp
              generalize hq6 : ((w5.setCell _ _).setCell _ _).setCell _ _ = w6
              have H6 := Lib.hid (H5.out.put3 1 rfl hq6)
              have FD_6 := Lib.hid (FD_5.out.box (H5.out.at_ 1 rfl) (by decide) (by decide) (hq6 ▸ turnB3 _ _ _ _ _))
              clear H5 hq6 r0 s0 r1 s1 r2 s2 FD_5
              refine hK.out _ _ (H6.out.pick [5, 6] []) (fun hHeld => ?_)
              clear hK K
              (try simp only [Act.put, List.setIfInBounds_toArray, List.set_cons_zero, List.set_cons_succ])
              refine wpAnyH_ready (rs := [15]) (by kernel_rfl) (by simp) ?_
              refine anyH_one rfl (fun K hK => ?_) ?_
              · obtain ⟨r0, r1, r2, r3, r4, r5, r6⟩ := (H6.out.at_ 0 rfl).seven
                have s0 := (H6.out.at_ 0 rfl).fz 0; have s1 := (H6.out.at_ 0 rfl).fz 1; have s2 := (H6.out.at_ 0 rfl).fz 2; have s3 := (H6.out.at_ 0 rfl).fz 3; have s4 := (H6.out.at_ 0 rfl).fz 4; have s5 := (H6.out.at_ 0 rfl).fz 5; have s6 := (H6.out.at_ 0 rfl).fz 6
                go_simp
                generalize hq7 : ((((((w6.setCell _ _).setCell _ _).setCell _ _).setCell _ _).setCell _ _).setCell _ _).setCell _ _ = w7
                have H7 := Lib.hid (H6.out.put7 0 rfl hq7)
                have FD_7 := Lib.hid (FD_6.out.box (H6.out.at_ 0 rfl) (by decide) (by decide) (hq7 ▸ turnB7 _ _ _ _ _ _ _ _ _))
                clear H6 hq7 r0 s0 r1 s1 r2 s2 r3 s3 r4 s4 r5 s5 r6 s6 FD_6
                refine hK.out _ _ (H7.out.pick [5, 6] []) (fun hHeld => ?_)
                clear hK K
                (try simp only [Act.put, List.setIfInBounds_toArray, List.set_cons_zero, List.set_cons_succ])
                refine wpAnyH_done (by kernel_rfl) ?_ _
                have HQ := Lib.hid (H7.out.pick [0, 1, 2, 3, 4, 5, 6] [0])
                go_wp2
                go_meet
                case rel => exact ⟨z12, z13, _, _, _, _, rfl, rfl, HQ, FD_7, HN⟩
              exact AllReadyH.nil
            exact AllReadyH.nil
          exact AllReadyH.nil
        exact AllReadyH.nil
      exact AllReadyH.nil
    refine anyH_one rfl (fun K hK => ?_) ?_
    · go_simp
      generalize hq2 : w1.alloc _ = w2
      have hB2 : Below w1.heap.size w1 w2 := by rw [← hq2]; exact below_alloc1 _ _
      have H2 := Lib.hid ((H1.out.new (b := w1.heap.size) rfl _ _).world hq2)
      clear H1 hq2 hB2
      generalize w1.heap.size = z13 at H2 ⊢
      refine hK.out _ _ (H2.out.pick [4, 5] []) (fun hHeld => ?_)
      clear hK K
      (try simp only [Act.put, List.setIfInBounds_toArray, List.set_cons_zero, List.set_cons_succ])
      refine wpAnyH_ready (rs := [3, 12]) (by kernel_rfl) (by simp) ?_
      refine anyH_one rfl (fun K hK => ?_) ?_
      · go_simp
        refine (CT _).mono ?_
        rintro e w3 ⟨rfl, hB3⟩
        have H3 := Lib.hid (H2.out.quiet hB3)
        clear H2
        refine hK.out _ _ (H3.out.pick [4, 5] []) (fun hHeld => ?_)
        clear hK K
        (try simp only [Act.put, List.setIfInBounds_toArray, List.set_cons_zero, List.set_cons_succ])
        refine wpAnyH_ready (rs := [8, 12]) (by kernel_rfl) (by simp) ?_
        refine anyH_one rfl (fun K hK => ?_) ?_
        · go_simp
          refine (CF _ H3.out.below).mono ?_
          rintro e w4 ⟨v, vt, rfl, hD, hS, hN, hB4⟩
          obtain ⟨A5, c5, hv⟩ := StepsOwn.form hS
          rw [HNN.out] at hv
          subst hv
          obtain ⟨_, _, A6, c6, _, rfl⟩ := Doc.form hD
          have H4 := Lib.hid (H3.out.quiet hB4)
          clear H3
          have HN := Lib.hid (hN.step (Or.inl rfl) (by have := hHeld.size; omega))
          have G4 := Lib.hid (H4.out.got hS (by have := hHeld.size; omega))
          have FD_4 := Lib.hid hD
          clear hD hS hN H4
          have H4 := G4
          clear G4
          refine hK.out _ _ (H4.out.pick [4, 5] []) (fun hHeld => ?_)
          clear hK K
          (try simp only [Act.put, List.setIfInBounds_toArray, List.set_cons_zero, List.set_cons_succ])
          refine tk (v := ?_) 9 ?_ ?_
          rotate_left
          · intro w hSw
            go_simp
            (try with_reducible rfl)
          (try simp only [Act.put, List.setIfInBounds_toArray, List.set_cons_zero, List.set_cons_succ])
          refine tk (v := ?_) 10 ?_ ?_
          rotate_left
          · intro w hSw
            go_simp
            (try with_reducible rfl)
          (try simp only [Act.put, List.setIfInBounds_toArray, List.set_cons_zero, List.set_cons_succ])
          refine tk (v := ?_) 11 ?_ ?_
          rotate_left
          · intro w hSw
            go_simp
            (try with_reducible rfl)
          (try simp only [Act.put, List.setIfInBounds_toArray, List.set_cons_zero, List.set_cons_succ])
          refine wpAnyH_ready (rs := [12]) (by kernel_rfl) (by simp) ?_
          refine anyH_one rfl (fun K hK => ?_) ?_
          · go_simp
            generalize hq5 : w4.alloc _ = w5
            have hB5 : Below w4.heap.size w4 w5 := by rw [← hq5]; exact below_alloc1 _ _
            have H5 := Lib.hid ((H4.out.new (b := w4.heap.size) rfl _ _).world hq5)
            have FD_5 := Lib.hid (FD_4.out.quiet hB5)
            clear H4 hq5 hB5 FD_4
            generalize w4.heap.size = z12 at H5 ⊢
            refine hK.out _ _ (H5.out.pick [5, 6] []) (fun hHeld => ?_)
            clear hK K
            (try simp only [Act.put, List.setIfInBounds_toArray, List.set_cons_zero, List.set_cons_succ])
            refine wpAnyH_ready (rs := [14]) (by kernel_rfl) (by simp) ?_
            refine anyH_one rfl (fun K hK => ?_) ?_
            · obtain ⟨r0, r1, r2⟩ := (H5.out.at_ 0 rfl).three
              have s0 := (H5.out.at_ 0 rfl).fz 0; have s1 := (H5.out.at_ 0 rfl).fz 1; have s2 := (H5.out.at_ 0 rfl).fz 2
              go_simp
              generalize hq6 : ((w5.setCell _ _).setCell _ _).setCell _ _ = w6
              have H6 := Lib.hid (H5.out.put3 0 rfl hq6)
              have FD_6 := Lib.hid (FD_5.out.box (H5.out.at_ 0 rfl) (by decide) (by decide) (hq6 ▸ turnB3 _ _ _ _ _))
              clear H5 hq6 r0 s0 r1 s1 r2 s2 FD_5
              refine hK.out _ _ (H6.out.pick [5, 6] []) (fun hHeld => ?_)
              clear hK K
              (try simp only [Act.put, List.setIfInBounds_toArray, List.set_cons_zero, List.set_cons_succ])
              refine wpAnyH_ready (rs := [15]) (by kernel_rfl) (by simp) ?_
              refine anyH_one rfl (fun K hK => ?_) ?_
              · obtain ⟨r0, r1, r2, r3, r4, r5, r6⟩ := (H6.out.at_ 1 rfl).seven
                have s0 := (H6.out.at_ 1 rfl).fz 0; have s1 := (H6.out.at_ 1 rfl).fz 1; have s2 := (H6.out.at_ 1 rfl).fz 2; have s3 := (H6.out.at_ 1 rfl).fz 3; have s4 := (H6.out.at_ 1 rfl).fz 4; have s5 := (H6.out.at_ 1 rfl).fz 5; have s6 := (H6.out.at_ 1 rfl).fz 6
                go_simp
                generalize hq7 : ((((((w6.setCell _ _).setCell _ _).setCell _ _).setCell _ _).setCell _ _).setCell _ _).setCell _ _ = w7
                have H7 := Lib.hid (H6.out.put7 1 rfl hq7)
                have FD_7 := Lib.hid (FD_6.out.box (H6.out.at_ 1 rfl) (by decide) (by decide) (hq7 ▸ turnB7 _ _ _ _ _ _ _ _ _))
                clear H6 hq7 r0 s0 r1 s1 r2 s2 r3 s3 r4 s4 r5 s5 r6 s6 FD_6
                refine hK.out _ _ (H7.out.pick [5, 6] []) (fun hHeld => ?_)
                clear hK K
                (try simp only [Act.put, List.setIfInBounds_toArray, List.set_cons_zero, List.set_cons_succ])
                refine wpAnyH_done (by kernel_rfl) ?_ _
                have HQ := Lib.hid (H7.out.pick [1, 0, 2, 3, 4, 5, 6] [0])
                go_wp2
                go_meet
                case rel => exact ⟨z12, z13, _, _, _, _, rfl, rfl, HQ, FD_7, HN⟩
              exact AllReadyH.nil
            exact AllReadyH.nil
          exact AllReadyH.nil
        refine anyH_one rfl (fun K hK => ?_) ?_
        · go_simp
          generalize hq4 : w3.alloc _ = w4
          have hB4 : Below w3.heap.size w3 w4 := by rw [← hq4]; exact below_alloc1 _ _
          have H4 := Lib.hid ((H3.out.new (b := w3.heap.size) rfl _ _).world hq4)
          clear H3 hq4 hB4
          generalize w3.heap.size = z12 at H4 ⊢
          refine hK.out _ _ (H4.out.pick [5, 6] []) (fun hHeld => ?_)
          clear hK K
          (try simp only [Act.put, List.setIfInBounds_toArray, List.set_cons_zero, List.set_cons_succ])
          refine wpAnyH_ready (rs := [8]) (by kernel_rfl) (by simp) ?_
          refine anyH_one rfl (fun K hK => ?_) ?_
          · go_simp
            refine (CF _ H4.out.below).mono ?_
            rintro e w5 ⟨v, vt, rfl, hD, hS, hN, hB5⟩
            obtain ⟨A5, c5, hv⟩ := StepsOwn.form hS
            rw [HNN.out] at hv
            subst hv
            obtain ⟨_, _, A6, c6, _, rfl⟩ := Doc.form hD
            have H5 := Lib.hid (H4.out.quiet hB5)
            clear H4
            have HN := Lib.hid (hN.step (Or.inl rfl) (by have := hHeld.size; omega))
            have G5 := Lib.hid (H5.out.got hS (by have := hHeld.size; omega))
            have FD_5 := Lib.hid hD
            clear hD hS hN H5
            have H5 := G5
            clear G5
            refine hK.out _ _ (H5.out.pick [5, 6] []) (fun hHeld => ?_)
            clear hK K
            (try simp only [Act.put, List.setIfInBounds_toArray, List.set_cons_zero, List.set_cons_succ])
            refine tk (v := ?_) 9 ?_ ?_
            rotate_left
            · intro w hSw
              go_simp
              (try with_reducible rfl)
            (try simp only [Act.put, List.setIfInBounds_toArray, List.set_cons_zero, List.set_cons_succ])
            refine tk (v := ?_) 10 ?_ ?_
            rotate_left
            · intro w hSw
              go_simp
              (try with_reducible rfl)
            (try simp only [Act.put, List.setIfInBounds_toArray, List.set_cons_zero, List.set_cons_succ])
            refine tk (v := ?_) 11 ?_ ?_
            rotate_left
            · intro w hSw
              go_simp
              (try with_reducible rfl)
            (try simp only [Act.put, List.setIfInBounds_toArray, List.set_cons_zero, List.set_cons_succ])
            refine wpAnyH_ready (rs := [14]) (by kernel_rfl) (by simp) ?_
            refine anyH_one rfl (fun K hK => ?_) ?_
            · obtain ⟨r0, r1, r2⟩ := (H5.out.at_ 0 rfl).three
              have s0 := (H5.out.at_ 0 rfl).fz 0; have s1 := (H5.out.at_ 0 rfl).fz 1; have s2 := (H5.out.at_ 0 rfl).fz 2
              go_simp
              generalize hq6 : ((w5.setCell _ _).setCell _ _).setCell _ _ = w6
              have H6 := Lib.hid (H5.out.put3 0 rfl hq6)
              have FD_6 := Lib.hid (FD_5.out.box (H5.out.at_ 0 rfl) (by decide) (by decide) (hq6 ▸ turnB3 _ _ _ _ _))
              clear H5 hq6 r0 s0 r1 s1 r2 s2 FD_5
              refine hK.out _ _ (H6.out.pick [5, 6] []) (fun hHeld => ?_)
              clear hK K
              (try simp only [Act.put, List.setIfInBounds_toArray, List.set_cons_zero, List.set_cons_succ])
              refine wpAnyH_ready (rs := [15]) (by kernel_rfl) (by simp) ?_
              refine anyH_one rfl (fun K hK => ?_) ?_
              · obtain ⟨r0, r1, r2, r3, r4, r5, r6⟩ := (H6.out.at_ 1 rfl).seven
                have s0 := (H6.out.at_ 1 rfl).fz 0; have s1 := (H6.out.at_ 1 rfl).fz 1; have s2 := (H6.out.at_ 1 rfl).fz 2; have s3 := (H6.out.at_ 1 rfl).fz 3; have s4 := (H6.out.at_ 1 rfl).fz 4; have s5 := (H6.out.at_ 1 rfl).fz 5; have s6 := (H6.out.at_ 1 rfl).fz 6
                go_simp
                generalize hq7 : ((((((w6.setCell _ _).setCell _ _).setCell _ _).setCell _ _).setCell _ _).setCell _ _).setCell _ _ = w7
                have H7 := Lib.hid (H6.out.put7 1 rfl hq7)
                have FD_7 := Lib.hid (FD_6.out.box (H6.out.at_ 1 rfl) (by decide) (by decide) (hq7 ▸ turnB7 _ _ _ _ _ _ _ _ _))
                clear H6 hq7 r0 s0 r1 s1 r2 s2 r3 s3 r4 s4 r5 s5 r6 s6 FD_6
                refine hK.out _ _ (H7.out.pick [5, 6] []) (fun hHeld => ?_)
                clear hK K
                (try simp only [Act.put, List.setIfInBounds_toArray, List.set_cons_zero, List.set_cons_succ])
                refine wpAnyH_done (by kernel_rfl) ?_ _
                have HQ := Lib.hid (H7.out.pick [1, 0, 2, 3, 4, 5, 6] [0])
                go_wp2
                go_meet
                case rel => exact ⟨z12, z13, _, _, _, _, rfl, rfl, HQ, FD_7, HN⟩
              exact AllReadyH.nil
            exact AllReadyH.nil
          exact AllReadyH.nil
        exact AllReadyH.nil
      refine anyH_one rfl (fun K hK => ?_) ?_
      · go_simp
        generalize hq3 : w2.alloc _ = w3
        have hB3 : Below w2.heap.size w2 w3 := by rw [← hq3]; exact below_alloc1 _ _
        have H3 := Lib.hid ((H2.out.new (b := w2.heap.size) rfl _ _).world hq3)
        clear H2 hq3 hB3
        generalize w2.heap.size = z12 at H3 ⊢
        refine hK.out _ _ (H3.out.pick [5, 6] []) (fun hHeld => ?_)
        clear hK K
        (try simp only [Act.put, List.setIfInBounds_toArray, List.set_cons_zero, List.set_cons_succ])
        refine wpAnyH_ready (rs := [3]) (by kernel_rfl) (by simp) ?_
        refine anyH_one rfl (fun K hK => ?_) ?_
        · go_simp
          refine (CT _).mono ?_
          rintro e w4 ⟨rfl, hB4⟩
          have H4 := Lib.hid (H3.out.quiet hB4)
          clear H3
          refine hK.out _ _ (H4.out.pick [5, 6] []) (fun hHeld => ?_)
          clear hK K
          (try simp only [Act.put, List.setIfInBounds_toArray, List.set_cons_zero, List.set_cons_succ])
          refine wpAnyH_ready (rs := [8]) (by kernel_rfl) (by simp) ?_
          refine anyH_one rfl (fun K hK => ?_) ?_
          · go_simp
            refine (CF _ H4.out.below).mono ?_
            rintro e w5 ⟨v, vt, rfl, hD, hS, hN, hB5⟩
            obtain ⟨A5, c5, hv⟩ := StepsOwn.form hS
            rw [HNN.out] at hv
            subst hv
            obtain ⟨_, _, A6, c6, _, rfl⟩ := Doc.form hD
            have H5 := Lib.hid (H4.out.quiet hB5)
            clear H4
            have HN := Lib.hid (hN.step (Or.inl rfl) (by have := hHeld.size; omega))
            have G5 := Lib.hid (H5.out.got hS (by have := hHeld.size; omega))
            have FD_5 := Lib.hid hD
            clear hD hS hN H5
            have H5 := G5
            clear G5
            refine hK.out _ _ (H5.out.pick [5, 6] []) (fun hHeld => ?_)
            clear hK K
            (try simp only [Act.put, List.setIfInBounds_toArray, List.set_cons_zero, List.set_cons_succ])
            refine tk (v := ?_) 9 ?_ ?_
            rotate_left
            · intro w hSw
              go_simp
              (try with_reducible rfl)
            (try simp only [Act.put, List.setIfInBounds_toArray, List.set_cons_zero, List.set_cons_succ])
            refine tk (v := ?_) 10 ?_ ?_
            rotate_left
            · intro w hSw
              go_simp
              (try with_reducible rfl)
            (try simp only [Act.put, List.setIfInBounds_toArray, List.set_cons_zero, List.set_cons_succ])
            refine tk (v := ?_) 11 ?_ ?_
            rotate_left
            · intro w hSw
              go_simp
              (try with_reducible rfl)
            (try simp only [Act.put, List.setIfInBounds_toArray, List.set_cons_zero, List.set_cons_succ])
            refine wpAnyH_ready (rs := [14]) (by kernel_rfl) (by simp) ?_
            refine anyH_one rfl (fun K hK => ?_) ?_
            · obtain ⟨r0, r1, r2⟩ := (H5.out.at_ 0 rfl).three
              have s0 := (H5.out.at_ 0 rfl).fz 0; have s1 := (H5.out.at_ 0 rfl).fz 1; have s2 := (H5.out.at_ 0 rfl).fz 2
              go_simp
              generalize hq6 : ((w5.setCell _ _).setCell _ _).setCell _ _ = w6
              have H6 := Lib.hid (H5.out.put3 0 rfl hq6)
              have FD_6 := Lib.hid (FD_5.out.box (H5.out.at_ 0 rfl) (by decide) (by decide) (hq6 ▸ turnB3 _ _ _ _ _))
              clear H5 hq6 r0 s0 r1 s1 r2 s2 FD_5
              refine hK.out _ _ (H6.out.pick [5, 6] []) (fun hHeld => ?_)
              clear hK K
              (try simp only [Act.put, List.setIfInBounds_toArray, List.set_cons_zero, List.set_cons_succ])
              refine wpAnyH_ready (rs := [15]) (by kernel_rfl) (by simp) ?_
              refine anyH_one rfl (fun K hK => ?_) ?_
              · obtain ⟨r0, r1, r2, r3, r4, r5, r6⟩ := (H6.out.at_ 1 rfl).seven
                have s0 := (H6.out.at_ 1 rfl).fz 0; have s1 := (H6.out.at_ 1 rfl).fz 1; have s2 := (H6.out.at_ 1 rfl).fz 2; have s3 := (H6.out.at_ 1 rfl).fz 3; have s4 := (H6.out.at_ 1 rfl).fz 4; have s5 := (H6.out.at_ 1 rfl).fz 5; have s6 := (H6.out.at_ 1 rfl).fz 6
                go_simp
                generalize hq7 : ((((((w6.setCell _ _).setCell _ _).setCell _ _).setCell _ _).setCell _ _).setCell _ _).setCell _ _ = w7
                have H7 := Lib.hid (H6.out.put7 1 rfl hq7)
                have FD_7 := Lib.hid (FD_6.out.box (H6.out.at_ 1 rfl) (by decide) (by decide) (hq7 ▸ turnB7 _ _ _ _ _ _ _ _ _))
                clear H6 hq7 r0 s0 r1 s1 r2 s2 r3 s3 r4 s4 r5 s5 r6 s6 FD_6
                refine hK.out _ _ (H7.out.pick [5, 6] []) (fun hHeld => ?_)
                clear hK K
                (try simp only [Act.put, List.setIfInBounds_toArray, List.set_cons_zero, List.set_cons_succ])
                refine wpAnyH_done (by kernel_rfl) ?_ _
                have HQ := Lib.hid (H7.out.pick [1, 0, 2, 3, 4, 5, 6] [0])
                go_wp2
                go_meet
                case rel => exact ⟨z12, z13, _, _, _, _, rfl, rfl, HQ, FD_7, HN⟩
              exact AllReadyH.nil
            exact AllReadyH.nil
          exact AllReadyH.nil
        exact AllReadyH.nil
      exact AllReadyH.nil
    exact AllReadyH.nil
  case rest =>
    obtain ⟨z12, z13, A5, A6, c5, c6, rfl, rfl, H1, FD_1, HN⟩ := hcut
    clear CT CF CC
    have CJ := fun w' => rjudge_any (.slice A5 N c5) P u a w' HA.out
    obtain ⟨b0, b1, b2, b3, b4, b5, b6⟩ := (H1.out.at_ 0 rfl).seven
    obtain ⟨q0, q1, q2, q3, q4, q5, q6, q7⟩ := (H1.out.at_ 5 rfl).eight
    cases hm : jmay P u
    · have HO : Hid (outF M f P u = f) := Lib.hid (by unfold outF; rw [hm]; rfl)
      have HJA := Lib.hid (jans_no a hm)
      rw [HJA.out] at CJ
      generalize jcode P u = code at *
      clear hm
      go_upto_region 5 with (first | (go_at_call 34; refine (CJ _).mono ?_; rintro e w2 ⟨rfl, hB2⟩; have H2 := Lib.hid (H1.out.quiet hB2); have FD_2 := Lib.hid (FD_1.out.quiet hB2); clear hB2 H1 FD_1 b0 b1 b2 b3 b4 b5 b6 q0 q1 q2 q3 q4 q5 q6 q7))
      generalize hq3 : w2.alloc _ = w3
      have H3 := Lib.hid ((H2.out.new (b := w2.heap.size) rfl _ _).world hq3)
      have FD_3 := Lib.hid (FD_2.out.quiet (w3 := w3) (by rw [← hq3]; exact below_alloc1 _ _))
      clear hq3 H2 FD_2
      generalize w2.heap.size = z11 at H3 ⊢
      obtain ⟨a0, a1, a2, a3⟩ := (H3.out.at_ 0 rfl).four
      go_upto_region 6 with fail
      clear a0 a1 a2 a3
      refine wp_region_held_drew (S := fun w' => Mine w w' _ _) (by kernel_rfl) ((H3.out.quiet (Kept.drew0 w3)).pick [0, 1, 2, 6] []) (fun hHeld => ?_)
      have H4 := Lib.hid (H3.out.quiet (Kept.drew0 w3))
      have FD_4 := Lib.hid (FD_3.out.quiet (Kept.drew0 w3))
      clear H3 FD_3
      generalize w3.drew = w4 at *
      refine tk (v := ?_) 0 ?_ ?_
      rotate_left
      · intro w hSw
        obtain ⟨a0, a1, a2, a3⟩ := (hSw.at_ 0 rfl).four
        obtain ⟨b0, b1, b2, b3, b4, b5, b6⟩ := (hSw.at_ 1 rfl).seven
        obtain ⟨c0, c1, c2⟩ := (hSw.at_ 2 rfl).three
        obtain ⟨q0, q1, q2, q3, q4, q5, q6, q7⟩ := (hSw.at_ 3 rfl).eight
        go_simp
        (try with_reducible rfl)
      (try simp only [Act.put, List.setIfInBounds_toArray, List.set_cons_zero, List.set_cons_succ])
      refine tk (v := ?_) 1 ?_ ?_
      rotate_left
      · intro w hSw
        obtain ⟨a0, a1, a2, a3⟩ := (hSw.at_ 0 rfl).four
        obtain ⟨b0, b1, b2, b3, b4, b5, b6⟩ := (hSw.at_ 1 rfl).seven
        obtain ⟨c0, c1, c2⟩ := (hSw.at_ 2 rfl).three
        obtain ⟨q0, q1, q2, q3, q4, q5, q6, q7⟩ := (hSw.at_ 3 rfl).eight
        go_simp
        (try with_reducible rfl)
      (try simp only [Act.put, List.setIfInBounds_toArray, List.set_cons_zero, List.set_cons_succ])
      refine tk (v := ?_) 2 ?_ ?_
      rotate_left
      · intro w hSw
        obtain ⟨a0, a1, a2, a3⟩ := (hSw.at_ 0 rfl).four
        obtain ⟨b0, b1, b2, b3, b4, b5, b6⟩ := (hSw.at_ 1 rfl).seven
        obtain ⟨c0, c1, c2⟩ := (hSw.at_ 2 rfl).three
        obtain ⟨q0, q1, q2, q3, q4, q5, q6, q7⟩ := (hSw.at_ 3 rfl).eight
        go_simp
        (try with_reducible rfl)
      (try simp only [Act.put, List.setIfInBounds_toArray, List.set_cons_zero, List.set_cons_succ])
      refine wpAnyH_ready (rs := [3]) (by kernel_rfl) (by simp) ?_
      refine anyH_one rfl (fun K hK => ?_) ?_
      · obtain ⟨r0, r1, r2⟩ := (H4.out.at_ 5 rfl).three
        have s0 := (H4.out.at_ 5 rfl).fz 0; have s1 := (H4.out.at_ 5 rfl).fz 1; have s2 := (H4.out.at_ 5 rfl).fz 2
        go_simp
        generalize hq5 : ((w4.setCell _ _).setCell _ _).setCell _ _ = w5
        have H5 := Lib.hid (H4.out.put3 5 rfl hq5)
        have FD_5 := Lib.hid (FD_4.out.box (H4.out.at_ 5 rfl) (by decide) (by decide) (hq5 ▸ turnB3 _ _ _ _ _))
        clear H4 hq5 r0 s0 r1 s1 r2 s2 FD_4
        refine hK.out _ _ (H5.out.pick [0, 1, 2, 6] []) (fun hHeld => ?_)
        clear hK K
        (try simp only [Act.put, List.setIfInBounds_toArray, List.set_cons_zero, List.set_cons_succ])
        refine wpAnyH_ready (rs := [4]) (by kernel_rfl) (by simp) ?_
        refine anyH_one rfl (fun K hK => ?_) ?_
        · obtain ⟨r0, r1, r2, r3⟩ := (H5.out.at_ 4 rfl).four
          have s0 := (H5.out.at_ 4 rfl).fz 0; have s1 := (H5.out.at_ 4 rfl).fz 1; have s2 := (H5.out.at_ 4 rfl).fz 2; have s3 := (H5.out.at_ 4 rfl).fz 3
          go_simp
          generalize hq6 : (((w5.setCell _ _).setCell _ _).setCell _ _).setCell _ _ = w6
          have H6 := Lib.hid (H5.out.put4 4 rfl hq6)
          have FD_6 := Lib.hid (FD_5.out.box (H5.out.at_ 4 rfl) (by decide) (by decide) (hq6 ▸ turnB4 _ _ _ _ _ _))
          clear H5 hq6 r0 s0 r1 s1 r2 s2 r3 s3 FD_5
          refine hK.out _ _ (H6.out.pick [0, 1, 2, 6] []) (fun hHeld => ?_)
          clear hK K
          (try simp only [Act.put, List.setIfInBounds_toArray, List.set_cons_zero, List.set_cons_succ])
          refine wpAnyH_ready (rs := [5]) (by kernel_rfl) (by simp) ?_
          refine anyH_one rfl (fun K hK => ?_) ?_
          · obtain ⟨r0, r1, r2, r3, r4, r5, r6⟩ := (H6.out.at_ 3 rfl).seven
            have s0 := (H6.out.at_ 3 rfl).fz 0; have s1 := (H6.out.at_ 3 rfl).fz 1; have s2 := (H6.out.at_ 3 rfl).fz 2; have s3 := (H6.out.at_ 3 rfl).fz 3; have s4 := (H6.out.at_ 3 rfl).fz 4; have s5 := (H6.out.at_ 3 rfl).fz 5; have s6 := (H6.out.at_ 3 rfl).fz 6
            go_simp
            generalize hq7 : ((((((w6.setCell _ _).setCell _ _).setCell _ _).setCell _ _).setCell _ _).setCell _ _).setCell _ _ = w7
            have H7 := Lib.hid (H6.out.put7 3 rfl hq7)
            have FD_7 := Lib.hid (FD_6.out.box (H6.out.at_ 3 rfl) (by decide) (by decide) (hq7 ▸ turnB7 _ _ _ _ _ _ _ _ _))
            clear H6 hq7 r0 s0 r1 s1 r2 s2 r3 s3 r4 s4 r5 s5 r6 s6 FD_6
            refine hK.out _ _ (H7.out.pick [0, 1, 2, 6] []) (fun hHeld => ?_)
            clear hK K
            (try simp only [Act.put, List.setIfInBounds_toArray, List.set_cons_zero, List.set_cons_succ])
            refine wpAnyH_done (by kernel_rfl) ?_ _
            clear hHeld
            go_wp2
            refine bodyPost_ret (results_ccc rfl _ _ _ _ _ (H7.out.at_ 5 rfl) (H7.out.at_ 4 rfl) (H7.out.at_ 3 rfl) rfl rfl rfl Tryz.underlying45 rfl rfl Tryz.underlying47 rfl rfl Tryz.underlying51 rfl rfl) rfl ?_
            exact ⟨_, _, _, _, by rw [HJA.out], by rw [HO.out]; exact FD_7.out, by omega, H7.out.mine 0 rfl, HN.out, H7.out.below⟩
          exact AllReadyH.nil
        exact AllReadyH.nil
      exact AllReadyH.nil
    · have HO : Hid (outF M f P u = markN M f P.steps (u.k == 2) N) := Lib.hid (by unfold outF; rw [hm, if_pos rfl, HNN.out])
      have CK := fun w' hD hS => rmark_any (w := w') (M := M) (vs := .slice A0 L.length c0) (vt := .slice A6 T.length c6) (f := f) (tr := T) (L0 := L) hD HM.out (by omega) HWd.out A5 N c5 P.steps HNN.out hS (by omega) HW.out P.why P.W P.U P.X P.lev P.fr (u.k == 2)
      rw [show ((u.k == 2) && decide (P.why = 0)) = (u.k == 2) by rw [(jmay_yes hm).1]; simp] at CK
      have HJA := Lib.hid (jans_yes a hm)
      rw [HJA.out] at CJ
      generalize jpa P a = pa at *
      clear hm
      go_upto_region 5 with (first | (go_at_call 34; refine (CJ _).mono ?_; rintro e w2 ⟨rfl, hB2⟩; have H2 := Lib.hid (H1.out.quiet hB2); have FD_2 := Lib.hid (FD_1.out.quiet hB2); clear hB2 H1 FD_1 b0 b1 b2 b3 b4 b5 b6 q0 q1 q2 q3 q4 q5 q6 q7))
      generalize hq3 : w2.alloc _ = w3
      have H3 := Lib.hid ((H2.out.new (b := w2.heap.size) rfl _ _).world hq3)
      have FD_3 := Lib.hid (FD_2.out.quiet (w3 := w3) (by rw [← hq3]; exact below_alloc1 _ _))
      clear hq3 H2 FD_2
      generalize w2.heap.size = z11 at H3 ⊢
      obtain ⟨a0, a1, a2, a3⟩ := (H3.out.at_ 0 rfl).four
      go_upto_region 7 with fail
      clear a0 a1 a2 a3
      refine wp_region_held_drew (S := fun w' => Mine w w' _ _) (by kernel_rfl) ((H3.out.quiet (Kept.drew0 w3)).pick [0, 1, 2, 6] []) (fun hHeld => ?_)
      have H4 := Lib.hid (H3.out.quiet (Kept.drew0 w3))
      have FD_4 := Lib.hid (FD_3.out.quiet (Kept.drew0 w3))
      clear H3 FD_3
      generalize w3.drew = w4 at *
      refine tk (v := ?_) 0 ?_ ?_
      rotate_left
      · intro w hSw
        obtain ⟨a0, a1, a2, a3⟩ := (hSw.at_ 0 rfl).four
        obtain ⟨b0, b1, b2, b3, b4, b5, b6⟩ := (hSw.at_ 1 rfl).seven
        obtain ⟨c0, c1, c2⟩ := (hSw.at_ 2 rfl).three
        obtain ⟨q0, q1, q2, q3, q4, q5, q6, q7⟩ := (hSw.at_ 3 rfl).eight
        go_simp
        (try with_reducible rfl)
      (try simp only [Act.put, List.setIfInBounds_toArray, List.set_cons_zero, List.set_cons_succ])
      refine tk (v := ?_) 1 ?_ ?_
      rotate_left
      · intro w hSw
        obtain ⟨a0, a1, a2, a3⟩ := (hSw.at_ 0 rfl).four
        obtain ⟨b0, b1, b2, b3, b4, b5, b6⟩ := (hSw.at_ 1 rfl).seven
        obtain ⟨c0, c1, c2⟩ := (hSw.at_ 2 rfl).three
        obtain ⟨q0, q1, q2, q3, q4, q5, q6, q7⟩ := (hSw.at_ 3 rfl).eight
        go_simp
        (try with_reducible rfl)
      (try simp only [Act.put, List.setIfInBounds_toArray, List.set_cons_zero, List.set_cons_succ])
      refine tk (v := ?_) 2 ?_ ?_
      rotate_left
      · intro w hSw
        go_simp
        (try with_reducible rfl)
      (try simp only [Act.put, List.setIfInBounds_toArray, List.set_cons_zero, List.set_cons_succ])
      refine tk (v := ?_) 3 ?_ ?_
      rotate_left
      · intro w hSw
        go_simp
        (try with_reducible rfl)
      (try simp only [Act.put, List.setIfInBounds_toArray, List.set_cons_zero, List.set_cons_succ])
      refine tk (v := ?_) 4 ?_ ?_
      rotate_left
      · intro w hSw
        obtain ⟨a0, a1, a2, a3⟩ := (hSw.at_ 0 rfl).four
        obtain ⟨b0, b1, b2, b3, b4, b5, b6⟩ := (hSw.at_ 1 rfl).seven
        obtain ⟨c0, c1, c2⟩ := (hSw.at_ 2 rfl).three
        obtain ⟨q0, q1, q2, q3, q4, q5, q6, q7⟩ := (hSw.at_ 3 rfl).eight
        go_simp
        (try with_reducible rfl)
      (try simp only [Act.put, List.setIfInBounds_toArray, List.set_cons_zero, List.set_cons_succ])
      refine tk (v := ?_) 5 ?_ ?_
      rotate_left
      · intro w hSw
        go_simp
        (try with_reducible rfl)
      (try simp only [Act.put, List.setIfInBounds_toArray, List.set_cons_zero, List.set_cons_succ])
      refine tk (v := ?_) 7 ?_ ?_
      rotate_left
      · intro w hSw
        obtain ⟨a0, a1, a2, a3⟩ := (hSw.at_ 0 rfl).four
        obtain ⟨b0, b1, b2, b3, b4, b5, b6⟩ := (hSw.at_ 1 rfl).seven
        obtain ⟨c0, c1, c2⟩ := (hSw.at_ 2 rfl).three
        obtain ⟨q0, q1, q2, q3, q4, q5, q6, q7⟩ := (hSw.at_ 3 rfl).eight
        go_simp
        (try with_reducible rfl)
      (try simp only [Act.put, List.setIfInBounds_toArray, List.set_cons_zero, List.set_cons_succ])
      refine tk (v := ?_) 8 ?_ ?_
      rotate_left
      · intro w hSw
        obtain ⟨a0, a1, a2, a3⟩ := (hSw.at_ 0 rfl).four
        obtain ⟨b0, b1, b2, b3, b4, b5, b6⟩ := (hSw.at_ 1 rfl).seven
        obtain ⟨c0, c1, c2⟩ := (hSw.at_ 2 rfl).three
        obtain ⟨q0, q1, q2, q3, q4, q5, q6, q7⟩ := (hSw.at_ 3 rfl).eight
        go_simp
        (try with_reducible rfl)
      (try simp only [Act.put, List.setIfInBounds_toArray, List.set_cons_zero, List.set_cons_succ])
      refine wpAnyH_ready (rs := [6]) (by kernel_rfl) (by simp) ?_
      refine anyH_one rfl (fun K hK => ?_) ?_
      · go_simp
        refine (CK _ FD_4.out (StepsOwn.into (base := 0) (H4.out.of_ 0 rfl))).mono ?_
        rintro e w5 ⟨vs, L2, rfl, hD, hL, hB5⟩
        have H5 := Lib.hid (H4.out.quiet hB5)
        clear H4
        have FD_5 := Lib.hid hD
        have HL := Lib.hid hL
        obtain ⟨A7, c7, _, _, rfl, _⟩ := Doc.form hD
        clear hD hL FD_4
        refine hK.out _ _ (H5.out.pick [0, 1, 2, 6] []) (fun hHeld => ?_)
        clear hK K
        (try simp only [Act.put, List.setIfInBounds_toArray, List.set_cons_zero, List.set_cons_succ])
        refine wpAnyH_ready (rs := [9]) (by kernel_rfl) (by simp) ?_
        refine anyH_one rfl (fun K hK => ?_) ?_
        · obtain ⟨r0, r1, r2⟩ := (H5.out.at_ 5 rfl).three
          have s0 := (H5.out.at_ 5 rfl).fz 0; have s1 := (H5.out.at_ 5 rfl).fz 1; have s2 := (H5.out.at_ 5 rfl).fz 2
          go_simp
          generalize hq6 : ((w5.setCell _ _).setCell _ _).setCell _ _ = w6
          have H6 := Lib.hid (H5.out.put3 5 rfl hq6)
          have FD_6 := Lib.hid (FD_5.out.box (H5.out.at_ 5 rfl) (by decide) (by decide) (hq6 ▸ turnB3 _ _ _ _ _))
          clear H5 hq6 r0 s0 r1 s1 r2 s2 FD_5
          refine hK.out _ _ (H6.out.pick [0, 1, 2, 6] []) (fun hHeld => ?_)
          clear hK K
          (try simp only [Act.put, List.setIfInBounds_toArray, List.set_cons_zero, List.set_cons_succ])
          refine wpAnyH_ready (rs := [10]) (by kernel_rfl) (by simp) ?_
          refine anyH_one rfl (fun K hK => ?_) ?_
          · obtain ⟨r0, r1, r2, r3⟩ := (H6.out.at_ 4 rfl).four
            have s0 := (H6.out.at_ 4 rfl).fz 0; have s1 := (H6.out.at_ 4 rfl).fz 1; have s2 := (H6.out.at_ 4 rfl).fz 2; have s3 := (H6.out.at_ 4 rfl).fz 3
            go_simp
            generalize hq7 : (((w6.setCell _ _).setCell _ _).setCell _ _).setCell _ _ = w7
            have H7 := Lib.hid (H6.out.put4 4 rfl hq7)
            have FD_7 := Lib.hid (FD_6.out.box (H6.out.at_ 4 rfl) (by decide) (by decide) (hq7 ▸ turnB4 _ _ _ _ _ _))
            clear H6 hq7 r0 s0 r1 s1 r2 s2 r3 s3 FD_6
            refine hK.out _ _ (H7.out.pick [0, 1, 2, 6] []) (fun hHeld => ?_)
            clear hK K
            (try simp only [Act.put, List.setIfInBounds_toArray, List.set_cons_zero, List.set_cons_succ])
            refine wpAnyH_ready (rs := [11]) (by kernel_rfl) (by simp) ?_
            refine anyH_one rfl (fun K hK => ?_) ?_
            · obtain ⟨r0, r1, r2, r3, r4, r5, r6⟩ := (H7.out.at_ 3 rfl).seven
              have s0 := (H7.out.at_ 3 rfl).fz 0; have s1 := (H7.out.at_ 3 rfl).fz 1; have s2 := (H7.out.at_ 3 rfl).fz 2; have s3 := (H7.out.at_ 3 rfl).fz 3; have s4 := (H7.out.at_ 3 rfl).fz 4; have s5 := (H7.out.at_ 3 rfl).fz 5; have s6 := (H7.out.at_ 3 rfl).fz 6
              go_simp
              generalize hq8 : ((((((w7.setCell _ _).setCell _ _).setCell _ _).setCell _ _).setCell _ _).setCell _ _).setCell _ _ = w8
              have H8 := Lib.hid (H7.out.put7 3 rfl hq8)
              have FD_8 := Lib.hid (FD_7.out.box (H7.out.at_ 3 rfl) (by decide) (by decide) (hq8 ▸ turnB7 _ _ _ _ _ _ _ _ _))
              clear H7 hq8 r0 s0 r1 s1 r2 s2 r3 s3 r4 s4 r5 s5 r6 s6 FD_7
              refine hK.out _ _ (H8.out.pick [0, 1, 2, 6] []) (fun hHeld => ?_)
              clear hK K
              (try simp only [Act.put, List.setIfInBounds_toArray, List.set_cons_zero, List.set_cons_succ])
              refine wpAnyH_done (by kernel_rfl) ?_ _
              clear hHeld
              go_wp2
              refine bodyPost_ret (results_ccc rfl _ _ _ _ _ (H8.out.at_ 5 rfl) (H8.out.at_ 4 rfl) (H8.out.at_ 3 rfl) rfl rfl rfl Tryz.underlying45 rfl rfl Tryz.underlying47 rfl rfl Tryz.underlying51 rfl rfl) rfl ?_
              exact ⟨_, _, _, _, by rw [HJA.out], by rw [HO.out]; exact FD_8.out, HL.out, H8.out.mine 0 rfl, HN.out, H8.out.below⟩
            exact AllReadyH.nil
          exact AllReadyH.nil
        exact AllReadyH.nil
      exact AllReadyH.nil
end Go.Proofs.YtopmmlcjlopmaaaGreatDoor
