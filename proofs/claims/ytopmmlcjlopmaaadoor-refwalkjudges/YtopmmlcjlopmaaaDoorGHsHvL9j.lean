/- Several texts of ours in one: Hs, Hv, L9j. -/
import Derived.Test.YtopmmlcjlopmaaaDoorGBxKfL8s
import Derived.Test.YtopmmlcjlopmaaaDoorGHpHqHu
import Derived.Deep.RegionLaw
import Derived.Deep.AppendLies
import Derived.Test.YtopmmlcjlopmaaaDoorGGuKcKe
/- Contracts of package walk: unused, Same. (Laid by tools/gen_hs.py.) -/
namespace Go.Proofs.YtopmmlcjlopmaaaDoor
set_option linter.unusedVariables false
set_option linter.unusedSimpArgs false
open Go.ChangeShapes Go.WideShapes Go.ChangeAt Go.RowKit Go.Joins

/-- a word without A and D -/
def bareF (x : Int) : Int := bits .andNot .u64 x 96

theorem Blk.three8 {w : World} {b : Nat} {t : TypeId} {x0 x1 x2 : Value} (h : Blk w b #[x0, x1, x2] t) : w.cell? ⟨b, 0, none⟩ = some x0 ∧ w.cell? ⟨b, 1, none⟩ = some x1 ∧ w.cell? ⟨b, 2, none⟩ = some x2 := by
  unfold Blk at h; simp [World.cell?, h]

/-- are the first k steps the same, but for A and D? -/
def sameN (S T : List (Int × Int × Int)) : Nat → Bool
  | 0 => true
  | k + 1 => sameN S T k && ((stepAt S k).1 == (stepAt T k).1 && ((stepAt S k).2.1 == (stepAt T k).2.1 && bareF (stepAt S k).2.2 == bareF (stepAt T k).2.2))

theorem same_false {S T : List (Int × Int × Int)} {k : Nat} : ∀ {L : Nat}, k + 1 ≤ L → sameN S T (k + 1) = false → sameN S T L = false
  | L + 1, hk, h => by
    by_cases e : k = L
    · subst e; exact h
    · unfold sameN; rw [same_false (L := L) (by omega) h]; rfl

/-- two paths in the variables of a call -/
structure Two (w wr : World) (pb : Nat) (v : Value) (P : Pth) (qb : Nat) (v' : Value) (Q : Pth) : Prop where
  boxP : Blk wr pb (pathCells v P) 27
  boxQ : Blk wr qb (pathCells v' Q) 27
  stepsP : StepsIn wr v P.steps
  stepsQ : StepsIn wr v' Q.steps
  below : Below w.heap.size w wr

section
variable {w wr w3 : World} {pb qb : Nat} {v v' : Value} {P Q : Pth}
theorem Two.quiet (h : Two w wr pb v P qb v' Q) (hb : Below wr.heap.size wr w3) : Two w w3 pb v P qb v' Q :=
  ⟨h.boxP.below hb, h.boxQ.below hb, h.stepsP.below hb, h.stepsQ.below hb, h.below.trans (hb.mono h.below.size)⟩
theorem Two.start (h1 : StepsIn w v P.steps) (h2 : StepsIn w v' Q.steps) : Two w ((w.alloc (.cells (pathCells v P) 27)).alloc (.cells (pathCells v' Q) 27)) w.heap.size v P (w.heap.size + 1) v' Q :=
  ⟨(Blk.new w _ _).alloc _, last_obj2 w _ _, h1.below (below2 w _ _), h2.below (below2 w _ _), below2 w _ _⟩
theorem steps_at {A : Option Addr} {L c : Nat} {S : List (Int × Int × Int)} (h : StepsIn wr (.slice A L c) S) {k : Nat} (hk : k < S.length) : ∃ ad, A = some ad ∧ wr.cell? (ad.add (k * 3)) = some (.int .i64 (stepAt S k).1) ∧ wr.cell? ⟨(ad.add (k * 3)).block, (ad.add (k * 3)).off + 1, none⟩ = some (.int .u64 (stepAt S k).2.1) ∧ wr.cell? ⟨(ad.add (k * 3)).block, (ad.add (k * 3)).off + 2, none⟩ = some (.int .u64 (stepAt S k).2.2) := by
  obtain ⟨A', c', hv, hc⟩ := h
  obtain ⟨ad, hA, d0, d1, d2⟩ := hc k hk
  simp at hv
  exact ⟨ad, hv.1.trans hA, d0, d1, d2⟩
end

/-- what the region of Same keeps -/
def RegSm (w1 : World) (sb : Nat) (l s x : Int) (qb : Nat) (v' : Value) (Q : Pth) (ad : Addr) (l' s' x' : Int) (w' : World) : Prop :=
  Blk w' sb #[.int .i64 l, .int .u64 s, .int .u64 x] 73 ∧ Blk w' qb (pathCells v' Q) 27 ∧ (w'.cell? ad = some (.int .i64 l') ∧ w'.cell? ⟨ad.block, ad.off + 1, none⟩ = some (.int .u64 s') ∧ w'.cell? ⟨ad.block, ad.off + 2, none⟩ = some (.int .u64 x')) ∧ Kept w1 w'
theorem regsm_step {w1 : World} {sb : Nat} {l s x : Int} {qb : Nat} {v' : Value} {Q : Pth} {ad : Addr} {l' s' x' : Int} {w2 w3 : World} (h : RegSm w1 sb l s x qb v' Q ad l' s' x' w2) (hb : Below w2.heap.size w2 w3) : RegSm w1 sb l s x qb v' Q ad l' s' x' w3 := by
  obtain ⟨a, b, ⟨c0, c1, c2⟩, k⟩ := h
  exact ⟨a.below hb, b.below hb, ⟨(hb.cell (World.block_lt_of_cell? _ _ c0)).trans c0, (hb.cell (World.block_lt_of_cell? _ _ c1)).trans c1, (hb.cell (World.block_lt_of_cell? _ _ c2)).trans c2⟩, Kept.step hb k⟩

end Go.Proofs.YtopmmlcjlopmaaaDoor
/- real of layer 8: a path as the document has it. -/
namespace Go.Proofs.YtopmmlcjlopmaaaDoor
set_option linter.unusedVariables false
set_option linter.unusedSimpArgs false
open Go.ChangeShapes Go.WideShapes Go.ChangeAt Go.RowKit Go.Joins

theorem take_more (S : List (Int × Int × Int)) {k : Nat} (hk : k < S.length) : S.take (k + 1) = S.take k ++ [stepAt S k] := by
  rw [List.take_add_one, List.getElem?_eq_getElem hk]
  simp [stepAt, List.getD, List.getElem?_eq_getElem hk]

/-- real, in its loop -/
structure Rea (w wr : World) (vin : Value) (P : Pth) (k : Nat) (v : Value) : Prop where
  box : Blk wr w.heap.size (pathCells vin P) 27
  res : Blk wr (w.heap.size + 1) (pathCells (.slice none 0 0) (offP 0)) 46
  pth : Blk wr (w.heap.size + 2) (pathCells v P) 46
  own : StepsOwn 72 wr (w.heap.size + 3) v (P.steps.take k)
  below : Below w.heap.size w wr

section
variable {w wr w3 w5 : World} {vin v v' : Value} {P : Pth} {k : Nat}
theorem Rea.start (w : World) (vin : Value) (P : Pth) : Rea w (((w.alloc (.cells (pathCells vin P) 27)).alloc (.cells (pathCells (.slice none 0 0) (offP 0)) 46)).alloc (.cells (pathCells (.slice none 0 0) P) 46)) vin P 0 (.slice none 0 0) := by
  have e1 : ∀ o, (w.alloc o).heap.size = w.heap.size + 1 := fun o => by simp
  have e2 : ∀ o o', ((w.alloc o).alloc o').heap.size = w.heap.size + 2 := fun o o' => by simp
  refine ⟨((Blk.new w _ _).alloc _).alloc _, ?_, ?_, StepsOwn.nil _ _ _, below3 w _ _ _⟩
  · have := (Blk.new (w.alloc (.cells (pathCells vin P) 27)) (pathCells (.slice none 0 0) (offP 0)) 46).alloc (.cells (pathCells (.slice none 0 0) P) 46)
    rwa [e1] at this
  · have := Blk.new ((w.alloc (.cells (pathCells vin P) 27)).alloc (.cells (pathCells (.slice none 0 0) (offP 0)) 46)) (pathCells (.slice none 0 0) P) 46
    rwa [e2] at this
theorem Rea.quiet (h : Rea w wr vin P k v) (hb : Below wr.heap.size wr w3) : Rea w w3 vin P k v :=
  ⟨h.box.below hb, h.res.below hb, h.pth.below hb, h.own.below hb, h.below.trans (hb.mono h.below.size)⟩
theorem Rea.more {l s x : Int} {u : TypeId} (h : Rea w wr vin P k v) (hk : k < P.steps.length) (hx : stepAt P.steps k = (l, s, x)) (hown : w5.ownsRow (w.heap.size + 3) 72 3 v' (k + 1) (stepCells (P.steps.take k) ++ [.int .i64 l, .int .u64 s, .int .u64 x]))
    (hg : (wr.alloc (.cells #[.int .i64 l, .int .u64 s, .int .u64 x] u)).grownBy w5 v.ownBlock) :
    Rea w (w5.setCell ⟨w.heap.size + 2, 0, none⟩ v') vin P (k + 1) v' ∧ Blk w5 (w.heap.size + 2) (pathCells v P) 46 := by
  have ht : Turn (fun i => v.ownBlock = some i) wr w5 := (Turn.alloc _ wr _).and (Turn.grown hg (fun i hi => hi))
  have hv : ∀ i, v.ownBlock = some i → w.heap.size + 3 ≤ i := fun i hi => (h.own.lt hi).1
  have n0 : ¬ v.ownBlock = some w.heap.size := fun e => by have := hv _ e; omega
  have n1 : ¬ v.ownBlock = some (w.heap.size + 1) := fun e => by have := hv _ e; omega
  have n2 : ¬ v.ownBlock = some (w.heap.size + 2) := fun e => by have := hv _ e; omega
  have hs : StepsOwn 72 w5 (w.heap.size + 3) v' (P.steps.take (k + 1)) := by
    rw [take_more _ hk, hx]
    exact StepsOwn.more (by rw [List.length_take, Nat.min_eq_left (by omega)]; exact hown)
  have hp5 := h.pth.turn ht n2
  have t2 := turn1 w5 (w.heap.size + 2) 0 v'
  have b5 : Below w.heap.size w w5 := h.below.trans (ht.below (fun i hi => by have := hv i hi; omega) h.below.size)
  exact ⟨⟨(h.box.turn ht n0).turn t2 (by omega), (h.res.turn ht n1).turn t2 (by omega), hp5.set1 0 v', hs.turn t2 (fun i hi e => by have := (hs.lt hi).1; omega), turn_below b5 t2 (by omega) b5.size⟩, hp5⟩
end

set_option maxRecDepth 100000 in
set_option maxHeartbeats 3200000 in
theorem real_any (w : World) (A : Option Addr) (L c : Nat) (P : Pth) (hL : P.steps.length = L) (hS : StepsIn w (.slice A L c) P.steps) (hl : L * 24 ≤ 140737488355328) :
    Calls Tryd.prog 9 #[pathV (.slice A L c) P.why P.W P.U P.X P.lev P.fr] w fun e w' => ∃ A' c', e = .returned (pathV (.slice A' L c') P.why P.W P.U P.X P.lev P.fr) ∧ StepsOwn 72 w' w.heap.size (.slice A' L c') P.steps ∧ Below w.heap.size w w' := by
  obtain ⟨i0, hi, hz0, hz1, hz2⟩ := info_parts infoRStep
  have HP := Lib.hid (Rea.start w (.slice A L c) P)
  have HL := Lib.hid hL
  have HS := Lib.hid hS
  clear hL hS
  go_enter Tryd.func9, Tryd.ntmps9
  go_wp2
  go_loopw [4] (fun i wr => ∃ (k : Nat) (v : Value), k ≤ L ∧ i = .int .i64 k ∧ Rea w wr (.slice A L c) P k v) (fun i _ => (L - intOf i).toNat)
  case atStart => exact ⟨0, _, by omega, rfl, HP.out⟩
  case round =>
    obtain ⟨k, v, hk, rfl, hR⟩ := hrel
    clear HP
    have HR := Lib.hid hR
    obtain ⟨A1, c1, rfl⟩ := hR.own.form
    clear hR
    obtain ⟨p0, p1, p2, p3, p4, p5, p6⟩ := HR.out.box.seven
    have hlk : (P.steps.take k).length = k := by rw [List.length_take, Nat.min_eq_left (by rw [HL.out]; exact hk)]
    rw [hlk] at HR
    by_cases hlt : k < L
    · obtain ⟨ad, rfl, d0, d1, d2⟩ := steps_at (HS.out.below HR.out.below) (k := k) (by rw [HL.out]; exact hlt)
      obtain ⟨q0, q1, q2, q3, q4, q5, q6⟩ := HR.out.pth.seven
      generalize hst : stepAt P.steps k = st at *
      obtain ⟨l, s, x⟩ := st
      have HST := Lib.hid hst
      clear hst
      go_wp2
      have HR2 := Lib.hid (HR.out.quiet (Kept.drew0 wr))
      have HO2 : Hid (wr.drew.ownsRow (w.heap.size + 3) 72 3 (.slice A1 k c1) k (stepCells (P.steps.take k))) := Lib.hid (by have := HR2.out.own; unfold StepsOwn at this; rw [hlk] at this; exact this)
      have HZ2 : Hid (w.heap.size + 3 ≤ wr.heap.size) := Lib.hid (by have := HR.out.pth.lt; omega)
      have al0 : ∀ o, (wr.alloc o).cell? ⟨w.heap.size + 1 + 1, 0, none⟩ = some (.slice A1 k c1) := fun o => (World.cell?_of_block (a := ⟨w.heap.size + 2, 0, none⟩) (Deep.blk_alloc_lt _ _ _ HR.out.pth.lt)).trans q0
      clear HR hlk
      go_region_law (refine step_append_lies _ rfl _ _ 43 rfl (w.heap.size + 3) 72 i0 _ 3 24 Tryd.underlying43 hi hz0 hz1 hz2 rfl (by decide) (.slice A1 k c1) k (stepCells (P.steps.take k)) rfl (World.ownsRow.alloc HO2.out _) ⟨wr.drew.heap.size, 0, none⟩ 1 1 [.int .i64 l, .int .u64 s, .int .u64 x] rfl rfl (three_cells _ _ _ _ _) (three_one _ _ _) (by decide) (by unfold maxLen; omega) (by omega) (by have := HZ2.out; simp; omega) _ rfl ?_; intro g5 cap5 w5 hown' hgrow hat hlt5; have HN := Lib.hid (HR2.out.more (by rw [HL.out]; exact hlt) HST.out hown' hgrow); clear hgrow hown' hat hlt5; obtain ⟨p0, p1, p2, p3, p4, p5, p6⟩ := HN.out.2.seven; have q0 := HN.out.2.fz 0)
      all_goals
        go_wp2
        go_roundw
        case rel => exact ⟨k + 1, _, by omega, by go_num, HN.out.1⟩
        case measure => simp [intOf]; omega
    · have hle : L ≤ k := by omega
      obtain rfl : k = L := by omega
      obtain ⟨q0, q1, q2, q3, q4, q5, q6⟩ := HR.out.pth.seven
      obtain ⟨r0, r1, r2, r3, r4, r5, r6⟩ := HR.out.res.seven
      have s0 := HR.out.res.fz 0; have s1 := HR.out.res.fz 1; have s2 := HR.out.res.fz 2; have s3 := HR.out.res.fz 3; have s4 := HR.out.res.fz 4; have s5 := HR.out.res.fz 5; have s6 := HR.out.res.fz 6
      clear hlk hk hlt
      go_wp2
      have HE : Hid (P.steps.take k = P.steps) := Lib.hid (by rw [← HL.out]; exact List.take_length)
      refine bodyPost_ret (results_cell_row rfl _ _ (w.heap.size + 1) _ _ _ _ rfl (HR.out.res.set7 _ _ _ _ _ _ _) Tryd.underlying46 rfl rfl) rfl ⟨A1, c1, rfl, ?_, turn_below HR.out.below (turn7 _ _ _ _ _ _ _ _ _) (by omega) HR.out.below.size⟩
      have ho := HR.out.own
      rw [HE.out] at ho
      exact (ho.down (by omega)).turn (turn7 _ _ _ _ _ _ _ _ _) (fun i hi e => by have := (ho.lt hi).1; omega)
end Go.Proofs.YtopmmlcjlopmaaaDoor
/- The walk of RefwalkJudges. (Laid by tools/gen_l9j.py.) -/
namespace Go.Proofs.YtopmmlcjlopmaaaDoor
set_option linter.unusedVariables false
set_option linter.unusedSimpArgs false
open Go.ChangeShapes Go.WideShapes Go.ChangeAt Go.RowKit Go.Joins

set_option maxRecDepth 100000 in
set_option maxHeartbeats 1600000 in
theorem refwalkJudges_walk (A : Option Addr) (N c : Nat) (P : Pth) (u : Usx) (a : Int) (w : World) (hs : Shifts w) (hg : ErrT w) (hN : P.steps.length = N) (hS : StepsIn w (.slice A N c) P.steps) (hl : N * 24 ≤ 140737488355328) (ha : W64 a) :
    Calls Tryd.prog 3 #[pathV (.slice A N c) P.why P.W P.U P.X P.lev P.fr, useV u, .int .u64 a] w fun e w' => e = .returned (.bool true) ∧ Below w.heap.size w w' := by
  have HS := Lib.hid hs
  have HE := Lib.hid hg
  have hz := size_shifts hs
  have CR := fun w' (hb : Below w.heap.size w w') => real_any w' A N c P hN (hS.below hb) hl
  have CJ := fun w' A1 c1 => rjudge_any (.slice A1 N c1) P u a w' ha
  have H0 := Lib.hid (((Mine.start w).new (b := w.heap.size) rfl (pathCells (.slice A N c) P) 27).new (b := w.heap.size + 1) (by simp) (useCells u) 33)
  have HA := Lib.hid ha
  clear hs hg hN hS hl ha
  go_enter Tryd.func3, Tryd.ntmps3
  go_upto_region 1 with fail
  generalize hw0 : (w.alloc _).alloc _ = w0
  have H1 := Lib.hid (H0.out.world hw0)
  clear hw0 H0
  go_upto_region 2 with (first | (go_at_call 5; refine (awake9_any _ (shifts_under HS.out H1.out.below hz) (errT_keep HE.out H1.out.below)).mono ?_; rintro e w1 ⟨rfl, hB1⟩; have H2 := Lib.hid (H1.out.quiet hB1); clear hB1 H1))
  go_cut [8, 9] from 11 (fun s8 s9 wc => ∃ (pa : Int) (ev : Value), s8 = .int .u64 pa ∧ s9 = ev ∧ Hid (Mine w wc [⟨w.heap.size + 1, useCells u, 33⟩, ⟨w.heap.size, pathCells (.slice A N c) P, 27⟩] []) ∧ Hid (∀ w', Below wc.heap.size wc w' → Calls Tryd.prog 7 #[.int .u64 pa, ev] w' fun e w'' => e = .returned (.agg (ansCells (jans P u a))) ∧ Below w'.heap.size w' w''))
  case first =>
    obtain ⟨p0, p1, p2, p3, p4, p5, p6⟩ := (H2.out.at_ 1 rfl).seven
    obtain ⟨q0, q1, q2, q3, q4, q5, q6, q7⟩ := (H2.out.at_ 0 rfl).eight
    cases hm : jmay P u
    · have CP := fun w' => judge_no (.slice A N c) P u a w' hm
      have HJ := Lib.hid (jans_no a hm)
      generalize jcode P u = code at *
      generalize jans P u a = X at *
      clear hm CR CJ
      go_wp2_with (first | (go_at_call 6; refine (CP _).mono ?_; rintro e w2 ⟨g, rfl, hP2, hB2⟩; have HP2 := Lib.hid hP2; have H3 := Lib.hid (H2.out.quiet hB2); clear hP2 hB2 H2 p0 p1 p2 p3 p4 p5 p6 q0 q1 q2 q3 q4 q5 q6 q7))
      go_meet
      case rel => exact ⟨0, _, rfl, rfl, H3, Lib.hid (fun w' hb => by rw [HJ.out]; exact answer_page 0 0 _ _ a code w' (errT_keep HE.out (H3.out.below.trans (hb.mono H3.out.size))) (page_keep HP2.out hb))⟩
    · have CP := fun w' (hsh : Shifts w') => judge_yes (.slice A N c) P u a w' hsh HA.out hm
      have HJ := Lib.hid (jans_yes a hm)
      generalize jpa P a = pa at *
      generalize jans P u a = X at *
      clear hm CR CJ
      go_wp2_with (first | (go_at_call 6; refine (CP _ (shifts_under HS.out H2.out.below hz)).mono ?_; rintro e w2 ⟨rfl, hB2⟩; have H3 := Lib.hid (H2.out.quiet hB2); clear hB2 H2 p0 p1 p2 p3 p4 p5 p6 q0 q1 q2 q3 q4 q5 q6 q7))
      go_meet
      case rel => exact ⟨pa, _, rfl, rfl, H3, Lib.hid (fun w' _ => by rw [HJ.out]; exact answer_nil pa w')⟩
  case rest =>
    obtain ⟨pa, ev, rfl, rfl, H3, HC⟩ := hcut
    clear H2
    generalize jans P u a = X at *
    go_upto_region 3 with fail
    have HX := Lib.hid (H3.out.quiet (Kept.drew0 wc))
    refine wp_region_held_drew (S := fun w' => Mine w w' _ _) (by kernel_rfl) (HX.out.pick [0, 1] []) (fun hHeld => ?_)
    have hBc : Below wc.heap.size wc wc.drew := Kept.drew0 wc
    clear H3
    have H3 := HX
    clear HX
    generalize wc.drew = w3 at *
    refine tk (v := ?_) 0 ?_ ?_
    rotate_left
    · intro w hSw
      go_simp
      (try with_reducible rfl)
    (try simp only [Act.put, List.setIfInBounds_toArray, List.set_cons_zero, List.set_cons_succ])
    refine tk (v := ?_) 1 ?_ ?_
    rotate_left
    · intro w hSw
      go_simp
      (try with_reducible rfl)
    (try simp only [Act.put, List.setIfInBounds_toArray, List.set_cons_zero, List.set_cons_succ])
    refine tk (v := ?_) 2 ?_ ?_
    rotate_left
    · intro w hSw
      go_simp
      (try with_reducible rfl)
    (try simp only [Act.put, List.setIfInBounds_toArray, List.set_cons_zero, List.set_cons_succ])
    refine tk (v := ?_) 3 ?_ ?_
    rotate_left
    · intro w hSw
      go_simp
      (try with_reducible rfl)
    (try simp only [Act.put, List.setIfInBounds_toArray, List.set_cons_zero, List.set_cons_succ])
    refine tk (v := ?_) 5 ?_ ?_
    rotate_left
    · intro w hSw
      obtain ⟨p0, p1, p2, p3, p4, p5, p6⟩ := (hSw.at_ 1 rfl).seven
      go_simp
      (try with_reducible rfl)
    (try simp only [Act.put, List.setIfInBounds_toArray, List.set_cons_zero, List.set_cons_succ])
    refine tk (v := ?_) 7 ?_ ?_
    rotate_left
    · intro w hSw
      obtain ⟨q0, q1, q2, q3, q4, q5, q6, q7⟩ := (hSw.at_ 0 rfl).eight
      go_simp
      (try with_reducible rfl)
    (try simp only [Act.put, List.setIfInBounds_toArray, List.set_cons_zero, List.set_cons_succ])
    refine tk (v := ?_) 8 ?_ ?_
    rotate_left
    · intro w hSw
      go_simp
      (try with_reducible rfl)
    (try simp only [Act.put, List.setIfInBounds_toArray, List.set_cons_zero, List.set_cons_succ])
    refine wpAnyH_ready (rs := [4]) (by kernel_rfl) (by simp) ?_
    refine anyH_one rfl (fun K hK => ?_) ?_
    · go_simp
      refine (HC.out _ hBc).mono ?_
      rintro e w4 ⟨rfl, hB4⟩
      have H4 := Lib.hid (H3.out.quiet hB4)
      clear H3
      refine hK.out _ _ (H4.out.pick [0, 1] []) (fun hHeld => ?_)
      clear hK K
      (try simp only [Act.put, List.setIfInBounds_toArray, List.set_cons_zero, List.set_cons_succ])
      refine wpAnyH_ready (rs := [6]) (by kernel_rfl) (by simp) ?_
      refine anyH_one rfl (fun K hK => ?_) ?_
      · go_simp
        refine (CR _ H4.out.below).mono ?_
        rintro e w5 ⟨A1, c1, rfl, _, hB5⟩
        have H5 := Lib.hid (H4.out.quiet hB5)
        clear H4
        refine hK.out _ _ (H5.out.pick [0, 1] []) (fun hHeld => ?_)
        clear hK K
        (try simp only [Act.put, List.setIfInBounds_toArray, List.set_cons_zero, List.set_cons_succ])
        refine wpAnyH_ready (rs := [9]) (by kernel_rfl) (by simp) ?_
        refine anyH_one rfl (fun K hK => ?_) ?_
        · go_simp
          refine (CJ _ A1 c1).mono ?_
          rintro e w6 ⟨rfl, hB6⟩
          have H6 := Lib.hid (H5.out.quiet hB6)
          clear H5
          refine hK.out _ _ (H6.out.pick [0, 1] []) (fun hHeld => ?_)
          clear hK K
          (try simp only [Act.put, List.setIfInBounds_toArray, List.set_cons_zero, List.set_cons_succ])
          refine tk (v := ?_) 10 ?_ ?_
          rotate_left
          · intro w hSw
            go_simp
            (try with_reducible rfl)
          (try simp only [Act.put, List.setIfInBounds_toArray, List.set_cons_zero, List.set_cons_succ])
          refine tk (v := ?_) 11 ?_ ?_
          rotate_left
          · intro w hSw
            go_simp
            (try with_reducible rfl)
          (try simp only [Act.put, List.setIfInBounds_toArray, List.set_cons_zero, List.set_cons_succ])
          refine tk (v := ?_) 12 ?_ ?_
          rotate_left
          · intro w hSw
            go_simp
            (try with_reducible rfl)
          (try simp only [Act.put, List.setIfInBounds_toArray, List.set_cons_zero, List.set_cons_succ])
          refine wpAnyH_done (by kernel_rfl) ?_ _
          clear hHeld
          go_wp2
          go_ret
          exact ⟨rfl, H6.out.below⟩
        exact AllReadyH.nil
      exact AllReadyH.nil
    exact AllReadyH.nil
end Go.Proofs.YtopmmlcjlopmaaaDoor
