/- Several texts of ours in one: Hv, Er, Hx. -/
import Derived.Test.YtlpjbmlkpmhdlaaDoorGL8sHsIb
import Derived.Deep.RegionLaw
import Derived.Deep.AppendLies
import Derived.Test.YtlpjbmlkpmhdlaaDoorGEmEaHa
import Derived.Test.YtlpjbmlkpmhdlaaDoorGVaVrFr
import Derived.Test.YtlpjbmlkpmhdlaaDoorGIcHtHw
import Derived.BigQuiet
/- real of layer 8: a path as the document has it. -/
namespace Go.Proofs.YtlpjbmlkpmhdlaaDoor
set_option linter.unusedVariables false
set_option linter.unusedSimpArgs false
open Go.ChangeShapes Go.WideShapes Go.ChangeAt Go.RowKit Go.Joins

theorem take_more (S : List (Int × Int × Int)) {k : Nat} (hk : k < S.length) : S.take (k + 1) = S.take k ++ [stepAt S k] := by
  rw [List.take_add_one, List.getElem?_eq_getElem hk]
  simp [stepAt, List.getD, List.getElem?_eq_getElem hk]

/-- real, in its loop -/
structure Rea (w wr : World) (vin : Value) (P : Pth) (k : Nat) (v : Value) : Prop where
  box : Blk wr w.heap.size (pathCells vin P) 38
  res : Blk wr (w.heap.size + 1) (pathCells (.slice none 0 0) (offP 0)) 45
  pth : Blk wr (w.heap.size + 2) (pathCells v P) 45
  own : StepsOwn 96 wr (w.heap.size + 3) v (P.steps.take k)
  below : Below w.heap.size w wr

section
variable {w wr w3 w5 : World} {vin v v' : Value} {P : Pth} {k : Nat}
theorem Rea.start (w : World) (vin : Value) (P : Pth) : Rea w (((w.alloc (.cells (pathCells vin P) 38)).alloc (.cells (pathCells (.slice none 0 0) (offP 0)) 45)).alloc (.cells (pathCells (.slice none 0 0) P) 45)) vin P 0 (.slice none 0 0) := by
  have e1 : ∀ o, (w.alloc o).heap.size = w.heap.size + 1 := fun o => by simp
  have e2 : ∀ o o', ((w.alloc o).alloc o').heap.size = w.heap.size + 2 := fun o o' => by simp
  refine ⟨((Blk.new w _ _).alloc _).alloc _, ?_, ?_, StepsOwn.nil _ _ _, below3 w _ _ _⟩
  · have := (Blk.new (w.alloc (.cells (pathCells vin P) 38)) (pathCells (.slice none 0 0) (offP 0)) 45).alloc (.cells (pathCells (.slice none 0 0) P) 45)
    rwa [e1] at this
  · have := Blk.new ((w.alloc (.cells (pathCells vin P) 38)).alloc (.cells (pathCells (.slice none 0 0) (offP 0)) 45)) (pathCells (.slice none 0 0) P) 45
    rwa [e2] at this
theorem Rea.quiet (h : Rea w wr vin P k v) (hb : Below wr.heap.size wr w3) : Rea w w3 vin P k v :=
  ⟨h.box.below hb, h.res.below hb, h.pth.below hb, h.own.below hb, h.below.trans (hb.mono h.below.size)⟩
theorem Rea.more {l s x : Int} {u : TypeId} (h : Rea w wr vin P k v) (hk : k < P.steps.length) (hx : stepAt P.steps k = (l, s, x)) (hown : w5.ownsRow (w.heap.size + 3) 96 3 v' (k + 1) (stepCells (P.steps.take k) ++ [.int .i64 l, .int .u64 s, .int .u64 x]))
    (hg : (wr.alloc (.cells #[.int .i64 l, .int .u64 s, .int .u64 x] u)).grownBy w5 v.ownBlock) :
    Rea w (w5.setCell ⟨w.heap.size + 2, 0, none⟩ v') vin P (k + 1) v' ∧ Blk w5 (w.heap.size + 2) (pathCells v P) 45 := by
  have ht : Turn (fun i => v.ownBlock = some i) wr w5 := (Turn.alloc _ wr _).and (Turn.grown hg (fun i hi => hi))
  have hv : ∀ i, v.ownBlock = some i → w.heap.size + 3 ≤ i := fun i hi => (h.own.lt hi).1
  have n0 : ¬ v.ownBlock = some w.heap.size := fun e => by have := hv _ e; omega
  have n1 : ¬ v.ownBlock = some (w.heap.size + 1) := fun e => by have := hv _ e; omega
  have n2 : ¬ v.ownBlock = some (w.heap.size + 2) := fun e => by have := hv _ e; omega
  have hs : StepsOwn 96 w5 (w.heap.size + 3) v' (P.steps.take (k + 1)) := by
    rw [take_more _ hk, hx]
    exact StepsOwn.more (by rw [List.length_take, Nat.min_eq_left (by omega)]; exact hown)
  have hp5 := h.pth.turn ht n2
  have t2 := turn1 w5 (w.heap.size + 2) 0 v'
  have b5 : Below w.heap.size w w5 := h.below.trans (ht.below (fun i hi => by have := hv i hi; omega) h.below.size)
  exact ⟨⟨(h.box.turn ht n0).turn t2 (by omega), (h.res.turn ht n1).turn t2 (by omega), hp5.set1 0 v', hs.turn t2 (fun i hi e => by have := (hs.lt hi).1; omega), turn_below b5 t2 (by omega) b5.size⟩, hp5⟩
end

set_option maxRecDepth 100000 in
set_option maxHeartbeats 3200000 in
theorem real_any (w : World) (A : Option Addr) (L c : Nat) (P : Pth) (hL : P.steps.length = L) (hS : StepsIn w (.slice A L c) P.steps) (hl : L * 24 ≤ 140737488355328) :
    Calls Tryd.prog 15 #[pathV (.slice A L c) P.why P.W P.U P.X P.lev P.fr] w fun e w' => ∃ A' c', e = .returned (pathV (.slice A' L c') P.why P.W P.U P.X P.lev P.fr) ∧ StepsOwn 96 w' w.heap.size (.slice A' L c') P.steps ∧ Below w.heap.size w w' := by
  obtain ⟨i0, hi, hz0, hz1, hz2⟩ := info_parts infoRStep
  have HP := Lib.hid (Rea.start w (.slice A L c) P)
  have HL := Lib.hid hL
  have HS := Lib.hid hS
  clear hL hS
  go_enter Tryd.func15, Tryd.ntmps15
  go_wp2
  go_loopw [4] (fun i wr => ∃ (k : Nat) (v : Value), k ≤ L ∧ i = .int .i64 k ∧ Rea w wr (.slice A L c) P k v) (fun i _ => (L - intOf i).toNat)
  case atStart => exact ⟨0, _, by omega, rfl, HP.out⟩
  case round =>
    obtain ⟨k, v, hk, rfl, hR⟩ := hrel
    clear HP
    have HR := Lib.hid hR
    obtain ⟨A1, c1, rfl⟩ := hR.own.form
    clear hR
    obtain ⟨p0, p1, p2, p3, p4, p5, p6⟩ := HR.out.box.seven
    have hlk : (P.steps.take k).length = k := by rw [List.length_take, Nat.min_eq_left (by rw [HL.out]; exact hk)]
    rw [hlk] at HR
    by_cases hlt : k < L
    · obtain ⟨ad, rfl, d0, d1, d2⟩ := steps_at (HS.out.below HR.out.below) (k := k) (by rw [HL.out]; exact hlt)
      obtain ⟨q0, q1, q2, q3, q4, q5, q6⟩ := HR.out.pth.seven
      generalize hst : stepAt P.steps k = st at *
      obtain ⟨l, s, x⟩ := st
      have HST := Lib.hid hst
      clear hst
      go_wp2
      have HR2 := Lib.hid (HR.out.quiet (Kept.drew0 wr))
      have HO2 : Hid (wr.drew.ownsRow (w.heap.size + 3) 96 3 (.slice A1 k c1) k (stepCells (P.steps.take k))) := Lib.hid (by have := HR2.out.own; unfold StepsOwn at this; rw [hlk] at this; exact this)
      have HZ2 : Hid (w.heap.size + 3 ≤ wr.heap.size) := Lib.hid (by have := HR.out.pth.lt; omega)
      have al0 : ∀ o, (wr.alloc o).cell? ⟨w.heap.size + 1 + 1, 0, none⟩ = some (.slice A1 k c1) := fun o => (World.cell?_of_block (a := ⟨w.heap.size + 2, 0, none⟩) (Deep.blk_alloc_lt _ _ _ HR.out.pth.lt)).trans q0
      clear HR hlk
      go_region_law (refine step_append_lies _ rfl _ _ 42 rfl (w.heap.size + 3) 96 i0 _ 3 24 Tryd.underlying42 hi hz0 hz1 hz2 rfl (by decide) (.slice A1 k c1) k (stepCells (P.steps.take k)) rfl (World.ownsRow.alloc HO2.out _) ⟨wr.drew.heap.size, 0, none⟩ 1 1 [.int .i64 l, .int .u64 s, .int .u64 x] rfl rfl (three_cells _ _ _ _ _) (three_one _ _ _) (by decide) (by unfold maxLen; omega) (by omega) (by have := HZ2.out; simp; omega) _ rfl ?_; intro g5 cap5 w5 hown' hgrow hat hlt5; have HN := Lib.hid (HR2.out.more (by rw [HL.out]; exact hlt) HST.out hown' hgrow); clear hgrow hown' hat hlt5; obtain ⟨p0, p1, p2, p3, p4, p5, p6⟩ := HN.out.2.seven; have q0 := HN.out.2.fz 0)
      all_goals
        go_wp2
        go_roundw
        case rel => exact ⟨k + 1, _, by omega, by go_num, HN.out.1⟩
        case measure => simp [intOf]; omega
    · have hle : L ≤ k := by omega
      obtain rfl : k = L := by omega
      obtain ⟨q0, q1, q2, q3, q4, q5, q6⟩ := HR.out.pth.seven
      obtain ⟨r0, r1, r2, r3, r4, r5, r6⟩ := HR.out.res.seven
      have s0 := HR.out.res.fz 0; have s1 := HR.out.res.fz 1; have s2 := HR.out.res.fz 2; have s3 := HR.out.res.fz 3; have s4 := HR.out.res.fz 4; have s5 := HR.out.res.fz 5; have s6 := HR.out.res.fz 6
      clear hlk hk hlt
      go_wp2
      have HE : Hid (P.steps.take k = P.steps) := Lib.hid (by rw [← HL.out]; exact List.take_length)
      refine bodyPost_ret (results_cell_row rfl _ _ (w.heap.size + 1) _ _ _ _ rfl (HR.out.res.set7 _ _ _ _ _ _ _) Tryd.underlying45 rfl rfl) rfl ⟨A1, c1, rfl, ?_, turn_below HR.out.below (turn7 _ _ _ _ _ _ _ _ _) (by omega) HR.out.below.size⟩
      have ho := HR.out.own
      rw [HE.out] at ho
      exact (ho.down (by omega)).turn (turn7 _ _ _ _ _ _ _ _ _) (fun i hi e => by have := (ho.lt hi).1; omega)
end Go.Proofs.YtlpjbmlkpmhdlaaDoor
/- Contracts of dormerref05: what each call of the document's own answer returns. -/
namespace Go.Proofs.YtlpjbmlkpmhdlaaDoor
set_option linter.unusedVariables false
set_option linter.unusedSimpArgs false
open Go.ChangeShapes Go.WideShapes Go.ChangeAt Go.RowKit Go.Joins

theorem rtable_any (x : Int) (w : World) (hx : W64 x) :
    Calls Tryd.prog 50 #[.int .u64 x] w fun e w' => e = .returned (.int .u64 (tableF x)) ∧ w = w' := by
  have e := Lib.hid (table_get hx)
  go_enter Tryd.func50, Tryd.ntmps50
  go_wp2_with (go_at_call 74; refine (rget_any _ _ _ _ hx).mono ?_; rintro e w' ⟨rfl, rfl⟩)
  go_ret
  exact ⟨ret_int e.out, rfl⟩

theorem rleaf_any (x l : Int) (w : World) (hx : W64 x) :
    Calls Tryd.prog 48 #[.int .u64 x, .int .i64 l] w fun e w' => e = .returned (.bool (leafF x l)) ∧ w = w' := by
  by_cases h1 : l = 1
  · subst h1
    go_enter Tryd.func48, Tryd.ntmps48
    go_wp2
    go_ret
    exact ⟨rfl, rfl⟩
  · by_cases h2 : l = 2
    · subst h2
      rw [leaf_two]
      go_enter Tryd.func48, Tryd.ntmps48
      go_wp2_with (go_at_call 45; refine (rbit_any _ _ _ hx).mono ?_; rintro e w' ⟨rfl, rfl⟩)
      go_ret
      exact ⟨rfl, rfl⟩
    · by_cases h3 : l = 3
      · subst h3
        rw [leaf_three]
        go_enter Tryd.func48, Tryd.ntmps48
        go_wp2_with (go_at_call 45; refine (rbit_any _ _ _ hx).mono ?_; rintro e w' ⟨rfl, rfl⟩)
        go_ret
        exact ⟨rfl, rfl⟩
      · rw [leaf_else x h1 h2 h3]
        have c1 : (l == 1) = false := by simp [h1]
        have c2 : (l == 2) = false := by simp [h2]
        have c3 : (l == 3) = false := by simp [h3]
        clear h1 h2 h3
        go_enter Tryd.func48, Tryd.ntmps48
        go_wp2_with (go_at_call 45; refine (rbit_any _ _ _ hx).mono ?_; rintro e w' ⟨rfl, rfl⟩)
        go_ret
        exact ⟨rfl, rfl⟩

theorem some_any (x : Int) (lo hi : Nat) (w : World) (hx : W64 x) (h : lo ≤ hi + 1) (h63 : hi ≤ 63) :
    Calls Tryd.prog 72 #[.int .u64 x, .int .i64 lo, .int .i64 hi] w fun e w' => e = .returned (.bool (hasF x (maskF lo (hi + 1 - lo)))) ∧ w = w' := by
  obtain ⟨r, hr0⟩ : ∃ r, hasF x (maskF lo (hi + 1 - lo)) = r := ⟨_, rfl⟩
  rw [hr0]
  have hr := Lib.hid hr0
  clear hr0
  go_enter Tryd.func72, Tryd.ntmps72
  go_wp2
  go_loop [7] (fun i => ∃ k : Nat, lo ≤ k ∧ k ≤ hi + 1 ∧ i = .int .i64 k ∧ ∀ j, lo ≤ j → j < k → tb x j = false) (fun i => (hi + 1 - intOf i).toNat)
  case atStart => exact ⟨lo, by omega, h, rfl, fun j h1 h2 => absurd h2 (by omega)⟩
  case round =>
    obtain ⟨k, hk1, hk2, rfl, hall⟩ := hrel
    have hA := Lib.hid hall
    clear hall
    by_cases hlt : k ≤ hi
    · have hB := Lib.hid (bit_nat hx (show k < 64 by omega))
      cases hb : bitF x k
      · go_wp2_with (go_at_call 45; refine (rbit_any _ _ _ hx).mono ?_; rintro e w' ⟨rfl, rfl⟩)
        go_round
        case rel =>
          refine ⟨k + 1, by omega, by omega, by go_num, fun j h1 h2 => ?_⟩
          by_cases c : j = k
          · subst c; exact hB.out.symm.trans hb
          · exact hA.out j h1 (by omega)
        case measure => simp [intOf]; omega
      · go_wp2_with (go_at_call 45; refine (rbit_any _ _ _ hx).mono ?_; rintro e w' ⟨rfl, rfl⟩)
        go_ret
        exact ⟨ret_bool (by rw [← hr.out, has_some hx h h63 hk1 hlt (hB.out.symm.trans hb)]), rfl⟩
    · go_wp2
      go_ret
      exact ⟨ret_bool (by rw [← hr.out, has_none hx (fun j h1 h2 => hA.out j h1 (by omega))]), rfl⟩

theorem rslot_any (t a l : Int) (w : World) (ht : W64 t) (ha : W64 a) :
    Calls Tryd.prog 43 #[.int .u64 t, .int .u64 a, .int .i64 l] w fun e w' => e = .returned (.int .u64 (slotF t a l)) ∧ w = w' := by
  have e := Lib.hid (slot_wrap t a l)
  go_enter Tryd.func43, Tryd.ntmps43
  go_wp2_with (first | (go_at_call 50; refine (rtable_any _ _ ht).mono ?_; rintro e w' ⟨rfl, rfl⟩) | (go_at_call 70; refine (rindex_any _ _ _ ha).mono ?_; rintro e w' ⟨rfl, rfl⟩))
  go_ret
  exact ⟨ret_int e.out, rfl⟩

theorem rframe_any (x l : Int) (w : World) (hx : W64 x) :
    Calls Tryd.prog 49 #[.int .u64 x, .int .i64 l] w fun e w' => e = .returned (.int .u64 (frameF x l)) ∧ w = w' := by
  obtain ⟨t0, t1⟩ := table_bd x
  cases h : leafF x l
  · rw [frame_else h]
    go_enter Tryd.func49, Tryd.ntmps49
    go_wp2_with (first | (go_at_call 50; refine (rtable_any _ _ hx).mono ?_; rintro e w' ⟨rfl, rfl⟩) | (go_at_call 48; refine (rleaf_any _ _ _ hx).mono ?_; rintro e w' ⟨rfl, rfl⟩))
    go_ret
    exact ⟨rfl, rfl⟩
  · rw [frame_leaf h]
    have hz := leaf_size h
    have e := Lib.hid (frame_wrap x l hz)
    obtain ⟨b0, b1⟩ := size_bd l
    have b2 : 1 ≤ sizeF l := by omega
    go_enter Tryd.func49, Tryd.ntmps49
    go_wp2_with (first | (go_at_call 50; refine (rtable_any _ _ hx).mono ?_; rintro e w' ⟨rfl, rfl⟩) | (go_at_call 48; refine (rleaf_any _ _ _ hx).mono ?_; rintro e w' ⟨rfl, rfl⟩) | (go_at_call 73; refine (rsize_any _ _).mono ?_; rintro e w' ⟨rfl, rfl⟩))
    go_ret
    exact ⟨ret_int e.out, rfl⟩

end Go.Proofs.YtlpjbmlkpmhdlaaDoor
/- The document's Same, where two paths' heads are the same; both Sames of any two paths. -/
namespace Go.Proofs.YtlpjbmlkpmhdlaaDoor
set_option linter.unusedVariables false
set_option linter.unusedSimpArgs false
open Go.ChangeShapes Go.WideShapes Go.ChangeAt Go.RowKit Go.Joins

/-- two of the document's paths in the variables of a call -/
structure RTwo (w wr : World) (pb : Nat) (v : Value) (P : Pth) (qb : Nat) (v' : Value) (Q : Pth) : Prop where
  boxP : Blk wr pb (pathCells v P) 45
  boxQ : Blk wr qb (pathCells v' Q) 45
  stepsP : StepsIn wr v P.steps
  stepsQ : StepsIn wr v' Q.steps
  below : Below w.heap.size w wr

section
variable {w wr w3 : World} {pb qb : Nat} {v v' : Value} {P Q : Pth}
theorem RTwo.quiet (h : RTwo w wr pb v P qb v' Q) (hb : Below wr.heap.size wr w3) : RTwo w w3 pb v P qb v' Q :=
  ⟨h.boxP.below hb, h.boxQ.below hb, h.stepsP.below hb, h.stepsQ.below hb, h.below.trans (hb.mono h.below.size)⟩
theorem RTwo.start (h1 : StepsIn w v P.steps) (h2 : StepsIn w v' Q.steps) : RTwo w ((w.alloc (.cells (pathCells v P) 45)).alloc (.cells (pathCells v' Q) 45)) w.heap.size v P (w.heap.size + 1) v' Q :=
  ⟨(Blk.new w _ _).alloc _, last_obj2 w _ _, h1.below (below2 w _ _), h2.below (below2 w _ _), below2 w _ _⟩
end

set_option maxRecDepth 100000 in
set_option maxHeartbeats 3200000 in
theorem rsame_yes (w : World) (A A' : Option Addr) (L c c' : Nat) (S T : List (Int × Int × Int)) (y : Int) (W U X : Bool) (lv fr : Int) (hL : S.length = L) (hT : T.length = L) (hS1 : StepsIn w (.slice A L c) S) (hS2 : StepsIn w (.slice A' L c') T) (hl : L ≤ maxLen) (hw1 : ∀ k, k < L → W64 (stepAt S k).2.2) (hw2 : ∀ k, k < L → W64 (stepAt T k).2.2) :
    Calls Tryd.prog 22 #[pathV (.slice A L c) y W U X lv fr, pathV (.slice A' L c') y W U X lv fr] w fun e w' => e = .returned (.bool (sameN S T L)) ∧ Below w.heap.size w w' := by
  have H0 := Lib.hid (RTwo.start (P := ⟨S, y, W, U, X, lv, fr⟩) (Q := ⟨T, y, W, U, X, lv, fr⟩) hS1 hS2)
  have HL := Lib.hid hL
  have HT := Lib.hid hT
  have HW1 := Lib.hid hw1
  have HW2 := Lib.hid hw2
  clear hS1 hS2 hL hT hw1 hw2
  go_enter Tryd.func22, Tryd.ntmps22
  go_wp2
  go_loopw [5] (fun i wr => ∃ k : Nat, k ≤ L ∧ i = .int .i64 k ∧ RTwo w wr w.heap.size (.slice A L c) ⟨S, y, W, U, X, lv, fr⟩ (w.heap.size + 1) (.slice A' L c') ⟨T, y, W, U, X, lv, fr⟩ ∧ sameN S T k = true) (fun i _ => (L - intOf i).toNat)
  case atStart => exact ⟨0, by omega, rfl, H0.out, rfl⟩
  case round =>
    obtain ⟨k, hk, rfl, hB, hY⟩ := hrel
    clear H0
    have HB := Lib.hid hB
    have HY := Lib.hid hY
    clear hB hY
    obtain ⟨p0, p1, p2, p3, p4, p5, p6⟩ := HB.out.boxP.seven
    by_cases hlt : k < L
    · obtain ⟨ad, rfl, d0, d1, d2⟩ := steps_at HB.out.stepsP (k := k) (by show k < S.length; rw [HL.out]; exact hlt)
      obtain ⟨ad', rfl, g0, g1, g2⟩ := steps_at HB.out.stepsQ (k := k) (by show k < T.length; rw [HT.out]; exact hlt)
      obtain ⟨q0, q1, q2, q3, q4, q5, q6⟩ := HB.out.boxQ.seven
      have HN : Hid (sameN S T (k + 1) = (sameN S T k && ((stepAt S k).1 == (stepAt T k).1 && ((stepAt S k).2.1 == (stepAt T k).2.1 && bareF (stepAt S k).2.2 == bareF (stepAt T k).2.2)))) := Lib.hid rfl
      have HNo : Hid (sameN S T (k + 1) = false → sameN S T L = false) := Lib.hid (same_false (by omega))
      have HX := Lib.hid (HW1.out k hlt)
      have HX' := Lib.hid (HW2.out k hlt)
      change wr.cell? _ = some (.int .i64 (stepAt S k).1) at d0
      change wr.cell? _ = some (.int .u64 (stepAt S k).2.1) at d1
      change wr.cell? _ = some (.int .u64 (stepAt S k).2.2) at d2
      change wr.cell? _ = some (.int .i64 (stepAt T k).1) at g0
      change wr.cell? _ = some (.int .u64 (stepAt T k).2.1) at g1
      change wr.cell? _ = some (.int .u64 (stepAt T k).2.2) at g2
      generalize (stepAt S k).1 = l at *
      generalize (stepAt S k).2.1 = s at *
      generalize (stepAt S k).2.2 = x at *
      generalize (stepAt T k).1 = l' at *
      generalize (stepAt T k).2.1 = s' at *
      generalize (stepAt T k).2.2 = x' at *
      have G0 : ∀ o, (wr.alloc o).cell? (ad'.add (k * 3)) = some (.int .i64 l') := fun o => (World.cell?_of_block (Deep.blk_alloc_lt _ _ _ (World.block_lt_of_cell? _ _ g0))).trans g0
      have G1 : ∀ o, (wr.alloc o).cell? ⟨(ad'.add (k * 3)).block, (ad'.add (k * 3)).off + 1, none⟩ = some (.int .u64 s') := fun o => (World.cell?_of_block (a := ⟨(ad'.add (k * 3)).block, (ad'.add (k * 3)).off + 1, none⟩) (Deep.blk_alloc_lt _ _ _ (World.block_lt_of_cell? _ _ g1))).trans g1
      have G2 : ∀ o, (wr.alloc o).cell? ⟨(ad'.add (k * 3)).block, (ad'.add (k * 3)).off + 2, none⟩ = some (.int .u64 x') := fun o => (World.cell?_of_block (a := ⟨(ad'.add (k * 3)).block, (ad'.add (k * 3)).off + 2, none⟩) (Deep.blk_alloc_lt _ _ _ (World.block_lt_of_cell? _ _ g2))).trans g2
      have hbl := HB.out.boxQ.lt
      have e9 : IntKind.i64.wrap ((k : Int) + 1) = (k : Int) + 1 := i64_wrap (by omega) (by unfold maxLen at hl; omega)
      go_upto_region 8 with fail
      obtain ⟨w1, hw1⟩ : ∃ w1, (wr.alloc (.cells #[.int .i64 l, .int .u64 s, .int .u64 x] 96)).alloc (.cells #[.int .i64 l', .int .u64 s', .int .u64 x'] 96) = w1 := ⟨_, rfl⟩
      have HB1 : Hid (RTwo w w1 w.heap.size (.slice (some ad) L c) ⟨S, y, W, U, X, lv, fr⟩ (w.heap.size + 1) (.slice (some ad') L c') ⟨T, y, W, U, X, lv, fr⟩) := Lib.hid (by rw [← hw1]; exact HB.out.quiet (below2 _ _ _))
      have hs1 : Blk w1 wr.heap.size #[.int .i64 l, .int .u64 s, .int .u64 x] 96 := by rw [← hw1]; exact (Blk.new wr _ _).alloc _
      have hs2 : Blk w1 (wr.heap.size + 1) #[.int .i64 l', .int .u64 s', .int .u64 x'] 96 := by rw [← hw1]; exact last_obj2 wr _ _
      obtain ⟨s0, s1, s2⟩ := hs1.three8
      obtain ⟨t0, t1, t2⟩ := hs2.three8
      rw [hw1]
      clear hw1 hs1 hs2 G0 G1 G2 d0 d1 d2 g0 g1 g2 HB p0 p1 p2 p3 p4 p5 p6 q0 q1 q2 q3 q4 q5 q6 hbl
      generalize wr.heap.size = sb at *
      obtain ⟨z, hz⟩ : ∃ z, bareF x = z := ⟨_, rfl⟩
      obtain ⟨z', hz'⟩ : ∃ z', bareF x' = z' := ⟨_, rfl⟩
      have CX := fun k => bare_any x (w1.drewN k) HX.out
      have CX' := fun k => bare_any x' (w1.drewN k) HX'.out
      rw [hz] at CX HN
      rw [hz'] at CX' HN
      clear hz hz' HX HX'
      by_cases hl1 : l = l'
      · subst hl1
        have b1 : (l != l) = false := by simp
        by_cases hl2 : s = s'
        · subst hl2
          have b2 : (s != s) = false := by simp
          by_cases hl3 : z = z'
          · subst hl3
            have b3 : (z != z) = false := by simp
            have HN : Hid (sameN S T (k + 1) = true) := Lib.hid (by rw [HN.out, HY.out]; simp)
            clear HY HNo
            go_wp2
            go_quiet (first | (go_at_call 56; exact quietOf (CX _)) | (go_at_call 56; exact quietOf (CX' _)))
            have HB2 := Lib.hid (HB1.out.quiet (drewN_below w1 nq))
            clear HB1 s0 s1 s2 t0 t1 t2 CX CX'
            go_wp2
            go_roundw
            case rel => exact ⟨k + 1, by omega, by go_num, HB2.out, HN.out⟩
            case measure => simp [intOf]; omega
          · have b3 : (z != z') = true := by simpa using hl3
            have HN : Hid (sameN S T L = false) := Lib.hid (HNo.out (by rw [HN.out, show (z == z') = false by simpa using hl3]; simp))
            clear HY HNo hl3
            go_wp2
            go_quiet (first | (go_at_call 56; exact quietOf (CX _)) | (go_at_call 56; exact quietOf (CX' _)))
            have HB2 := Lib.hid (HB1.out.quiet (drewN_below w1 nq))
            clear HB1 s0 s1 s2 t0 t1 t2 CX CX'
            have HE := Lib.hid HB2.out.below
            clear HB2
            go_wp2
            go_ret
            exact ⟨by rw [HN.out]; rfl, HE.out⟩
        · have b2 : (s != s') = true := by simpa using hl2
          have HN : Hid (sameN S T L = false) := Lib.hid (HNo.out (by rw [HN.out, show (s == s') = false by simpa using hl2]; simp))
          clear HY HNo hl2
          go_wp2
          go_quiet (first | (go_at_call 56; exact quietOf (CX _)) | (go_at_call 56; exact quietOf (CX' _)))
          have HB2 := Lib.hid (HB1.out.quiet (drewN_below w1 nq))
          clear HB1 s0 s1 s2 t0 t1 t2 CX CX'
          have HE := Lib.hid HB2.out.below
          clear HB2
          go_wp2
          go_ret
          exact ⟨by rw [HN.out]; rfl, HE.out⟩
      · have b1 : (l != l') = true := by simpa using hl1
        have HN : Hid (sameN S T L = false) := Lib.hid (HNo.out (by rw [HN.out, show (l == l') = false by simpa using hl1]; simp))
        clear HY HNo hl1
        go_wp2
        go_quiet (first | (go_at_call 56; exact quietOf (CX _)) | (go_at_call 56; exact quietOf (CX' _)))
        have HB2 := Lib.hid (HB1.out.quiet (drewN_below w1 nq))
        clear HB1 s0 s1 s2 t0 t1 t2 CX CX'
        have HE := Lib.hid HB2.out.below
        clear HB2
        go_wp2
        go_ret
        exact ⟨by rw [HN.out]; rfl, HE.out⟩
    · have hle : L ≤ k := by omega
      obtain rfl : k = L := by omega
      go_wp2
      go_ret
      exact ⟨by rw [HY.out]; rfl, HB.out.below⟩

/-- are two paths the same, but for A and D? -/
abbrev headP (P Q : Pth) : Prop := P.why = Q.why ∧ P.W = Q.W ∧ P.U = Q.U ∧ P.X = Q.X ∧ P.lev = Q.lev ∧ P.fr = Q.fr ∧ P.steps.length = Q.steps.length
def alikeP (P Q : Pth) : Bool := if headP P Q then sameN P.steps Q.steps P.steps.length else false

theorem alikeP_self (P : Pth) : alikeP P P = true := by
  unfold alikeP
  rw [if_pos (by unfold headP; simp)]
  exact same_of _ (fun _ _ => ⟨rfl, rfl, rfl⟩)

theorem same_all (w : World) (P Q : Pth) (A A' : Option Addr) (L L' c c' : Nat) (hL : P.steps.length = L) (hL' : Q.steps.length = L') (h1 : StepsIn w (.slice A L c) P.steps) (h2 : StepsIn w (.slice A' L' c') Q.steps) (hl : L ≤ maxLen) :
    Calls Tryd.prog 21 #[pathV (.slice A L c) P.why P.W P.U P.X P.lev P.fr, pathV (.slice A' L' c') Q.why Q.W Q.U Q.X Q.lev Q.fr] w fun e w' => e = .returned (.bool (alikeP P Q)) ∧ Below w.heap.size w w' := by
  unfold alikeP
  by_cases h : headP P Q
  · rw [if_pos h]
    obtain ⟨e1, e2, e3, e4, e5, e6, e7⟩ := h
    obtain rfl : L = L' := by rw [← hL, ← hL', e7]
    rw [← e1, ← e2, ← e3, ← e4, ← e5, ← e6, hL]
    exact same_yes w A A' L c c' P.steps Q.steps P.why P.W P.U P.X P.lev P.fr hL hL' h1 h2 hl
  · rw [if_neg h]
    refine same_no w A A' L L' c c' _ _ _ _ _ _ _ _ _ _ _ _ (fun hh => h ?_)
    obtain ⟨e1, e2, e3, e4, e5, e6, e7⟩ := hh
    exact ⟨e1, e2, e3, e4, e5, e6, by rw [hL, hL', e7]⟩

theorem rsame_all (w : World) (P Q : Pth) (A A' : Option Addr) (L L' c c' : Nat) (hL : P.steps.length = L) (hL' : Q.steps.length = L') (h1 : StepsIn w (.slice A L c) P.steps) (h2 : StepsIn w (.slice A' L' c') Q.steps) (hl : L ≤ maxLen) (hw1 : ∀ k, k < P.steps.length → W64 (stepAt P.steps k).2.2) (hw2 : ∀ k, k < Q.steps.length → W64 (stepAt Q.steps k).2.2) :
    Calls Tryd.prog 22 #[pathV (.slice A L c) P.why P.W P.U P.X P.lev P.fr, pathV (.slice A' L' c') Q.why Q.W Q.U Q.X Q.lev Q.fr] w fun e w' => e = .returned (.bool (alikeP P Q)) ∧ Below w.heap.size w w' := by
  unfold alikeP
  by_cases h : headP P Q
  · rw [if_pos h]
    obtain ⟨e1, e2, e3, e4, e5, e6, e7⟩ := h
    obtain rfl : L = L' := by rw [← hL, ← hL', e7]
    rw [← e1, ← e2, ← e3, ← e4, ← e5, ← e6, hL]
    exact rsame_yes w A A' L c c' P.steps Q.steps P.why P.W P.U P.X P.lev P.fr hL hL' h1 h2 hl (by rw [← hL]; exact hw1) (by rw [← hL']; exact hw2)
  · rw [if_neg h]
    refine rsame_no w A A' L L' c c' _ _ _ _ _ _ _ _ _ _ _ _ (fun hh => h ?_)
    obtain ⟨e1, e2, e3, e4, e5, e6, e7⟩ := hh
    exact ⟨e1, e2, e3, e4, e5, e6, by rw [hL, hL', e7]⟩

set_option maxRecDepth 100000 in
/-- where the document's walk begins -/
theorem rtop_any (r : Int) (w : World) (hr : W64 r) :
    Calls Tryd.prog 20 #[.int .u64 r] w fun e w' => e = .returned (placeV 4 (tableF r) true true true) ∧ Below w.heap.size w w' := by
  go_enter Tryd.func20, Tryd.ntmps20
  go_wp2_with (first | (go_at_call 50; refine (rtable_any _ _ hr).mono ?_; rintro e w' ⟨rfl, rfl⟩))
  exact bodyPost_ret (results_cell_row rfl _ _ w.heap.size _ _ _ _ rfl (last_obj w _) Tryd.underlying49 rfl rfl) rfl ⟨rfl, below_alloc1 w _⟩
end Go.Proofs.YtlpjbmlkpmhdlaaDoor
