/- Several texts of ours in one: Hs, Ib, Ic. -/
import Derived.Test.YtopmmlcjlopmaaaGreatDoorGKcBxL8s
import Derived.Test.YtopmmlcjlopmaaaGreatDoorGHpHqHu
import Derived.Test.YtopmmlcjlopmaaaGreatDoorGRjIaGt
import Derived.StillTailTactics
/- Contracts of package walk: unused, Same. (Laid by tools/gen_hs.py.) -/
namespace Go.Proofs.YtopmmlcjlopmaaaGreatDoor
set_option linter.unusedVariables false
set_option linter.unusedSimpArgs false
open Go.ChangeShapes Go.WideShapes Go.ChangeAt Go.RowKit Go.Joins

/-- a word without A and D -/
def bareF (x : Int) : Int := bits .andNot .u64 x 96

theorem Blk.three8 {w : World} {b : Nat} {t : TypeId} {x0 x1 x2 : Value} (h : Blk w b #[x0, x1, x2] t) : w.cell? ⟨b, 0, none⟩ = some x0 ∧ w.cell? ⟨b, 1, none⟩ = some x1 ∧ w.cell? ⟨b, 2, none⟩ = some x2 := by
  unfold Blk at h; simp [World.cell?, h]

/-- are the first k steps the same, but for A and D? -/
def sameN (S T : List (Int × Int × Int)) : Nat → Bool
  | 0 => true
  | k + 1 => sameN S T k && ((stepAt S k).1 == (stepAt T k).1 && ((stepAt S k).2.1 == (stepAt T k).2.1 && bareF (stepAt S k).2.2 == bareF (stepAt T k).2.2))

theorem same_false {S T : List (Int × Int × Int)} {k : Nat} : ∀ {L : Nat}, k + 1 ≤ L → sameN S T (k + 1) = false → sameN S T L = false
  | L + 1, hk, h => by
    by_cases e : k = L
    · subst e; exact h
    · unfold sameN; rw [same_false (L := L) (by omega) h]; rfl

/-- two paths in the variables of a call -/
structure Two (w wr : World) (pb : Nat) (v : Value) (P : Pth) (qb : Nat) (v' : Value) (Q : Pth) : Prop where
  boxP : Blk wr pb (pathCells v P) 37
  boxQ : Blk wr qb (pathCells v' Q) 37
  stepsP : StepsIn wr v P.steps
  stepsQ : StepsIn wr v' Q.steps
  below : Below w.heap.size w wr

section
variable {w wr w3 : World} {pb qb : Nat} {v v' : Value} {P Q : Pth}
theorem Two.quiet (h : Two w wr pb v P qb v' Q) (hb : Below wr.heap.size wr w3) : Two w w3 pb v P qb v' Q :=
  ⟨h.boxP.below hb, h.boxQ.below hb, h.stepsP.below hb, h.stepsQ.below hb, h.below.trans (hb.mono h.below.size)⟩
theorem Two.start (h1 : StepsIn w v P.steps) (h2 : StepsIn w v' Q.steps) : Two w ((w.alloc (.cells (pathCells v P) 37)).alloc (.cells (pathCells v' Q) 37)) w.heap.size v P (w.heap.size + 1) v' Q :=
  ⟨(Blk.new w _ _).alloc _, last_obj2 w _ _, h1.below (below2 w _ _), h2.below (below2 w _ _), below2 w _ _⟩
theorem steps_at {A : Option Addr} {L c : Nat} {S : List (Int × Int × Int)} (h : StepsIn wr (.slice A L c) S) {k : Nat} (hk : k < S.length) : ∃ ad, A = some ad ∧ wr.cell? (ad.add (k * 3)) = some (.int .i64 (stepAt S k).1) ∧ wr.cell? ⟨(ad.add (k * 3)).block, (ad.add (k * 3)).off + 1, none⟩ = some (.int .u64 (stepAt S k).2.1) ∧ wr.cell? ⟨(ad.add (k * 3)).block, (ad.add (k * 3)).off + 2, none⟩ = some (.int .u64 (stepAt S k).2.2) := by
  obtain ⟨A', c', hv, hc⟩ := h
  obtain ⟨ad, hA, d0, d1, d2⟩ := hc k hk
  simp at hv
  exact ⟨ad, hv.1.trans hA, d0, d1, d2⟩
end

end Go.Proofs.YtopmmlcjlopmaaaGreatDoor
/- The document's Built and Mark. -/
namespace Go.Proofs.YtopmmlcjlopmaaaGreatDoor
set_option linter.unusedVariables false
set_option linter.unusedSimpArgs false
open Go.ChangeShapes Go.WideShapes Go.ChangeAt Go.RowKit Go.Joins

/-- Built, in its loop -/
structure Bd (w wr : World) (vs : Value) (f : Int → Int) (L : List (Int × Int)) : Prop where
  res : Blk wr w.heap.size (docCells 0 (.slice none 0 0) (.slice none 0 0)) 45
  box : Blk wr (w.heap.size + 1) (docCells 16 vs (.slice none 0 0)) 45
  doc : Doc wr 16 vs (.slice none 0 0) f [] L
  below : Below w.heap.size w wr
  new : ∀ i, vs.ownBlock = some i → w.heap.size ≤ i

section
variable {w wr w3 : World} {vs vs' : Value} {f f' : Int → Int} {L L' : List (Int × Int)}
theorem Bd.start (w : World) : Bd w ((w.alloc (.cells (docCells 0 (.slice none 0 0) (.slice none 0 0)) 45)).alloc (.cells (docCells 16 (.slice none 0 0) (.slice none 0 0)) 45)) (.slice none 0 0) (fun _ => 0) [] :=
  ⟨(Blk.new w _ _).alloc _, last_obj2 w _ _, Doc.start _ _, below2 w _ _, by simp [Value.ownBlock]⟩
theorem Bd.quiet (h : Bd w wr vs f L) (hb : Below wr.heap.size wr w3) : Bd w w3 vs f L :=
  ⟨h.res.below hb, h.box.below hb, h.doc.quiet hb, h.below.trans (hb.mono h.below.size), h.new⟩
theorem Bd.set (h : Bd w wr vs f L) (hd : Doc wr 16 vs' (.slice none 0 0) f' [] L') (hn : ∀ i, vs'.ownBlock = some i → w.heap.size ≤ i) : Bd w (((wr.setCell ⟨w.heap.size + 1, 0, none⟩ (.int .i64 16)).setCell ⟨w.heap.size + 1, 1, none⟩ vs').setCell ⟨w.heap.size + 1, 2, none⟩ (.slice none 0 0)) vs' f' L' :=
  ⟨h.res.turn (turn3 _ _ _ _ _) (by omega), h.box.set3 _ _ _, hd.box h.box (by decide) (by decide) (turn3 _ _ _ _ _), turn_below h.below (turn3 _ _ _ _ _) (by omega) h.below.size, hn⟩
end

set_option maxRecDepth 100000 in
set_option maxHeartbeats 1600000 in
theorem rbuilt_any (w : World) (A : Option Addr) (c : Nat) (ds : List (Int × Int × Int × Int)) (hl : ds.length ≤ maxLen) (hd : PutsIn w A ds) (hok : PutsOk ds) :
    Calls Tryz.prog 11 #[.slice A ds.length c] w fun e w' => ∃ vs L, e = .returned (.agg (docCells 16 vs (.slice none 0 0))) ∧ Doc w' 16 vs (.slice none 0 0) (putSt ds (mostP ds)) [] L ∧ L.length ≤ 100 ∧ (∀ i, vs.ownBlock = some i → w.heap.size ≤ i) ∧ Below w.heap.size w w' := by
  unfold maxLen at hl
  have H0 := Lib.hid (Bd.start w)
  go_enter Tryz.func11, Tryz.ntmps11
  go_wp2
  go_loopw [4] (fun i wr => ∃ (k : Nat) (vs : Value) (L : List (Int × Int)), k ≤ mostP ds ∧ i = .int .i64 k ∧ L.length ≤ k ∧ Hid (Bd w wr vs (putSt ds k) L)) (fun i _ => (100 - intOf i).toNat)
  case atStart => exact ⟨0, _, [], Nat.zero_le _, rfl, Nat.zero_le _, H0⟩
  case round =>
    obtain ⟨k, vs, L, hk, rfl, hL, HB⟩ := hrel
    clear H0
    have hm0 : mostP ds ≤ 100 := by unfold mostP; omega
    have hm1 : mostP ds ≤ ds.length := by unfold mostP; omega
    obtain ⟨A1, c1, _, _, rfl, _⟩ := HB.out.doc.form
    by_cases hlt : k < mostP ds
    · obtain ⟨ad, rfl, g0, g1, g2, g3⟩ := puts_below hd HB.out.below k (by omega)
      obtain ⟨⟨s0, s1⟩, ⟨f0, f1⟩, l0, l1⟩ := hok k (by omega)
      have hF : putSt ds (k + 1) = storeS 16 (putSt ds k) (atS (ds.getD k (0, 0, 0, 0)).1) (atX (ds.getD k (0, 0, 0, 0)).2.1 (ds.getD k (0, 0, 0, 0)).2.2.1 (ds.getD k (0, 0, 0, 0)).2.2.2) := rfl
      have g1' : wr.cell? ⟨(ad.add (k * 4)).block, (ad.add (k * 4)).off + 1, none⟩ = some (.int .u16 (ds.getD k (0, 0, 0, 0)).2.1) := g1
      have g2' : wr.cell? ⟨(ad.add (k * 4)).block, (ad.add (k * 4)).off + 2, none⟩ = some (.int .u8 (ds.getD k (0, 0, 0, 0)).2.2.1) := g2
      have g3' : wr.cell? ⟨(ad.add (k * 4)).block, (ad.add (k * 4)).off + 3, none⟩ = some (.int .u64 (ds.getD k (0, 0, 0, 0)).2.2.2) := g3
      have hks : k < ds.length := by omega
      have h100 : (k : Int) < 100 := by omega
      generalize (ds.getD k (0, 0, 0, 0)).1 = sl at *
      generalize (ds.getD k (0, 0, 0, 0)).2.1 = fr at *
      generalize (ds.getD k (0, 0, 0, 0)).2.2.1 = fl at *
      generalize (ds.getD k (0, 0, 0, 0)).2.2.2 = mo at *
      have HF := Lib.hid hF
      have CA := fun w' => at_any sl fr fl mo w' s0 s1 f0 f1 l0 l1
      have HSw := Lib.hid (atS_w sl)
      clear hF g1 g2 g3 hd hok s0 s1 f0 f1 l0 l1
      generalize atS sl = s at *
      generalize atX fr fl mo = x at *
      generalize putSt ds k = f at *
      go_upto_region 6 with (first | (go_at_call 25; refine (CA _).mono ?_; rintro e w2 ⟨rfl, hB2⟩; have HB2 := Lib.hid (HB.out.quiet hB2); clear hB2 HB g0 g1' g2' g3'))
      obtain ⟨p0, p1, p2⟩ := HB2.out.box.three
      have CS := rStore_any 16 _ _ L [] f s x w2 ⟨by decide, by decide⟩ HB2.out.doc.slots (by omega) HB2.out.doc.words HB2.out.doc.agree HSw.out
      go_upto_region 7 with (first | (go_at_call 36; refine CS.mono ?_; rintro e w3 ⟨vs', rfl, hS3, hN3, hB3⟩; have HN3 : Hid (∀ i, vs'.ownBlock = some i → w.heap.size ≤ i) := Lib.hid (fun i hi => by rcases hN3 with e | e; (rw [e] at hi; exact HB2.out.new i hi); exact Nat.le_trans HB2.out.below.size (e i hi)); have HD3 := Lib.hid (HB2.out.doc.store (own_below HB2.out.doc.words hB3) s x HSw.out hS3); have HB3 := Lib.hid (HB2.out.quiet hB3); obtain ⟨A3, c3, _, _, rfl, _⟩ := HD3.out.form; clear hS3 hB3 hN3 HB2 CS p0 p1 p2))
      generalize hw4 : w3.alloc _ = w4
      have HK4 : Hid (Below w3.heap.size w3 w4) := Lib.hid (by rw [← hw4]; exact below_alloc1 _ _)
      have HN4 : Hid (Blk w4 w3.heap.size (docCells 16 (.slice A3 (storeL 16 L s x).length c3) (.slice none 0 0)) 45) := Lib.hid (by rw [← hw4]; exact Blk.new _ _ _)
      have HD4 := Lib.hid (HD3.out.quiet HK4.out)
      have HB4 := Lib.hid (HB3.out.quiet HK4.out)
      have HB5 := Lib.hid (HB4.out.set HD4.out HN3.out)
      rw [← HF.out] at HB5
      have hLn := storeL_len 16 L s x
      clear hw4 HK4 HB3 HD3
      obtain ⟨p0, p1, p2⟩ := HN4.out.three
      obtain ⟨q0, q1, q2⟩ := HB4.out.box.three
      have r0 := HB4.out.box.fz 0; have r1 := HB4.out.box.fz 1; have r2 := HB4.out.box.fz 2
      go_wp2
      go_roundw
      case rel => exact ⟨k + 1, _, _, by omega, by go_num, by omega, HB5⟩
      case measure => simp [intOf]; omega
    · have e : k = mostP ds := by omega
      have HE : Hid (putSt ds k = putSt ds (mostP ds)) := Lib.hid (by rw [e])
      obtain ⟨p0, p1, p2⟩ := HB.out.box.three
      obtain ⟨q0, q1, q2⟩ := HB.out.res.three
      have r0 := HB.out.res.fz 0; have r1 := HB.out.res.fz 1; have r2 := HB.out.res.fz 2
      have fin : ∃ vs' L', Value.slice A1 L.length c1 = vs' ∧ Doc (((wr.setCell ⟨w.heap.size, 0, none⟩ (.int .i64 16)).setCell ⟨w.heap.size, 1, none⟩ (.slice A1 L.length c1)).setCell ⟨w.heap.size, 2, none⟩ (.slice none 0 0)) 16 vs' (.slice none 0 0) (putSt ds (mostP ds)) [] L' ∧ L'.length ≤ 100 ∧ (∀ i, vs'.ownBlock = some i → w.heap.size ≤ i) ∧ Below w.heap.size w (((wr.setCell ⟨w.heap.size, 0, none⟩ (.int .i64 16)).setCell ⟨w.heap.size, 1, none⟩ (.slice A1 L.length c1)).setCell ⟨w.heap.size, 2, none⟩ (.slice none 0 0)) :=
        ⟨_, L, rfl, by rw [← HE.out]; exact HB.out.doc.box HB.out.res (by decide) (by decide) (turn3 _ _ _ _ _), by omega, HB.out.new, turn_below HB.out.below (turn3 _ _ _ _ _) (by omega) HB.out.below.size⟩
      have HFin := Lib.hid fin
      by_cases h1 : k < ds.length
      · have h2 : k = 100 := by unfold mostP at e; omega
        clear hd hok hk hlt e fin HE hm0 hm1
        subst h2
        go_wp2
        obtain ⟨vs', L', rfl, f1, f2, f4, f3⟩ := HFin.out
        exact bodyPost_ret (results_cell_row rfl _ _ w.heap.size _ _ _ _ rfl (HB.out.res.set3 _ _ _) Tryz.underlying45 rfl rfl) rfl ⟨_, L', rfl, f1, f2, f4, f3⟩
      · have h2 : ds.length ≤ k := by omega
        clear hd hok hk hlt e fin HE hm0 hm1
        go_wp2
        obtain ⟨vs', L', rfl, f1, f2, f4, f3⟩ := HFin.out
        exact bodyPost_ret (results_cell_row rfl _ _ w.heap.size _ _ _ _ rfl (HB.out.res.set3 _ _ _) Tryz.underlying45 rfl rfl) rfl ⟨_, L', rfl, f1, f2, f4, f3⟩

/-- the document's Mark, in its loop -/
structure RMk (w wr : World) (M : Int) (vs vt : Value) (f : Int → Int) (tr : List Int) (L : List (Int × Int)) (v : Value) (P : Pth) : Prop where
  mbox : Blk wr w.heap.size (docCells M vs vt) 45
  pbox : Blk wr (w.heap.size + 1) (pathCells v P) 51
  res : Blk wr (w.heap.size + 2) (docCells 0 (.slice none 0 0) (.slice none 0 0)) 45
  doc : Doc wr M vs vt f tr L
  below : Below w.heap.size w wr

section
variable {w wr w3 : World} {M : Int} {vs vt vs' v : Value} {f f' : Int → Int} {tr : List Int} {L L' : List (Int × Int)} {P : Pth}
theorem RMk.start (h : Doc w M vs vt f tr L) (v : Value) (P : Pth) : RMk w (((w.alloc (.cells (docCells M vs vt) 45)).alloc (.cells (pathCells v P) 51)).alloc (.cells (docCells 0 (.slice none 0 0) (.slice none 0 0)) 45)) M vs vt f tr L v P := by
  have e1 : ∀ o, (w.alloc o).heap.size = w.heap.size + 1 := fun o => by simp
  have e2 : ∀ o o', ((w.alloc o).alloc o').heap.size = w.heap.size + 2 := fun o o' => by simp
  refine ⟨((Blk.new w _ _).alloc _).alloc _, ?_, ?_, h.quiet (below3 w _ _ _), below3 w _ _ _⟩
  · have := (Blk.new (w.alloc (.cells (docCells M vs vt) 45)) (pathCells v P) 51).alloc (.cells (docCells 0 (.slice none 0 0) (.slice none 0 0)) 45)
    rwa [e1] at this
  · have := Blk.new ((w.alloc (.cells (docCells M vs vt) 45)).alloc (.cells (pathCells v P) 51)) (docCells 0 (.slice none 0 0) (.slice none 0 0)) 45
    rwa [e2] at this
theorem RMk.quiet (h : RMk w wr M vs vt f tr L v P) (hb : Below wr.heap.size wr w3) : RMk w w3 M vs vt f tr L v P :=
  ⟨h.mbox.below hb, h.pbox.below hb, h.res.below hb, h.doc.quiet hb, h.below.trans (hb.mono h.below.size)⟩
theorem RMk.set (h : RMk w wr M vs vt f tr L v P) (hb : Below wr.heap.size wr w3) (hd : Doc w3 M vs' vt f' tr L') : RMk w (((w3.setCell ⟨w.heap.size, 0, none⟩ (.int .i64 M)).setCell ⟨w.heap.size, 1, none⟩ vs').setCell ⟨w.heap.size, 2, none⟩ vt) M vs' vt f' tr L' v P := by
  have h3 := h.quiet hb
  exact ⟨h3.mbox.set3 _ _ _, h3.pbox.turn (turn3 _ _ _ _ _) (by omega), h3.res.turn (turn3 _ _ _ _ _) (by omega), hd.box h3.mbox (by decide) (by decide) (turn3 _ _ _ _ _), turn_below h3.below (turn3 _ _ _ _ _) (by omega) h3.below.size⟩
end

theorem markN_words {M : Int} {f : Int → Int} {S : List (Int × Int × Int)} {full : Bool} (h : ∀ j, W64 (f j)) (k : Nat) : ∀ j, W64 (markN M f S full k j) := (mark_up h k).w

end Go.Proofs.YtopmmlcjlopmaaaGreatDoor
/- The document's Mark. (Laid by tools/gen_ic.py.) -/
namespace Go.Proofs.YtopmmlcjlopmaaaGreatDoor
set_option linter.unusedVariables false
set_option linter.unusedSimpArgs false
open Go.ChangeShapes Go.WideShapes Go.ChangeAt Go.RowKit Go.Joins

set_option maxRecDepth 100000 in
set_option maxHeartbeats 3200000 in
theorem rmark_any {w : World} {M : Int} {vs vt : Value} {f : Int → Int} {tr : List Int} {L0 : List (Int × Int)} (h : Doc w M vs vt f tr L0) (hM : 14 ≤ M ∧ M ≤ 22) (hl : L0.length < 50000) (hwd : ∀ j, W64 (f j)) (A : Option Addr) (N c : Nat) (S : List (Int × Int × Int)) (hN : S.length = N) (hS : StepsIn w (.slice A N c) S) (hn : N ≤ 1000) (hw : ∀ k, k < N → W64 (stepAt S k).2.1)
    (y : Int) (W U X : Bool) (lv fr : Int) (dirty : Bool) :
    Calls Tryz.prog 35 #[.agg (docCells M vs vt), pathV (.slice A N c) y W U X lv fr, .bool dirty] w fun e w' => ∃ vs' L', e = .returned (.agg (docCells M vs' vt)) ∧ Doc w' M vs' vt (markN M f S (dirty && decide (y = 0)) N) tr L' ∧ L'.length ≤ L0.length + N ∧ Below w.heap.size w w' := by
  obtain ⟨A0, c0, A2, c2, rfl, rfl⟩ := h.form
  have H0 := Lib.hid (RMk.start h (.slice A N c) ⟨S, y, W, U, X, lv, fr⟩)
  have HN := Lib.hid hN
  have HS := Lib.hid hS
  have HW := Lib.hid hw
  have HWd := Lib.hid hwd
  clear h hN hS hw hwd
  have e6 : IntKind.i64.wrap ((N : Int) - 1) = (N : Int) - 1 := i64_wrap (by omega) (by omega)
  go_enter Tryz.func35, Tryz.ntmps35
  go_wp2
  go_loopw [7] (fun i wr => ∃ (k : Nat) (vs : Value) (L : List (Int × Int)), k ≤ N ∧ i = .int .i64 k ∧ L.length ≤ L0.length + k ∧ Hid (RMk w wr M vs (.slice A2 tr.length c2) (markN M f S (dirty && decide (y = 0)) k) tr L (.slice A N c) ⟨S, y, W, U, X, lv, fr⟩)) (fun i _ => (N - intOf i).toNat)
  case atStart => exact ⟨0, _, L0, by omega, rfl, by omega, H0⟩
  case round =>
    obtain ⟨k, vs, L, hk, rfl, hL, HK⟩ := hrel
    clear H0
    obtain ⟨A1, c1, _, _, rfl, _⟩ := HK.out.doc.form
    obtain ⟨p0, p1, p2, p3, p4, p5, p6⟩ := HK.out.pbox.seven
    obtain ⟨m0, m1, m2⟩ := HK.out.mbox.three
    by_cases hlt : k < N
    · obtain ⟨ad, rfl, d0, d1, d2⟩ := steps_at (HS.out.below HK.out.below) (k := k) (by rw [HN.out]; exact hlt)
      have hsw := Lib.hid (HW.out k hlt)
      have HF : Hid (markN M f S (dirty && decide (y = 0)) (k + 1) = orS M (markN M f S (dirty && decide (y = 0)) k) (stepAt S k).2.1 (flagN N (dirty && decide (y = 0)) k)) := Lib.hid (by rw [← HN.out]; rfl)
      have d1' : wr.cell? ⟨(ad.add (k * 3)).block, (ad.add (k * 3)).off + 1, none⟩ = some (.int .u64 (stepAt S k).2.1) := d1
      clear d0 d1 d2
      generalize (stepAt S k).2.1 = s at *
      by_cases hla : k + 1 = N
      · have hl2 : ((k : Int) == (N : Int) - 1) = true := by simp; omega
        cases dirty
        · have HQ : Hid (orS M (markN M f S (false && decide (y = 0)) k) s 32 = markN M f S (false && decide (y = 0)) (k + 1)) := Lib.hid (by rw [HF.out, show flagN N (false && decide (y = 0)) k = 32 from rfl])
          clear hla HF
          have C := fun w' hD => rset8_any (w := w') (M := M) (vs := .slice A1 L.length c1) (vt := .slice A2 tr.length c2) (f := markN M f S (false && decide (y = 0)) k) (tr := tr) (L := L) hD hM (by omega) (markN_words HWd.out k) s 32 hsw.out w64_32
          rw [HQ.out] at C
          go_wp2
          refine wp_region_still_tail 8 (by kernel_rfl) (by kernel_rfl) ?_
          simp only [List.take_succ_cons, List.take_zero, List.drop_succ_cons, List.drop_zero]
          repeat still_step
          refine wpStill_nil ?_
          change wpList _ _ _ _ _ wr.drew
          have HK2 := Lib.hid (HK.out.quiet (Kept.drew0 wr))
          clear HK p0 p1 p2 p3 p4 p5 p6 m0 m1 m2 d1' HQ
          generalize wr.drew = w2 at *
          go_wp2_with (first | (go_at_call 80; refine (C w2 HK2.out.doc).mono ?_; rintro e w3 ⟨vs', L', rfl, hD3, hL3, hB3⟩; have HK3 := Lib.hid (HK2.out.set hB3 hD3); have H3 := Lib.hid (HK2.out.quiet hB3); obtain ⟨A3, c3, _, _, rfl, _⟩ := hD3.form; clear hB3 hD3; obtain ⟨m0, m1, m2⟩ := H3.out.mbox.three; have z0 := H3.out.mbox.fz 0; have z1 := H3.out.mbox.fz 1; have z2 := H3.out.mbox.fz 2))
          go_roundw
          case rel => exact ⟨k + 1, _, L', by omega, by go_num, by omega, HK3⟩
          case measure => simp [intOf]; omega
        · by_cases hy : y = 0
          · have HQ : Hid (orS M (markN M f S (true && decide (y = 0)) k) s 96 = markN M f S (true && decide (y = 0)) (k + 1)) := Lib.hid (by rw [HF.out, show flagN N (true && decide (y = 0)) k = 96 from by unfold flagN; rw [if_pos (by simp [hla, hy])]])
            have hy2 : (y == 0) = true := by simpa using hy
            clear hla HF hy
            have C := fun w' hD => rset8_any (w := w') (M := M) (vs := .slice A1 L.length c1) (vt := .slice A2 tr.length c2) (f := markN M f S (true && decide (y = 0)) k) (tr := tr) (L := L) hD hM (by omega) (markN_words HWd.out k) s 96 hsw.out w64_96
            rw [HQ.out] at C
            go_wp2
            refine wp_region_still_tail 8 (by kernel_rfl) (by kernel_rfl) ?_
            simp only [List.take_succ_cons, List.take_zero, List.drop_succ_cons, List.drop_zero]
            repeat still_step
            refine wpStill_nil ?_
            change wpList _ _ _ _ _ wr.drew
            have HK2 := Lib.hid (HK.out.quiet (Kept.drew0 wr))
            clear HK p0 p1 p2 p3 p4 p5 p6 m0 m1 m2 d1' HQ
            generalize wr.drew = w2 at *
            go_wp2_with (first | (go_at_call 80; refine (C w2 HK2.out.doc).mono ?_; rintro e w3 ⟨vs', L', rfl, hD3, hL3, hB3⟩; have HK3 := Lib.hid (HK2.out.set hB3 hD3); have H3 := Lib.hid (HK2.out.quiet hB3); obtain ⟨A3, c3, _, _, rfl, _⟩ := hD3.form; clear hB3 hD3; obtain ⟨m0, m1, m2⟩ := H3.out.mbox.three; have z0 := H3.out.mbox.fz 0; have z1 := H3.out.mbox.fz 1; have z2 := H3.out.mbox.fz 2))
            go_roundw
            case rel => exact ⟨k + 1, _, L', by omega, by go_num, by omega, HK3⟩
            case measure => simp [intOf]; omega
          · have hy2 : (y == 0) = false := by simpa using hy
            have HQ : Hid (orS M (markN M f S (true && decide (y = 0)) k) s 32 = markN M f S (true && decide (y = 0)) (k + 1)) := Lib.hid (by rw [HF.out, show flagN N (true && decide (y = 0)) k = 32 from by unfold flagN; rw [if_neg (by simp [hy])]])
            clear hla HF hy
            have C := fun w' hD => rset8_any (w := w') (M := M) (vs := .slice A1 L.length c1) (vt := .slice A2 tr.length c2) (f := markN M f S (true && decide (y = 0)) k) (tr := tr) (L := L) hD hM (by omega) (markN_words HWd.out k) s 32 hsw.out w64_32
            rw [HQ.out] at C
            go_wp2
            refine wp_region_still_tail 8 (by kernel_rfl) (by kernel_rfl) ?_
            simp only [List.take_succ_cons, List.take_zero, List.drop_succ_cons, List.drop_zero]
            repeat still_step
            refine wpStill_nil ?_
            change wpList _ _ _ _ _ wr.drew
            have HK2 := Lib.hid (HK.out.quiet (Kept.drew0 wr))
            clear HK p0 p1 p2 p3 p4 p5 p6 m0 m1 m2 d1' HQ
            generalize wr.drew = w2 at *
            go_wp2_with (first | (go_at_call 80; refine (C w2 HK2.out.doc).mono ?_; rintro e w3 ⟨vs', L', rfl, hD3, hL3, hB3⟩; have HK3 := Lib.hid (HK2.out.set hB3 hD3); have H3 := Lib.hid (HK2.out.quiet hB3); obtain ⟨A3, c3, _, _, rfl, _⟩ := hD3.form; clear hB3 hD3; obtain ⟨m0, m1, m2⟩ := H3.out.mbox.three; have z0 := H3.out.mbox.fz 0; have z1 := H3.out.mbox.fz 1; have z2 := H3.out.mbox.fz 2))
            go_roundw
            case rel => exact ⟨k + 1, _, L', by omega, by go_num, by omega, HK3⟩
            case measure => simp [intOf]; omega
      · have hl2 : ((k : Int) == (N : Int) - 1) = false := by simp; omega
        have HQ : Hid (orS M (markN M f S (dirty && decide (y = 0)) k) s 32 = markN M f S (dirty && decide (y = 0)) (k + 1)) := Lib.hid (by rw [HF.out, show flagN N (dirty && decide (y = 0)) k = 32 from by unfold flagN; rw [if_neg (by simp [hla])]])
        clear hla HF
        have C := fun w' hD => rset8_any (w := w') (M := M) (vs := .slice A1 L.length c1) (vt := .slice A2 tr.length c2) (f := markN M f S (dirty && decide (y = 0)) k) (tr := tr) (L := L) hD hM (by omega) (markN_words HWd.out k) s 32 hsw.out w64_32
        rw [HQ.out] at C
        go_wp2
        refine wp_region_still_tail 8 (by kernel_rfl) (by kernel_rfl) ?_
        simp only [List.take_succ_cons, List.take_zero, List.drop_succ_cons, List.drop_zero]
        repeat still_step
        refine wpStill_nil ?_
        change wpList _ _ _ _ _ wr.drew
        have HK2 := Lib.hid (HK.out.quiet (Kept.drew0 wr))
        clear HK p0 p1 p2 p3 p4 p5 p6 m0 m1 m2 d1' HQ
        generalize wr.drew = w2 at *
        go_wp2_with (first | (go_at_call 80; refine (C w2 HK2.out.doc).mono ?_; rintro e w3 ⟨vs', L', rfl, hD3, hL3, hB3⟩; have HK3 := Lib.hid (HK2.out.set hB3 hD3); have H3 := Lib.hid (HK2.out.quiet hB3); obtain ⟨A3, c3, _, _, rfl, _⟩ := hD3.form; clear hB3 hD3; obtain ⟨m0, m1, m2⟩ := H3.out.mbox.three; have z0 := H3.out.mbox.fz 0; have z1 := H3.out.mbox.fz 1; have z2 := H3.out.mbox.fz 2))
        go_roundw
        case rel => exact ⟨k + 1, _, L', by omega, by go_num, by omega, HK3⟩
        case measure => simp [intOf]; omega
    · have hle : N ≤ k := by omega
      obtain rfl : k = N := by omega
      obtain ⟨q0, q1, q2⟩ := HK.out.res.three
      have r0 := HK.out.res.fz 0; have r1 := HK.out.res.fz 1; have r2 := HK.out.res.fz 2
      clear hk hlt HS
      go_wp2
      exact bodyPost_ret (results_cell_row rfl _ _ (w.heap.size + 2) _ _ _ _ rfl (HK.out.res.set3 _ _ _) Tryz.underlying45 rfl rfl) rfl ⟨_, rfl, L, HK.out.doc.box HK.out.res (by decide) (by decide) (turn3 _ _ _ _ _), hL, turn_below HK.out.below (turn3 _ _ _ _ _) (by omega) HK.out.below.size⟩
end Go.Proofs.YtopmmlcjlopmaaaGreatDoor
