/- The document's Same, where two paths' heads are the same; both Sames of any two paths. -/
import Derived.Test.YtlpjbmlkpmhdlaaDoorHw
import Derived.Test.YtlpjbmlkpmhdlaaDoorHv
import Derived.Test.YtlpjbmlkpmhdlaaDoorEr
import Derived.BigQuiet
namespace Go.Proofs.YtlpjbmlkpmhdlaaDoor
set_option linter.unusedVariables false
set_option linter.unusedSimpArgs false
open Go.ChangeShapes Go.WideShapes Go.ChangeAt Go.RowKit Go.Joins

/-- two of the document's paths in the variables of a call -/
structure RTwo (w wr : World) (pb : Nat) (v : Value) (P : Pth) (qb : Nat) (v' : Value) (Q : Pth) : Prop where
  boxP : Blk wr pb (pathCells v P) 45
  boxQ : Blk wr qb (pathCells v' Q) 45
  stepsP : StepsIn wr v P.steps
  stepsQ : StepsIn wr v' Q.steps
  below : Below w.heap.size w wr

section
variable {w wr w3 : World} {pb qb : Nat} {v v' : Value} {P Q : Pth}
theorem RTwo.quiet (h : RTwo w wr pb v P qb v' Q) (hb : Below wr.heap.size wr w3) : RTwo w w3 pb v P qb v' Q :=
  ⟨h.boxP.below hb, h.boxQ.below hb, h.stepsP.below hb, h.stepsQ.below hb, h.below.trans (hb.mono h.below.size)⟩
theorem RTwo.start (h1 : StepsIn w v P.steps) (h2 : StepsIn w v' Q.steps) : RTwo w ((w.alloc (.cells (pathCells v P) 45)).alloc (.cells (pathCells v' Q) 45)) w.heap.size v P (w.heap.size + 1) v' Q :=
  ⟨(Blk.new w _ _).alloc _, last_obj2 w _ _, h1.below (below2 w _ _), h2.below (below2 w _ _), below2 w _ _⟩
end

set_option maxRecDepth 100000 in
set_option maxHeartbeats 3200000 in
theorem rsame_yes (w : World) (A A' : Option Addr) (L c c' : Nat) (S T : List (Int × Int × Int)) (y : Int) (W U X : Bool) (lv fr : Int) (hL : S.length = L) (hT : T.length = L) (hS1 : StepsIn w (.slice A L c) S) (hS2 : StepsIn w (.slice A' L c') T) (hl : L ≤ maxLen) (hw1 : ∀ k, k < L → W64 (stepAt S k).2.2) (hw2 : ∀ k, k < L → W64 (stepAt T k).2.2) :
    Calls Tryd.prog 22 #[pathV (.slice A L c) y W U X lv fr, pathV (.slice A' L c') y W U X lv fr] w fun e w' => e = .returned (.bool (sameN S T L)) ∧ Below w.heap.size w w' := by
  have H0 := Lib.hid (RTwo.start (P := ⟨S, y, W, U, X, lv, fr⟩) (Q := ⟨T, y, W, U, X, lv, fr⟩) hS1 hS2)
  have HL := Lib.hid hL
  have HT := Lib.hid hT
  have HW1 := Lib.hid hw1
  have HW2 := Lib.hid hw2
  clear hS1 hS2 hL hT hw1 hw2
  go_enter Tryd.func22, Tryd.ntmps22
  go_wp2
  go_loopw [5] (fun i wr => ∃ k : Nat, k ≤ L ∧ i = .int .i64 k ∧ RTwo w wr w.heap.size (.slice A L c) ⟨S, y, W, U, X, lv, fr⟩ (w.heap.size + 1) (.slice A' L c') ⟨T, y, W, U, X, lv, fr⟩ ∧ sameN S T k = true) (fun i _ => (L - intOf i).toNat)
  case atStart => exact ⟨0, by omega, rfl, H0.out, rfl⟩
  case round =>
    obtain ⟨k, hk, rfl, hB, hY⟩ := hrel
    clear H0
    have HB := Lib.hid hB
    have HY := Lib.hid hY
    clear hB hY
    obtain ⟨p0, p1, p2, p3, p4, p5, p6⟩ := HB.out.boxP.seven
    by_cases hlt : k < L
    · obtain ⟨ad, rfl, d0, d1, d2⟩ := steps_at HB.out.stepsP (k := k) (by show k < S.length; rw [HL.out]; exact hlt)
      obtain ⟨ad', rfl, g0, g1, g2⟩ := steps_at HB.out.stepsQ (k := k) (by show k < T.length; rw [HT.out]; exact hlt)
      obtain ⟨q0, q1, q2, q3, q4, q5, q6⟩ := HB.out.boxQ.seven
      have HN : Hid (sameN S T (k + 1) = (sameN S T k && ((stepAt S k).1 == (stepAt T k).1 && ((stepAt S k).2.1 == (stepAt T k).2.1 && bareF (stepAt S k).2.2 == bareF (stepAt T k).2.2)))) := Lib.hid rfl
      have HNo : Hid (sameN S T (k + 1) = false → sameN S T L = false) := Lib.hid (same_false (by omega))
      have HX := Lib.hid (HW1.out k hlt)
      have HX' := Lib.hid (HW2.out k hlt)
      change wr.cell? _ = some (.int .i64 (stepAt S k).1) at d0
      change wr.cell? _ = some (.int .u64 (stepAt S k).2.1) at d1
      change wr.cell? _ = some (.int .u64 (stepAt S k).2.2) at d2
      change wr.cell? _ = some (.int .i64 (stepAt T k).1) at g0
      change wr.cell? _ = some (.int .u64 (stepAt T k).2.1) at g1
      change wr.cell? _ = some (.int .u64 (stepAt T k).2.2) at g2
      generalize (stepAt S k).1 = l at *
      generalize (stepAt S k).2.1 = s at *
      generalize (stepAt S k).2.2 = x at *
      generalize (stepAt T k).1 = l' at *
      generalize (stepAt T k).2.1 = s' at *
      generalize (stepAt T k).2.2 = x' at *
      have G0 : ∀ o, (wr.alloc o).cell? (ad'.add (k * 3)) = some (.int .i64 l') := fun o => (World.cell?_of_block (Deep.blk_alloc_lt _ _ _ (World.block_lt_of_cell? _ _ g0))).trans g0
      have G1 : ∀ o, (wr.alloc o).cell? ⟨(ad'.add (k * 3)).block, (ad'.add (k * 3)).off + 1, none⟩ = some (.int .u64 s') := fun o => (World.cell?_of_block (a := ⟨(ad'.add (k * 3)).block, (ad'.add (k * 3)).off + 1, none⟩) (Deep.blk_alloc_lt _ _ _ (World.block_lt_of_cell? _ _ g1))).trans g1
      have G2 : ∀ o, (wr.alloc o).cell? ⟨(ad'.add (k * 3)).block, (ad'.add (k * 3)).off + 2, none⟩ = some (.int .u64 x') := fun o => (World.cell?_of_block (a := ⟨(ad'.add (k * 3)).block, (ad'.add (k * 3)).off + 2, none⟩) (Deep.blk_alloc_lt _ _ _ (World.block_lt_of_cell? _ _ g2))).trans g2
      have hbl := HB.out.boxQ.lt
      have e9 : IntKind.i64.wrap ((k : Int) + 1) = (k : Int) + 1 := i64_wrap (by omega) (by unfold maxLen at hl; omega)
      go_upto_region 8 with fail
      obtain ⟨w1, hw1⟩ : ∃ w1, (wr.alloc (.cells #[.int .i64 l, .int .u64 s, .int .u64 x] 96)).alloc (.cells #[.int .i64 l', .int .u64 s', .int .u64 x'] 96) = w1 := ⟨_, rfl⟩
      have HB1 : Hid (RTwo w w1 w.heap.size (.slice (some ad) L c) ⟨S, y, W, U, X, lv, fr⟩ (w.heap.size + 1) (.slice (some ad') L c') ⟨T, y, W, U, X, lv, fr⟩) := Lib.hid (by rw [← hw1]; exact HB.out.quiet (below2 _ _ _))
      have hs1 : Blk w1 wr.heap.size #[.int .i64 l, .int .u64 s, .int .u64 x] 96 := by rw [← hw1]; exact (Blk.new wr _ _).alloc _
      have hs2 : Blk w1 (wr.heap.size + 1) #[.int .i64 l', .int .u64 s', .int .u64 x'] 96 := by rw [← hw1]; exact last_obj2 wr _ _
      obtain ⟨s0, s1, s2⟩ := hs1.three8
      obtain ⟨t0, t1, t2⟩ := hs2.three8
      rw [hw1]
      clear hw1 hs1 hs2 G0 G1 G2 d0 d1 d2 g0 g1 g2 HB p0 p1 p2 p3 p4 p5 p6 q0 q1 q2 q3 q4 q5 q6 hbl
      generalize wr.heap.size = sb at *
      obtain ⟨z, hz⟩ : ∃ z, bareF x = z := ⟨_, rfl⟩
      obtain ⟨z', hz'⟩ : ∃ z', bareF x' = z' := ⟨_, rfl⟩
      have CX := fun k => bare_any x (w1.drewN k) HX.out
      have CX' := fun k => bare_any x' (w1.drewN k) HX'.out
      rw [hz] at CX HN
      rw [hz'] at CX' HN
      clear hz hz' HX HX'
      by_cases hl1 : l = l'
      · subst hl1
        have b1 : (l != l) = false := by simp
        by_cases hl2 : s = s'
        · subst hl2
          have b2 : (s != s) = false := by simp
          by_cases hl3 : z = z'
          · subst hl3
            have b3 : (z != z) = false := by simp
            have HN : Hid (sameN S T (k + 1) = true) := Lib.hid (by rw [HN.out, HY.out]; simp)
            clear HY HNo
            go_wp2
            go_quiet (first | (go_at_call 56; exact quietOf (CX _)) | (go_at_call 56; exact quietOf (CX' _)))
            have HB2 := Lib.hid (HB1.out.quiet (drewN_below w1 nq))
            clear HB1 s0 s1 s2 t0 t1 t2 CX CX'
            go_wp2
            go_roundw
            case rel => exact ⟨k + 1, by omega, by go_num, HB2.out, HN.out⟩
            case measure => simp [intOf]; omega
          · have b3 : (z != z') = true := by simpa using hl3
            have HN : Hid (sameN S T L = false) := Lib.hid (HNo.out (by rw [HN.out, show (z == z') = false by simpa using hl3]; simp))
            clear HY HNo hl3
            go_wp2
            go_quiet (first | (go_at_call 56; exact quietOf (CX _)) | (go_at_call 56; exact quietOf (CX' _)))
            have HB2 := Lib.hid (HB1.out.quiet (drewN_below w1 nq))
            clear HB1 s0 s1 s2 t0 t1 t2 CX CX'
            have HE := Lib.hid HB2.out.below
            clear HB2
            go_wp2
            go_ret
            exact ⟨by rw [HN.out]; rfl, HE.out⟩
        · have b2 : (s != s') = true := by simpa using hl2
          have HN : Hid (sameN S T L = false) := Lib.hid (HNo.out (by rw [HN.out, show (s == s') = false by simpa using hl2]; simp))
          clear HY HNo hl2
          go_wp2
          go_quiet (first | (go_at_call 56; exact quietOf (CX _)) | (go_at_call 56; exact quietOf (CX' _)))
          have HB2 := Lib.hid (HB1.out.quiet (drewN_below w1 nq))
          clear HB1 s0 s1 s2 t0 t1 t2 CX CX'
          have HE := Lib.hid HB2.out.below
          clear HB2
          go_wp2
          go_ret
          exact ⟨by rw [HN.out]; rfl, HE.out⟩
      · have b1 : (l != l') = true := by simpa using hl1
        have HN : Hid (sameN S T L = false) := Lib.hid (HNo.out (by rw [HN.out, show (l == l') = false by simpa using hl1]; simp))
        clear HY HNo hl1
        go_wp2
        go_quiet (first | (go_at_call 56; exact quietOf (CX _)) | (go_at_call 56; exact quietOf (CX' _)))
        have HB2 := Lib.hid (HB1.out.quiet (drewN_below w1 nq))
        clear HB1 s0 s1 s2 t0 t1 t2 CX CX'
        have HE := Lib.hid HB2.out.below
        clear HB2
        go_wp2
        go_ret
        exact ⟨by rw [HN.out]; rfl, HE.out⟩
    · have hle : L ≤ k := by omega
      obtain rfl : k = L := by omega
      go_wp2
      go_ret
      exact ⟨by rw [HY.out]; rfl, HB.out.below⟩

/-- are two paths the same, but for A and D? -/
abbrev headP (P Q : Pth) : Prop := P.why = Q.why ∧ P.W = Q.W ∧ P.U = Q.U ∧ P.X = Q.X ∧ P.lev = Q.lev ∧ P.fr = Q.fr ∧ P.steps.length = Q.steps.length
def alikeP (P Q : Pth) : Bool := if headP P Q then sameN P.steps Q.steps P.steps.length else false

theorem alikeP_self (P : Pth) : alikeP P P = true := by
  unfold alikeP
  rw [if_pos (by unfold headP; simp)]
  exact same_of _ (fun _ _ => ⟨rfl, rfl, rfl⟩)

theorem same_all (w : World) (P Q : Pth) (A A' : Option Addr) (L L' c c' : Nat) (hL : P.steps.length = L) (hL' : Q.steps.length = L') (h1 : StepsIn w (.slice A L c) P.steps) (h2 : StepsIn w (.slice A' L' c') Q.steps) (hl : L ≤ maxLen) :
    Calls Tryd.prog 21 #[pathV (.slice A L c) P.why P.W P.U P.X P.lev P.fr, pathV (.slice A' L' c') Q.why Q.W Q.U Q.X Q.lev Q.fr] w fun e w' => e = .returned (.bool (alikeP P Q)) ∧ Below w.heap.size w w' := by
  unfold alikeP
  by_cases h : headP P Q
  · rw [if_pos h]
    obtain ⟨e1, e2, e3, e4, e5, e6, e7⟩ := h
    obtain rfl : L = L' := by rw [← hL, ← hL', e7]
    rw [← e1, ← e2, ← e3, ← e4, ← e5, ← e6, hL]
    exact same_yes w A A' L c c' P.steps Q.steps P.why P.W P.U P.X P.lev P.fr hL hL' h1 h2 hl
  · rw [if_neg h]
    refine same_no w A A' L L' c c' _ _ _ _ _ _ _ _ _ _ _ _ (fun hh => h ?_)
    obtain ⟨e1, e2, e3, e4, e5, e6, e7⟩ := hh
    exact ⟨e1, e2, e3, e4, e5, e6, by rw [hL, hL', e7]⟩

theorem rsame_all (w : World) (P Q : Pth) (A A' : Option Addr) (L L' c c' : Nat) (hL : P.steps.length = L) (hL' : Q.steps.length = L') (h1 : StepsIn w (.slice A L c) P.steps) (h2 : StepsIn w (.slice A' L' c') Q.steps) (hl : L ≤ maxLen) (hw1 : ∀ k, k < P.steps.length → W64 (stepAt P.steps k).2.2) (hw2 : ∀ k, k < Q.steps.length → W64 (stepAt Q.steps k).2.2) :
    Calls Tryd.prog 22 #[pathV (.slice A L c) P.why P.W P.U P.X P.lev P.fr, pathV (.slice A' L' c') Q.why Q.W Q.U Q.X Q.lev Q.fr] w fun e w' => e = .returned (.bool (alikeP P Q)) ∧ Below w.heap.size w w' := by
  unfold alikeP
  by_cases h : headP P Q
  · rw [if_pos h]
    obtain ⟨e1, e2, e3, e4, e5, e6, e7⟩ := h
    obtain rfl : L = L' := by rw [← hL, ← hL', e7]
    rw [← e1, ← e2, ← e3, ← e4, ← e5, ← e6, hL]
    exact rsame_yes w A A' L c c' P.steps Q.steps P.why P.W P.U P.X P.lev P.fr hL hL' h1 h2 hl (by rw [← hL]; exact hw1) (by rw [← hL']; exact hw2)
  · rw [if_neg h]
    refine rsame_no w A A' L L' c c' _ _ _ _ _ _ _ _ _ _ _ _ (fun hh => h ?_)
    obtain ⟨e1, e2, e3, e4, e5, e6, e7⟩ := hh
    exact ⟨e1, e2, e3, e4, e5, e6, by rw [hL, hL', e7]⟩

set_option maxRecDepth 100000 in
/-- where the document's walk begins -/
theorem rtop_any (r : Int) (w : World) (hr : W64 r) :
    Calls Tryd.prog 20 #[.int .u64 r] w fun e w' => e = .returned (placeV 4 (tableF r) true true true) ∧ Below w.heap.size w w' := by
  go_enter Tryd.func20, Tryd.ntmps20
  go_wp2_with (first | (go_at_call 50; refine (rtable_any _ _ hr).mono ?_; rintro e w' ⟨rfl, rfl⟩))
  exact bodyPost_ret (results_cell_row rfl _ _ w.heap.size _ _ _ _ rfl (last_obj w _) Tryd.underlying49 rfl rfl) rfl ⟨rfl, below_alloc1 w _⟩
end Go.Proofs.YtlpjbmlkpmhdlaaDoor
