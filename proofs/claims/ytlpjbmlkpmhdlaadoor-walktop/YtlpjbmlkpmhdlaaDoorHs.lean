/- Contracts of package walk: unused, Same. (Laid by tools/gen_hs.py.) -/
import Derived.Test.YtlpjbmlkpmhdlaaDoorL8s
import Derived.Test.YtlpjbmlkpmhdlaaDoorHq
namespace Go.Proofs.YtlpjbmlkpmhdlaaDoor
set_option linter.unusedVariables false
set_option linter.unusedSimpArgs false
open Go.ChangeShapes Go.WideShapes Go.ChangeAt Go.RowKit Go.Joins

/-- a word without A and D -/
def bareF (x : Int) : Int := bits .andNot .u64 x 96

theorem Blk.three8 {w : World} {b : Nat} {t : TypeId} {x0 x1 x2 : Value} (h : Blk w b #[x0, x1, x2] t) : w.cell? ⟨b, 0, none⟩ = some x0 ∧ w.cell? ⟨b, 1, none⟩ = some x1 ∧ w.cell? ⟨b, 2, none⟩ = some x2 := by
  unfold Blk at h; simp [World.cell?, h]

set_option maxRecDepth 100000 in
theorem unused_any (l s x : Int) (w : World) :
    Calls Tryd.prog 55 #[.agg #[.int .i64 l, .int .u64 s, .int .u64 x]] w fun e w' => e = .returned (.agg #[.int .i64 l, .int .u64 s, .int .u64 (bareF x)]) ∧ Below w.heap.size w w' := by
  unfold bareF
  go_enter Tryd.func55, Tryd.ntmps55
  go_wp2
  exact bodyPost_ret (results_cell_row rfl _ _ (w.heap.size + 1) _ _ _ _ rfl (last_obj2 w _ _) Tryd.underlying77 rfl rfl) rfl ⟨rfl, below2 w _ _⟩

/-- are the first k steps the same, but for A and D? -/
def sameN (S T : List (Int × Int × Int)) : Nat → Bool
  | 0 => true
  | k + 1 => sameN S T k && ((stepAt S k).1 == (stepAt T k).1 && ((stepAt S k).2.1 == (stepAt T k).2.1 && bareF (stepAt S k).2.2 == bareF (stepAt T k).2.2))

theorem same_false {S T : List (Int × Int × Int)} {k : Nat} : ∀ {L : Nat}, k + 1 ≤ L → sameN S T (k + 1) = false → sameN S T L = false
  | L + 1, hk, h => by
    by_cases e : k = L
    · subst e; exact h
    · unfold sameN; rw [same_false (L := L) (by omega) h]; rfl

/-- two paths in the variables of a call -/
structure Two (w wr : World) (pb : Nat) (v : Value) (P : Pth) (qb : Nat) (v' : Value) (Q : Pth) : Prop where
  boxP : Blk wr pb (pathCells v P) 38
  boxQ : Blk wr qb (pathCells v' Q) 38
  stepsP : StepsIn wr v P.steps
  stepsQ : StepsIn wr v' Q.steps
  below : Below w.heap.size w wr

section
variable {w wr w3 : World} {pb qb : Nat} {v v' : Value} {P Q : Pth}
theorem Two.quiet (h : Two w wr pb v P qb v' Q) (hb : Below wr.heap.size wr w3) : Two w w3 pb v P qb v' Q :=
  ⟨h.boxP.below hb, h.boxQ.below hb, h.stepsP.below hb, h.stepsQ.below hb, h.below.trans (hb.mono h.below.size)⟩
theorem Two.start (h1 : StepsIn w v P.steps) (h2 : StepsIn w v' Q.steps) : Two w ((w.alloc (.cells (pathCells v P) 38)).alloc (.cells (pathCells v' Q) 38)) w.heap.size v P (w.heap.size + 1) v' Q :=
  ⟨(Blk.new w _ _).alloc _, last_obj2 w _ _, h1.below (below2 w _ _), h2.below (below2 w _ _), below2 w _ _⟩
theorem steps_at {A : Option Addr} {L c : Nat} {S : List (Int × Int × Int)} (h : StepsIn wr (.slice A L c) S) {k : Nat} (hk : k < S.length) : ∃ ad, A = some ad ∧ wr.cell? (ad.add (k * 3)) = some (.int .i64 (stepAt S k).1) ∧ wr.cell? ⟨(ad.add (k * 3)).block, (ad.add (k * 3)).off + 1, none⟩ = some (.int .u64 (stepAt S k).2.1) ∧ wr.cell? ⟨(ad.add (k * 3)).block, (ad.add (k * 3)).off + 2, none⟩ = some (.int .u64 (stepAt S k).2.2) := by
  obtain ⟨A', c', hv, hc⟩ := h
  obtain ⟨ad, hA, d0, d1, d2⟩ := hc k hk
  simp at hv
  exact ⟨ad, hv.1.trans hA, d0, d1, d2⟩
end

/-- what the region of Same keeps -/
def RegSm (w1 : World) (sb : Nat) (l s x : Int) (qb : Nat) (v' : Value) (Q : Pth) (ad : Addr) (l' s' x' : Int) (w' : World) : Prop :=
  Blk w' sb #[.int .i64 l, .int .u64 s, .int .u64 x] 77 ∧ Blk w' qb (pathCells v' Q) 38 ∧ (w'.cell? ad = some (.int .i64 l') ∧ w'.cell? ⟨ad.block, ad.off + 1, none⟩ = some (.int .u64 s') ∧ w'.cell? ⟨ad.block, ad.off + 2, none⟩ = some (.int .u64 x')) ∧ Kept w1 w'
theorem regsm_step {w1 : World} {sb : Nat} {l s x : Int} {qb : Nat} {v' : Value} {Q : Pth} {ad : Addr} {l' s' x' : Int} {w2 w3 : World} (h : RegSm w1 sb l s x qb v' Q ad l' s' x' w2) (hb : Below w2.heap.size w2 w3) : RegSm w1 sb l s x qb v' Q ad l' s' x' w3 := by
  obtain ⟨a, b, ⟨c0, c1, c2⟩, k⟩ := h
  exact ⟨a.below hb, b.below hb, ⟨(hb.cell (World.block_lt_of_cell? _ _ c0)).trans c0, (hb.cell (World.block_lt_of_cell? _ _ c1)).trans c1, (hb.cell (World.block_lt_of_cell? _ _ c2)).trans c2⟩, Kept.step hb k⟩

set_option maxRecDepth 100000 in
set_option maxHeartbeats 3200000 in
theorem same_yes (w : World) (A A' : Option Addr) (L c c' : Nat) (S T : List (Int × Int × Int)) (y : Int) (W U X : Bool) (lv fr : Int) (hL : S.length = L) (hT : T.length = L) (hS1 : StepsIn w (.slice A L c) S) (hS2 : StepsIn w (.slice A' L c') T) (hl : L ≤ maxLen) :
    Calls Tryd.prog 21 #[pathV (.slice A L c) y W U X lv fr, pathV (.slice A' L c') y W U X lv fr] w fun e w' => e = .returned (.bool (sameN S T L)) ∧ Below w.heap.size w w' := by
  have H0 := Lib.hid (Two.start (P := ⟨S, y, W, U, X, lv, fr⟩) (Q := ⟨T, y, W, U, X, lv, fr⟩) hS1 hS2)
  have HL := Lib.hid hL
  have HT := Lib.hid hT
  clear hS1 hS2 hL hT
  go_enter Tryd.func21, Tryd.ntmps21
  go_wp2
  go_loopw [45] (fun i wr => ∃ k : Nat, k ≤ L ∧ i = .int .i64 k ∧ Two w wr w.heap.size (.slice A L c) ⟨S, y, W, U, X, lv, fr⟩ (w.heap.size + 1) (.slice A' L c') ⟨T, y, W, U, X, lv, fr⟩ ∧ sameN S T k = true) (fun i _ => (L - intOf i).toNat)
  case atStart => exact ⟨0, by omega, rfl, H0.out, rfl⟩
  case round =>
    obtain ⟨k, hk, rfl, hB, hY⟩ := hrel
    clear H0
    have HB := Lib.hid hB
    have HY := Lib.hid hY
    clear hB hY
    by_cases hlt : k < L
    · obtain ⟨ad, rfl, d0, d1, d2⟩ := steps_at HB.out.stepsP (k := k) (by show k < S.length; rw [HL.out]; exact hlt)
      obtain ⟨ad', rfl, g0, g1, g2⟩ := steps_at HB.out.stepsQ (k := k) (by show k < T.length; rw [HT.out]; exact hlt)
      have HN : Hid (sameN S T (k + 1) = (sameN S T k && ((stepAt S k).1 == (stepAt T k).1 && ((stepAt S k).2.1 == (stepAt T k).2.1 && bareF (stepAt S k).2.2 == bareF (stepAt T k).2.2)))) := Lib.hid rfl
      change wr.cell? _ = some (.int .i64 (stepAt S k).1) at d0
      change wr.cell? _ = some (.int .u64 (stepAt S k).2.1) at d1
      change wr.cell? _ = some (.int .u64 (stepAt S k).2.2) at d2
      change wr.cell? _ = some (.int .i64 (stepAt T k).1) at g0
      change wr.cell? _ = some (.int .u64 (stepAt T k).2.1) at g1
      change wr.cell? _ = some (.int .u64 (stepAt T k).2.2) at g2
      generalize (stepAt S k).1 = l at *
      generalize (stepAt S k).2.1 = s at *
      generalize (stepAt S k).2.2 = x at *
      generalize (stepAt T k).1 = l' at *
      generalize (stepAt T k).2.1 = s' at *
      generalize (stepAt T k).2.2 = x' at *
      go_upto_region 6 with fail
      obtain ⟨w1, hw1⟩ : ∃ w1, wr.alloc (.cells #[.int .i64 l, .int .u64 s, .int .u64 x] 77) = w1 := ⟨_, rfl⟩
      have HB1 : Hid (Two w w1 w.heap.size (.slice (some ad) L c) ⟨S, y, W, U, X, lv, fr⟩ (w.heap.size + 1) (.slice (some ad') L c') ⟨T, y, W, U, X, lv, fr⟩) := Lib.hid (by rw [← hw1]; exact HB.out.quiet (below_alloc1 _ _))
      have HR1 : Hid (RegSm w1 wr.heap.size l s x (w.heap.size + 1) (.slice (some ad') L c') ⟨T, y, W, U, X, lv, fr⟩ (ad'.add (k * 3)) l' s' x' w1) := Lib.hid (by
        rw [← hw1]
        have hb := below_alloc1 wr (.cells #[.int .i64 l, .int .u64 s, .int .u64 x] 77)
        exact ⟨Blk.new _ _ _, HB.out.boxQ.below hb, ⟨(hb.cell (World.block_lt_of_cell? _ _ g0)).trans g0, (hb.cell (World.block_lt_of_cell? _ _ g1)).trans g1, (hb.cell (World.block_lt_of_cell? _ _ g2)).trans g2⟩, Below.refl _ _⟩)
      rw [hw1]
      generalize wr.heap.size = sb at *
      clear hw1 d0 d1 d2 g0 g1 g2 HB
      refine wp_region_held_drew (S := RegSm w1 sb l s x (w.heap.size + 1) (.slice (some ad') L c') ⟨T, y, W, U, X, lv, fr⟩ (ad'.add (k * 3)) l' s' x') (by kernel_rfl) (regsm_step HR1.out (Kept.drew0 w1)) (fun hHeld => ?_)
      clear HR1
      generalize hwd : w1.drew = wd at *
      clear hwd
      have e9 : IntKind.i64.wrap ((k : Int) + 1) = (k : Int) + 1 := i64_wrap (by omega) (by unfold maxLen at hl; omega)
      have HNo : Hid (sameN S T (k + 1) = false → sameN S T L = false) := Lib.hid (same_false (by omega))
      by_cases hl1 : l = l'
      · by_cases hl2 : s = s'
        · obtain ⟨z, hz⟩ : ∃ z, bareF x = z := ⟨_, rfl⟩
          obtain ⟨z', hz'⟩ : ∃ z', bareF x' = z' := ⟨_, rfl⟩
          have CX := fun w0 => unused_any l s x w0
          have CX' := fun w0 => unused_any l s x' w0
          rw [hz] at CX HN
          rw [hz'] at CX' HN
          subst hl1
          subst hl2
          clear hz hz'
          by_cases hl3 : z = z'
          · subst hl3
            have HN : Hid (sameN S T (k + 1) = true) := Lib.hid (by rw [HN.out, HY.out]; simp)
            clear HY HNo
            refine anyH_take (i := 0) (v := ?_) rfl (by kernel_rfl) (by kernel_rfl) (by kernel_rfl) (fun _ _ _ h => h) (by rfl) (by assumption) ?_ ?_
            rotate_left
            · intro w hSw
              obtain ⟨hA, hB, ⟨g0, g1, g2⟩, hk9⟩ := hSw
              obtain ⟨q0, q1, q2⟩ := hA.three8
              obtain ⟨p0, p1, p2, p3, p4, p5, p6⟩ := hB.seven
              go_simp
              (try with_reducible rfl)
            (try simp only [Act.put, List.setIfInBounds_toArray, List.set_cons_zero, List.set_cons_succ])
            refine anyH_take (i := 2) (v := ?_) rfl (by kernel_rfl) (by kernel_rfl) (by kernel_rfl) (fun _ _ _ h => h) (by rfl) (by assumption) ?_ ?_
            rotate_left
            · intro w hSw
              go_simp
              (try with_reducible rfl)
            (try simp only [Act.put, List.setIfInBounds_toArray, List.set_cons_zero, List.set_cons_succ])
            refine anyH_take (i := 3) (v := ?_) rfl (by kernel_rfl) (by kernel_rfl) (by kernel_rfl) (fun _ _ _ h => h) (by rfl) (by assumption) ?_ ?_
            rotate_left
            · intro w hSw
              obtain ⟨hA, hB, ⟨g0, g1, g2⟩, hk9⟩ := hSw
              obtain ⟨q0, q1, q2⟩ := hA.three8
              obtain ⟨p0, p1, p2, p3, p4, p5, p6⟩ := hB.seven
              go_simp
              (try with_reducible rfl)
            (try simp only [Act.put, List.setIfInBounds_toArray, List.set_cons_zero, List.set_cons_succ])
            refine anyH_take (i := 4) (v := ?_) rfl (by kernel_rfl) (by kernel_rfl) (by kernel_rfl) (fun _ _ _ h => h) (by rfl) (by assumption) ?_ ?_
            rotate_left
            · intro w hSw
              go_simp
              (try with_reducible rfl)
            (try simp only [Act.put, List.setIfInBounds_toArray, List.set_cons_zero, List.set_cons_succ])
            refine anyH_take (i := 5) (v := ?_) rfl (by kernel_rfl) (by kernel_rfl) (by kernel_rfl) (fun _ _ _ h => h) (by rfl) (by assumption) ?_ ?_
            rotate_left
            · intro w hSw
              go_simp
              (try with_reducible rfl)
            (try simp only [Act.put, List.setIfInBounds_toArray, List.set_cons_zero, List.set_cons_succ])
            refine anyH_take (i := 6) (v := ?_) rfl (by kernel_rfl) (by kernel_rfl) (by kernel_rfl) (fun _ _ _ h => h) (by rfl) (by assumption) ?_ ?_
            rotate_left
            · intro w hSw
              obtain ⟨hA, hB, ⟨g0, g1, g2⟩, hk9⟩ := hSw
              obtain ⟨q0, q1, q2⟩ := hA.three8
              obtain ⟨p0, p1, p2, p3, p4, p5, p6⟩ := hB.seven
              go_simp
              (try with_reducible rfl)
            (try simp only [Act.put, List.setIfInBounds_toArray, List.set_cons_zero, List.set_cons_succ])
            refine wpAnyH_ready (rs := [1]) (by kernel_rfl) (by simp) ?_
            refine anyH_one rfl (fun K hK => ?_) ?_
            · go_simp
              refine (CX _).mono ?_
              rintro e w5 ⟨rfl, hb5⟩
              refine hK.out _ _ (regsm_step hHeld hb5) (fun hHeld => ?_)
              clear hK K
              (try simp only [Act.put, List.setIfInBounds_toArray, List.set_cons_zero, List.set_cons_succ])
              refine wpAnyH_ready (rs := [7]) (by kernel_rfl) (by simp) ?_
              refine anyH_one rfl (fun K hK => ?_) ?_
              · go_simp
                refine (CX' _).mono ?_
                rintro e w6 ⟨rfl, hb6⟩
                refine hK.out _ _ (regsm_step hHeld hb6) (fun hHeld => ?_)
                clear hK K
                (try simp only [Act.put, List.setIfInBounds_toArray, List.set_cons_zero, List.set_cons_succ])
                refine anyH_take (i := 8) (v := ?_) rfl (by kernel_rfl) (by kernel_rfl) (by kernel_rfl) (fun _ _ _ h => h) (by rfl) (by assumption) ?_ ?_
                rotate_left
                · intro w hSw
                  go_simp
                  (try with_reducible rfl)
                (try simp only [Act.put, List.setIfInBounds_toArray, List.set_cons_zero, List.set_cons_succ])
                refine wpAnyH_done (by kernel_rfl) ?_ _
                have HB2 := Lib.hid (HB1.out.quiet hHeld.2.2.2)
                clear hHeld hb5 hb6 HB1
                go_wp2
                go_roundw
                case rel => exact ⟨k + 1, by omega, by go_num, HB2.out, HN.out⟩
                case measure => simp [intOf]; omega
              exact AllReadyH.nil
            exact AllReadyH.nil
          · have hl4 : (z == z') = false := by simpa using hl3
            have HN : Hid (sameN S T L = false) := Lib.hid (HNo.out (by rw [HN.out, hl4]; simp))
            clear HY HNo hl3
            refine anyH_take (i := 0) (v := ?_) rfl (by kernel_rfl) (by kernel_rfl) (by kernel_rfl) (fun _ _ _ h => h) (by rfl) (by assumption) ?_ ?_
            rotate_left
            · intro w hSw
              obtain ⟨hA, hB, ⟨g0, g1, g2⟩, hk9⟩ := hSw
              obtain ⟨q0, q1, q2⟩ := hA.three8
              obtain ⟨p0, p1, p2, p3, p4, p5, p6⟩ := hB.seven
              go_simp
              (try with_reducible rfl)
            (try simp only [Act.put, List.setIfInBounds_toArray, List.set_cons_zero, List.set_cons_succ])
            refine anyH_take (i := 2) (v := ?_) rfl (by kernel_rfl) (by kernel_rfl) (by kernel_rfl) (fun _ _ _ h => h) (by rfl) (by assumption) ?_ ?_
            rotate_left
            · intro w hSw
              go_simp
              (try with_reducible rfl)
            (try simp only [Act.put, List.setIfInBounds_toArray, List.set_cons_zero, List.set_cons_succ])
            refine anyH_take (i := 3) (v := ?_) rfl (by kernel_rfl) (by kernel_rfl) (by kernel_rfl) (fun _ _ _ h => h) (by rfl) (by assumption) ?_ ?_
            rotate_left
            · intro w hSw
              obtain ⟨hA, hB, ⟨g0, g1, g2⟩, hk9⟩ := hSw
              obtain ⟨q0, q1, q2⟩ := hA.three8
              obtain ⟨p0, p1, p2, p3, p4, p5, p6⟩ := hB.seven
              go_simp
              (try with_reducible rfl)
            (try simp only [Act.put, List.setIfInBounds_toArray, List.set_cons_zero, List.set_cons_succ])
            refine anyH_take (i := 4) (v := ?_) rfl (by kernel_rfl) (by kernel_rfl) (by kernel_rfl) (fun _ _ _ h => h) (by rfl) (by assumption) ?_ ?_
            rotate_left
            · intro w hSw
              go_simp
              (try with_reducible rfl)
            (try simp only [Act.put, List.setIfInBounds_toArray, List.set_cons_zero, List.set_cons_succ])
            refine anyH_take (i := 5) (v := ?_) rfl (by kernel_rfl) (by kernel_rfl) (by kernel_rfl) (fun _ _ _ h => h) (by rfl) (by assumption) ?_ ?_
            rotate_left
            · intro w hSw
              go_simp
              (try with_reducible rfl)
            (try simp only [Act.put, List.setIfInBounds_toArray, List.set_cons_zero, List.set_cons_succ])
            refine anyH_take (i := 6) (v := ?_) rfl (by kernel_rfl) (by kernel_rfl) (by kernel_rfl) (fun _ _ _ h => h) (by rfl) (by assumption) ?_ ?_
            rotate_left
            · intro w hSw
              obtain ⟨hA, hB, ⟨g0, g1, g2⟩, hk9⟩ := hSw
              obtain ⟨q0, q1, q2⟩ := hA.three8
              obtain ⟨p0, p1, p2, p3, p4, p5, p6⟩ := hB.seven
              go_simp
              (try with_reducible rfl)
            (try simp only [Act.put, List.setIfInBounds_toArray, List.set_cons_zero, List.set_cons_succ])
            refine wpAnyH_ready (rs := [1]) (by kernel_rfl) (by simp) ?_
            refine anyH_one rfl (fun K hK => ?_) ?_
            · go_simp
              refine (CX _).mono ?_
              rintro e w5 ⟨rfl, hb5⟩
              refine hK.out _ _ (regsm_step hHeld hb5) (fun hHeld => ?_)
              clear hK K
              (try simp only [Act.put, List.setIfInBounds_toArray, List.set_cons_zero, List.set_cons_succ])
              refine wpAnyH_ready (rs := [7]) (by kernel_rfl) (by simp) ?_
              refine anyH_one rfl (fun K hK => ?_) ?_
              · go_simp
                refine (CX' _).mono ?_
                rintro e w6 ⟨rfl, hb6⟩
                refine hK.out _ _ (regsm_step hHeld hb6) (fun hHeld => ?_)
                clear hK K
                (try simp only [Act.put, List.setIfInBounds_toArray, List.set_cons_zero, List.set_cons_succ])
                refine anyH_take (i := 8) (v := ?_) rfl (by kernel_rfl) (by kernel_rfl) (by kernel_rfl) (fun _ _ _ h => h) (by rfl) (by assumption) ?_ ?_
                rotate_left
                · intro w hSw
                  go_simp
                  (try with_reducible rfl)
                (try simp only [Act.put, List.setIfInBounds_toArray, List.set_cons_zero, List.set_cons_succ])
                refine wpAnyH_done (by kernel_rfl) ?_ _
                have HB2 := Lib.hid (HB1.out.quiet hHeld.2.2.2)
                clear hHeld hb5 hb6 HB1
                have HE := Lib.hid HB2.out.below
                clear HB2
                go_wp2
                go_ret
                exact ⟨by rw [HN.out]; rfl, HE.out⟩
              exact AllReadyH.nil
            exact AllReadyH.nil
        · have hl4 : (s == s') = false := by simpa using hl2
          have HN : Hid (sameN S T L = false) := Lib.hid (HNo.out (by rw [HN.out, hl4]; simp))
          clear HY HNo hl2
          refine anyH_take (i := 0) (v := ?_) rfl (by kernel_rfl) (by kernel_rfl) (by kernel_rfl) (fun _ _ _ h => h) (by rfl) (by assumption) ?_ ?_
          rotate_left
          · intro w hSw
            obtain ⟨hA, hB, ⟨g0, g1, g2⟩, hk9⟩ := hSw
            obtain ⟨q0, q1, q2⟩ := hA.three8
            obtain ⟨p0, p1, p2, p3, p4, p5, p6⟩ := hB.seven
            go_simp
            (try with_reducible rfl)
          (try simp only [Act.put, List.setIfInBounds_toArray, List.set_cons_zero, List.set_cons_succ])
          refine anyH_take (i := 2) (v := ?_) rfl (by kernel_rfl) (by kernel_rfl) (by kernel_rfl) (fun _ _ _ h => h) (by rfl) (by assumption) ?_ ?_
          rotate_left
          · intro w hSw
            go_simp
            (try with_reducible rfl)
          (try simp only [Act.put, List.setIfInBounds_toArray, List.set_cons_zero, List.set_cons_succ])
          refine anyH_take (i := 3) (v := ?_) rfl (by kernel_rfl) (by kernel_rfl) (by kernel_rfl) (fun _ _ _ h => h) (by rfl) (by assumption) ?_ ?_
          rotate_left
          · intro w hSw
            obtain ⟨hA, hB, ⟨g0, g1, g2⟩, hk9⟩ := hSw
            obtain ⟨q0, q1, q2⟩ := hA.three8
            obtain ⟨p0, p1, p2, p3, p4, p5, p6⟩ := hB.seven
            go_simp
            (try with_reducible rfl)
          (try simp only [Act.put, List.setIfInBounds_toArray, List.set_cons_zero, List.set_cons_succ])
          refine anyH_take (i := 4) (v := ?_) rfl (by kernel_rfl) (by kernel_rfl) (by kernel_rfl) (fun _ _ _ h => h) (by rfl) (by assumption) ?_ ?_
          rotate_left
          · intro w hSw
            go_simp
            (try with_reducible rfl)
          (try simp only [Act.put, List.setIfInBounds_toArray, List.set_cons_zero, List.set_cons_succ])
          refine anyH_take (i := 5) (v := ?_) rfl (by kernel_rfl) (by kernel_rfl) (by kernel_rfl) (fun _ _ _ h => h) (by rfl) (by assumption) ?_ ?_
          rotate_left
          · intro w hSw
            go_simp
            (try with_reducible rfl)
          (try simp only [Act.put, List.setIfInBounds_toArray, List.set_cons_zero, List.set_cons_succ])
          refine anyH_take (i := 6) (v := ?_) rfl (by kernel_rfl) (by kernel_rfl) (by kernel_rfl) (fun _ _ _ h => h) (by rfl) (by assumption) ?_ ?_
          rotate_left
          · intro w hSw
            obtain ⟨hA, hB, ⟨g0, g1, g2⟩, hk9⟩ := hSw
            obtain ⟨q0, q1, q2⟩ := hA.three8
            obtain ⟨p0, p1, p2, p3, p4, p5, p6⟩ := hB.seven
            go_simp
            (try with_reducible rfl)
          (try simp only [Act.put, List.setIfInBounds_toArray, List.set_cons_zero, List.set_cons_succ])
          refine wpAnyH_ready (rs := [1]) (by kernel_rfl) (by simp) ?_
          refine anyH_one rfl (fun K hK => ?_) ?_
          · go_simp
            refine (unused_any _ _ _ _).mono ?_
            rintro e w5 ⟨rfl, hb5⟩
            refine hK.out _ _ (regsm_step hHeld hb5) (fun hHeld => ?_)
            clear hK K
            (try simp only [Act.put, List.setIfInBounds_toArray, List.set_cons_zero, List.set_cons_succ])
            refine wpAnyH_ready (rs := [7]) (by kernel_rfl) (by simp) ?_
            refine anyH_one rfl (fun K hK => ?_) ?_
            · go_simp
              refine (unused_any _ _ _ _).mono ?_
              rintro e w6 ⟨rfl, hb6⟩
              refine hK.out _ _ (regsm_step hHeld hb6) (fun hHeld => ?_)
              clear hK K
              (try simp only [Act.put, List.setIfInBounds_toArray, List.set_cons_zero, List.set_cons_succ])
              refine anyH_take (i := 8) (v := ?_) rfl (by kernel_rfl) (by kernel_rfl) (by kernel_rfl) (fun _ _ _ h => h) (by rfl) (by assumption) ?_ ?_
              rotate_left
              · intro w hSw
                go_simp
                (try with_reducible rfl)
              (try simp only [Act.put, List.setIfInBounds_toArray, List.set_cons_zero, List.set_cons_succ])
              refine wpAnyH_done (by kernel_rfl) ?_ _
              have HB2 := Lib.hid (HB1.out.quiet hHeld.2.2.2)
              clear hHeld hb5 hb6 HB1
              have HE := Lib.hid HB2.out.below
              clear HB2
              go_wp2
              go_ret
              exact ⟨by rw [HN.out]; rfl, HE.out⟩
            exact AllReadyH.nil
          exact AllReadyH.nil
      · have hl4 : (l == l') = false := by simpa using hl1
        have HN : Hid (sameN S T L = false) := Lib.hid (HNo.out (by rw [HN.out, hl4]; simp))
        clear HY HNo hl1
        refine anyH_take (i := 0) (v := ?_) rfl (by kernel_rfl) (by kernel_rfl) (by kernel_rfl) (fun _ _ _ h => h) (by rfl) (by assumption) ?_ ?_
        rotate_left
        · intro w hSw
          obtain ⟨hA, hB, ⟨g0, g1, g2⟩, hk9⟩ := hSw
          obtain ⟨q0, q1, q2⟩ := hA.three8
          obtain ⟨p0, p1, p2, p3, p4, p5, p6⟩ := hB.seven
          go_simp
          (try with_reducible rfl)
        (try simp only [Act.put, List.setIfInBounds_toArray, List.set_cons_zero, List.set_cons_succ])
        refine anyH_take (i := 2) (v := ?_) rfl (by kernel_rfl) (by kernel_rfl) (by kernel_rfl) (fun _ _ _ h => h) (by rfl) (by assumption) ?_ ?_
        rotate_left
        · intro w hSw
          go_simp
          (try with_reducible rfl)
        (try simp only [Act.put, List.setIfInBounds_toArray, List.set_cons_zero, List.set_cons_succ])
        refine anyH_take (i := 3) (v := ?_) rfl (by kernel_rfl) (by kernel_rfl) (by kernel_rfl) (fun _ _ _ h => h) (by rfl) (by assumption) ?_ ?_
        rotate_left
        · intro w hSw
          obtain ⟨hA, hB, ⟨g0, g1, g2⟩, hk9⟩ := hSw
          obtain ⟨q0, q1, q2⟩ := hA.three8
          obtain ⟨p0, p1, p2, p3, p4, p5, p6⟩ := hB.seven
          go_simp
          (try with_reducible rfl)
        (try simp only [Act.put, List.setIfInBounds_toArray, List.set_cons_zero, List.set_cons_succ])
        refine anyH_take (i := 4) (v := ?_) rfl (by kernel_rfl) (by kernel_rfl) (by kernel_rfl) (fun _ _ _ h => h) (by rfl) (by assumption) ?_ ?_
        rotate_left
        · intro w hSw
          go_simp
          (try with_reducible rfl)
        (try simp only [Act.put, List.setIfInBounds_toArray, List.set_cons_zero, List.set_cons_succ])
        refine anyH_take (i := 5) (v := ?_) rfl (by kernel_rfl) (by kernel_rfl) (by kernel_rfl) (fun _ _ _ h => h) (by rfl) (by assumption) ?_ ?_
        rotate_left
        · intro w hSw
          go_simp
          (try with_reducible rfl)
        (try simp only [Act.put, List.setIfInBounds_toArray, List.set_cons_zero, List.set_cons_succ])
        refine anyH_take (i := 6) (v := ?_) rfl (by kernel_rfl) (by kernel_rfl) (by kernel_rfl) (fun _ _ _ h => h) (by rfl) (by assumption) ?_ ?_
        rotate_left
        · intro w hSw
          obtain ⟨hA, hB, ⟨g0, g1, g2⟩, hk9⟩ := hSw
          obtain ⟨q0, q1, q2⟩ := hA.three8
          obtain ⟨p0, p1, p2, p3, p4, p5, p6⟩ := hB.seven
          go_simp
          (try with_reducible rfl)
        (try simp only [Act.put, List.setIfInBounds_toArray, List.set_cons_zero, List.set_cons_succ])
        refine wpAnyH_ready (rs := [1]) (by kernel_rfl) (by simp) ?_
        refine anyH_one rfl (fun K hK => ?_) ?_
        · go_simp
          refine (unused_any _ _ _ _).mono ?_
          rintro e w5 ⟨rfl, hb5⟩
          refine hK.out _ _ (regsm_step hHeld hb5) (fun hHeld => ?_)
          clear hK K
          (try simp only [Act.put, List.setIfInBounds_toArray, List.set_cons_zero, List.set_cons_succ])
          refine wpAnyH_ready (rs := [7]) (by kernel_rfl) (by simp) ?_
          refine anyH_one rfl (fun K hK => ?_) ?_
          · go_simp
            refine (unused_any _ _ _ _).mono ?_
            rintro e w6 ⟨rfl, hb6⟩
            refine hK.out _ _ (regsm_step hHeld hb6) (fun hHeld => ?_)
            clear hK K
            (try simp only [Act.put, List.setIfInBounds_toArray, List.set_cons_zero, List.set_cons_succ])
            refine anyH_take (i := 8) (v := ?_) rfl (by kernel_rfl) (by kernel_rfl) (by kernel_rfl) (fun _ _ _ h => h) (by rfl) (by assumption) ?_ ?_
            rotate_left
            · intro w hSw
              go_simp
              (try with_reducible rfl)
            (try simp only [Act.put, List.setIfInBounds_toArray, List.set_cons_zero, List.set_cons_succ])
            refine wpAnyH_done (by kernel_rfl) ?_ _
            have HB2 := Lib.hid (HB1.out.quiet hHeld.2.2.2)
            clear hHeld hb5 hb6 HB1
            have HE := Lib.hid HB2.out.below
            clear HB2
            go_wp2
            go_ret
            exact ⟨by rw [HN.out]; rfl, HE.out⟩
          exact AllReadyH.nil
        exact AllReadyH.nil
    · have hle : L ≤ k := by omega
      obtain rfl : k = L := by omega
      obtain ⟨p0, p1, p2, p3, p4, p5, p6⟩ := HB.out.boxP.seven
      have HE := Lib.hid HB.out.below
      clear hlt hk HB
      go_wp2
      go_ret
      exact ⟨by rw [HY.out]; rfl, HE.out⟩
end Go.Proofs.YtlpjbmlkpmhdlaaDoor
