/- Several texts of ours in one: Hs, Ht, Kh. -/
import Derived.Test.YtopmmlcjlopmaaaGreatDoorGOqOuL8s
import Derived.Test.YtopmmlcjlopmaaaGreatDoorGHpHqHu
import Derived.Test.YtopmmlcjlopmaaaGreatDoorGKaHmHn
/- Contracts of package walk: unused, Same. (Laid by tools/gen_hs.py.) -/
namespace Go.Proofs.YtopmmlcjlopmaaaGreatDoor
set_option linter.unusedVariables false
set_option linter.unusedSimpArgs false
open Go.ChangeShapes Go.WideShapes Go.ChangeAt Go.RowKit Go.Joins

/-- a word without A and D -/
def bareF (x : Int) : Int := bits .andNot .u64 x 96

theorem Blk.three8 {w : World} {b : Nat} {t : TypeId} {x0 x1 x2 : Value} (h : Blk w b #[x0, x1, x2] t) : w.cell? ⟨b, 0, none⟩ = some x0 ∧ w.cell? ⟨b, 1, none⟩ = some x1 ∧ w.cell? ⟨b, 2, none⟩ = some x2 := by
  unfold Blk at h; simp [World.cell?, h]

set_option maxRecDepth 100000 in
theorem unused_any (l s x : Int) (w : World) :
    Calls Tryz.prog 48 #[.agg #[.int .i64 l, .int .u64 s, .int .u64 x]] w fun e w' => e = .returned (.agg #[.int .i64 l, .int .u64 s, .int .u64 (bareF x)]) ∧ Below w.heap.size w w' := by
  unfold bareF
  go_enter Tryz.func48, Tryz.ntmps48
  go_wp2
  exact bodyPost_ret (results_cell_row rfl _ _ (w.heap.size + 1) _ _ _ _ rfl (last_obj2 w _ _) Tryz.underlying99 rfl rfl) rfl ⟨rfl, below2 w _ _⟩

/-- are the first k steps the same, but for A and D? -/
def sameN (S T : List (Int × Int × Int)) : Nat → Bool
  | 0 => true
  | k + 1 => sameN S T k && ((stepAt S k).1 == (stepAt T k).1 && ((stepAt S k).2.1 == (stepAt T k).2.1 && bareF (stepAt S k).2.2 == bareF (stepAt T k).2.2))

theorem same_false {S T : List (Int × Int × Int)} {k : Nat} : ∀ {L : Nat}, k + 1 ≤ L → sameN S T (k + 1) = false → sameN S T L = false
  | L + 1, hk, h => by
    by_cases e : k = L
    · subst e; exact h
    · unfold sameN; rw [same_false (L := L) (by omega) h]; rfl

/-- two paths in the variables of a call -/
structure Two (w wr : World) (pb : Nat) (v : Value) (P : Pth) (qb : Nat) (v' : Value) (Q : Pth) : Prop where
  boxP : Blk wr pb (pathCells v P) 37
  boxQ : Blk wr qb (pathCells v' Q) 37
  stepsP : StepsIn wr v P.steps
  stepsQ : StepsIn wr v' Q.steps
  below : Below w.heap.size w wr

section
variable {w wr w3 : World} {pb qb : Nat} {v v' : Value} {P Q : Pth}
theorem Two.quiet (h : Two w wr pb v P qb v' Q) (hb : Below wr.heap.size wr w3) : Two w w3 pb v P qb v' Q :=
  ⟨h.boxP.below hb, h.boxQ.below hb, h.stepsP.below hb, h.stepsQ.below hb, h.below.trans (hb.mono h.below.size)⟩
theorem Two.start (h1 : StepsIn w v P.steps) (h2 : StepsIn w v' Q.steps) : Two w ((w.alloc (.cells (pathCells v P) 37)).alloc (.cells (pathCells v' Q) 37)) w.heap.size v P (w.heap.size + 1) v' Q :=
  ⟨(Blk.new w _ _).alloc _, last_obj2 w _ _, h1.below (below2 w _ _), h2.below (below2 w _ _), below2 w _ _⟩
theorem steps_at {A : Option Addr} {L c : Nat} {S : List (Int × Int × Int)} (h : StepsIn wr (.slice A L c) S) {k : Nat} (hk : k < S.length) : ∃ ad, A = some ad ∧ wr.cell? (ad.add (k * 3)) = some (.int .i64 (stepAt S k).1) ∧ wr.cell? ⟨(ad.add (k * 3)).block, (ad.add (k * 3)).off + 1, none⟩ = some (.int .u64 (stepAt S k).2.1) ∧ wr.cell? ⟨(ad.add (k * 3)).block, (ad.add (k * 3)).off + 2, none⟩ = some (.int .u64 (stepAt S k).2.2) := by
  obtain ⟨A', c', hv, hc⟩ := h
  obtain ⟨ad, hA, d0, d1, d2⟩ := hc k hk
  simp at hv
  exact ⟨ad, hv.1.trans hA, d0, d1, d2⟩
end

/-- what the region of Same keeps -/
def RegSm (w1 : World) (sb : Nat) (l s x : Int) (qb : Nat) (v' : Value) (Q : Pth) (ad : Addr) (l' s' x' : Int) (w' : World) : Prop :=
  Blk w' sb #[.int .i64 l, .int .u64 s, .int .u64 x] 99 ∧ Blk w' qb (pathCells v' Q) 37 ∧ (w'.cell? ad = some (.int .i64 l') ∧ w'.cell? ⟨ad.block, ad.off + 1, none⟩ = some (.int .u64 s') ∧ w'.cell? ⟨ad.block, ad.off + 2, none⟩ = some (.int .u64 x')) ∧ Kept w1 w'
theorem regsm_step {w1 : World} {sb : Nat} {l s x : Int} {qb : Nat} {v' : Value} {Q : Pth} {ad : Addr} {l' s' x' : Int} {w2 w3 : World} (h : RegSm w1 sb l s x qb v' Q ad l' s' x' w2) (hb : Below w2.heap.size w2 w3) : RegSm w1 sb l s x qb v' Q ad l' s' x' w3 := by
  obtain ⟨a, b, ⟨c0, c1, c2⟩, k⟩ := h
  exact ⟨a.below hb, b.below hb, ⟨(hb.cell (World.block_lt_of_cell? _ _ c0)).trans c0, (hb.cell (World.block_lt_of_cell? _ _ c1)).trans c1, (hb.cell (World.block_lt_of_cell? _ _ c2)).trans c2⟩, Kept.step hb k⟩

set_option maxRecDepth 100000 in
set_option maxHeartbeats 3200000 in
theorem same_yes (w : World) (A A' : Option Addr) (L c c' : Nat) (S T : List (Int × Int × Int)) (y : Int) (W U X : Bool) (lv fr : Int) (hL : S.length = L) (hT : T.length = L) (hS1 : StepsIn w (.slice A L c) S) (hS2 : StepsIn w (.slice A' L c') T) (hl : L ≤ maxLen) :
    Calls Tryz.prog 22 #[pathV (.slice A L c) y W U X lv fr, pathV (.slice A' L c') y W U X lv fr] w fun e w' => e = .returned (.bool (sameN S T L)) ∧ Below w.heap.size w w' := by
  have H0 := Lib.hid (Two.start (P := ⟨S, y, W, U, X, lv, fr⟩) (Q := ⟨T, y, W, U, X, lv, fr⟩) hS1 hS2)
  have HL := Lib.hid hL
  have HT := Lib.hid hT
  clear hS1 hS2 hL hT
  go_enter Tryz.func22, Tryz.ntmps22
  go_wp2
  go_loopw [45] (fun i wr => ∃ k : Nat, k ≤ L ∧ i = .int .i64 k ∧ Two w wr w.heap.size (.slice A L c) ⟨S, y, W, U, X, lv, fr⟩ (w.heap.size + 1) (.slice A' L c') ⟨T, y, W, U, X, lv, fr⟩ ∧ sameN S T k = true) (fun i _ => (L - intOf i).toNat)
  case atStart => exact ⟨0, by omega, rfl, H0.out, rfl⟩
  case round =>
    obtain ⟨k, hk, rfl, hB, hY⟩ := hrel
    clear H0
    have HB := Lib.hid hB
    have HY := Lib.hid hY
    clear hB hY
    by_cases hlt : k < L
    · obtain ⟨ad, rfl, d0, d1, d2⟩ := steps_at HB.out.stepsP (k := k) (by show k < S.length; rw [HL.out]; exact hlt)
      obtain ⟨ad', rfl, g0, g1, g2⟩ := steps_at HB.out.stepsQ (k := k) (by show k < T.length; rw [HT.out]; exact hlt)
      have HN : Hid (sameN S T (k + 1) = (sameN S T k && ((stepAt S k).1 == (stepAt T k).1 && ((stepAt S k).2.1 == (stepAt T k).2.1 && bareF (stepAt S k).2.2 == bareF (stepAt T k).2.2)))) := Lib.hid rfl
      change wr.cell? _ = some (.int .i64 (stepAt S k).1) at d0
      change wr.cell? _ = some (.int .u64 (stepAt S k).2.1) at d1
      change wr.cell? _ = some (.int .u64 (stepAt S k).2.2) at d2
      change wr.cell? _ = some (.int .i64 (stepAt T k).1) at g0
      change wr.cell? _ = some (.int .u64 (stepAt T k).2.1) at g1
      change wr.cell? _ = some (.int .u64 (stepAt T k).2.2) at g2
      generalize (stepAt S k).1 = l at *
      generalize (stepAt S k).2.1 = s at *
      generalize (stepAt S k).2.2 = x at *
      generalize (stepAt T k).1 = l' at *
      generalize (stepAt T k).2.1 = s' at *
      generalize (stepAt T k).2.2 = x' at *
      go_upto_region 6 with fail
      obtain ⟨w1, hw1⟩ : ∃ w1, wr.alloc (.cells #[.int .i64 l, .int .u64 s, .int .u64 x] 99) = w1 := ⟨_, rfl⟩
      have HB1 : Hid (Two w w1 w.heap.size (.slice (some ad) L c) ⟨S, y, W, U, X, lv, fr⟩ (w.heap.size + 1) (.slice (some ad') L c') ⟨T, y, W, U, X, lv, fr⟩) := Lib.hid (by rw [← hw1]; exact HB.out.quiet (below_alloc1 _ _))
      have HR1 : Hid (RegSm w1 wr.heap.size l s x (w.heap.size + 1) (.slice (some ad') L c') ⟨T, y, W, U, X, lv, fr⟩ (ad'.add (k * 3)) l' s' x' w1) := Lib.hid (by
        rw [← hw1]
        have hb := below_alloc1 wr (.cells #[.int .i64 l, .int .u64 s, .int .u64 x] 99)
        exact ⟨Blk.new _ _ _, HB.out.boxQ.below hb, ⟨(hb.cell (World.block_lt_of_cell? _ _ g0)).trans g0, (hb.cell (World.block_lt_of_cell? _ _ g1)).trans g1, (hb.cell (World.block_lt_of_cell? _ _ g2)).trans g2⟩, Below.refl _ _⟩)
      rw [hw1]
      generalize wr.heap.size = sb at *
      clear hw1 d0 d1 d2 g0 g1 g2 HB
      refine wp_region_held_drew (S := RegSm w1 sb l s x (w.heap.size + 1) (.slice (some ad') L c') ⟨T, y, W, U, X, lv, fr⟩ (ad'.add (k * 3)) l' s' x') (by kernel_rfl) (regsm_step HR1.out (Kept.drew0 w1)) (fun hHeld => ?_)
      clear HR1
      generalize hwd : w1.drew = wd at *
      clear hwd
      have e9 : IntKind.i64.wrap ((k : Int) + 1) = (k : Int) + 1 := i64_wrap (by omega) (by unfold maxLen at hl; omega)
      have HNo : Hid (sameN S T (k + 1) = false → sameN S T L = false) := Lib.hid (same_false (by omega))
      by_cases hl1 : l = l'
      · by_cases hl2 : s = s'
        · obtain ⟨z, hz⟩ : ∃ z, bareF x = z := ⟨_, rfl⟩
          obtain ⟨z', hz'⟩ : ∃ z', bareF x' = z' := ⟨_, rfl⟩
          have CX := fun w0 => unused_any l s x w0
          have CX' := fun w0 => unused_any l s x' w0
          rw [hz] at CX HN
          rw [hz'] at CX' HN
          subst hl1
          subst hl2
          clear hz hz'
          by_cases hl3 : z = z'
          · subst hl3
            have HN : Hid (sameN S T (k + 1) = true) := Lib.hid (by rw [HN.out, HY.out]; simp)
            clear HY HNo
            refine anyH_take (i := 0) (v := ?_) rfl (by kernel_rfl) (by kernel_rfl) (by kernel_rfl) (fun _ _ _ h => h) (by rfl) (by assumption) ?_ ?_
            rotate_left
            · intro w hSw
              obtain ⟨hA, hB, ⟨g0, g1, g2⟩, hk9⟩ := hSw
              obtain ⟨q0, q1, q2⟩ := hA.three8
              obtain ⟨p0, p1, p2, p3, p4, p5, p6⟩ := hB.seven
              go_simp
              (try with_reducible rfl)
            (try simp only [Act.put, List.setIfInBounds_toArray, List.set_cons_zero, List.set_cons_succ])
            refine anyH_take (i := 2) (v := ?_) rfl (by kernel_rfl) (by kernel_rfl) (by kernel_rfl) (fun _ _ _ h => h) (by rfl) (by assumption) ?_ ?_
            rotate_left
            · intro w hSw
              go_simp
              (try with_reducible rfl)
            (try simp only [Act.put, List.setIfInBounds_toArray, List.set_cons_zero, List.set_cons_succ])
            refine anyH_take (i := 3) (v := ?_) rfl (by kernel_rfl) (by kernel_rfl) (by kernel_rfl) (fun _ _ _ h => h) (by rfl) (by assumption) ?_ ?_
            rotate_left
            · intro w hSw
              obtain ⟨hA, hB, ⟨g0, g1, g2⟩, hk9⟩ := hSw
              obtain ⟨q0, q1, q2⟩ := hA.three8
              obtain ⟨p0, p1, p2, p3, p4, p5, p6⟩ := hB.seven
              go_simp
              (try with_reducible rfl)
            (try simp only [Act.put, List.setIfInBounds_toArray, List.set_cons_zero, List.set_cons_succ])
            refine anyH_take (i := 4) (v := ?_) rfl (by kernel_rfl) (by kernel_rfl) (by kernel_rfl) (fun _ _ _ h => h) (by rfl) (by assumption) ?_ ?_
            rotate_left
            · intro w hSw
              go_simp
              (try with_reducible rfl)
            (try simp only [Act.put, List.setIfInBounds_toArray, List.set_cons_zero, List.set_cons_succ])
            refine anyH_take (i := 5) (v := ?_) rfl (by kernel_rfl) (by kernel_rfl) (by kernel_rfl) (fun _ _ _ h => h) (by rfl) (by assumption) ?_ ?_
            rotate_left
            · intro w hSw
              go_simp
              (try with_reducible rfl)
            (try simp only [Act.put, List.setIfInBounds_toArray, List.set_cons_zero, List.set_cons_succ])
            refine anyH_take (i := 6) (v := ?_) rfl (by kernel_rfl) (by kernel_rfl) (by kernel_rfl) (fun _ _ _ h => h) (by rfl) (by assumption) ?_ ?_
            rotate_left
            · intro w hSw
              obtain ⟨hA, hB, ⟨g0, g1, g2⟩, hk9⟩ := hSw
              obtain ⟨q0, q1, q2⟩ := hA.three8
              obtain ⟨p0, p1, p2, p3, p4, p5, p6⟩ := hB.seven
              go_simp
              (try with_reducible rfl)
            (try simp only [Act.put, List.setIfInBounds_toArray, List.set_cons_zero, List.set_cons_succ])
            refine wpAnyH_ready (rs := [1]) (by kernel_rfl) (by simp) ?_
            refine anyH_one rfl (fun K hK => ?_) ?_
            · go_simp
              refine (CX _).mono ?_
              rintro e w5 ⟨rfl, hb5⟩
              refine hK.out _ _ (regsm_step hHeld hb5) (fun hHeld => ?_)
              clear hK K
              (try simp only [Act.put, List.setIfInBounds_toArray, List.set_cons_zero, List.set_cons_succ])
              refine wpAnyH_ready (rs := [7]) (by kernel_rfl) (by simp) ?_
              refine anyH_one rfl (fun K hK => ?_) ?_
              · go_simp
                refine (CX' _).mono ?_
                rintro e w6 ⟨rfl, hb6⟩
                refine hK.out _ _ (regsm_step hHeld hb6) (fun hHeld => ?_)
                clear hK K
                (try simp only [Act.put, List.setIfInBounds_toArray, List.set_cons_zero, List.set_cons_succ])
                refine anyH_take (i := 8) (v := ?_) rfl (by kernel_rfl) (by kernel_rfl) (by kernel_rfl) (fun _ _ _ h => h) (by rfl) (by assumption) ?_ ?_
                rotate_left
                · intro w hSw
                  go_simp
                  (try with_reducible rfl)
                (try simp only [Act.put, List.setIfInBounds_toArray, List.set_cons_zero, List.set_cons_succ])
                refine wpAnyH_done (by kernel_rfl) ?_ _
                have HB2 := Lib.hid (HB1.out.quiet hHeld.2.2.2)
                clear hHeld hb5 hb6 HB1
                go_wp2
                go_roundw
                case rel => exact ⟨k + 1, by omega, by go_num, HB2.out, HN.out⟩
                case measure => simp [intOf]; omega
              exact AllReadyH.nil
            exact AllReadyH.nil
          · have hl4 : (z == z') = false := by simpa using hl3
            have HN : Hid (sameN S T L = false) := Lib.hid (HNo.out (by rw [HN.out, hl4]; simp))
            clear HY HNo hl3
            refine anyH_take (i := 0) (v := ?_) rfl (by kernel_rfl) (by kernel_rfl) (by kernel_rfl) (fun _ _ _ h => h) (by rfl) (by assumption) ?_ ?_
            rotate_left
            · intro w hSw
              obtain ⟨hA, hB, ⟨g0, g1, g2⟩, hk9⟩ := hSw
              obtain ⟨q0, q1, q2⟩ := hA.three8
              obtain ⟨p0, p1, p2, p3, p4, p5, p6⟩ := hB.seven
              go_simp
              (try with_reducible rfl)
            (try simp only [Act.put, List.setIfInBounds_toArray, List.set_cons_zero, List.set_cons_succ])
            refine anyH_take (i := 2) (v := ?_) rfl (by kernel_rfl) (by kernel_rfl) (by kernel_rfl) (fun _ _ _ h => h) (by rfl) (by assumption) ?_ ?_
            rotate_left
            · intro w hSw
              go_simp
              (try with_reducible rfl)
            (try simp only [Act.put, List.setIfInBounds_toArray, List.set_cons_zero, List.set_cons_succ])
            refine anyH_take (i := 3) (v := ?_) rfl (by kernel_rfl) (by kernel_rfl) (by kernel_rfl) (fun _ _ _ h => h) (by rfl) (by assumption) ?_ ?_
            rotate_left
            · intro w hSw
              obtain ⟨hA, hB, ⟨g0, g1, g2⟩, hk9⟩ := hSw
              obtain ⟨q0, q1, q2⟩ := hA.three8
              obtain ⟨p0, p1, p2, p3, p4, p5, p6⟩ := hB.seven
              go_simp
              (try with_reducible rfl)
            (try simp only [Act.put, List.setIfInBounds_toArray, List.set_cons_zero, List.set_cons_succ])
            refine anyH_take (i := 4) (v := ?_) rfl (by kernel_rfl) (by kernel_rfl) (by kernel_rfl) (fun _ _ _ h => h) (by rfl) (by assumption) ?_ ?_
            rotate_left
            · intro w hSw
              go_simp
              (try with_reducible rfl)
            (try simp only [Act.put, List.setIfInBounds_toArray, List.set_cons_zero, List.set_cons_succ])
            refine anyH_take (i := 5) (v := ?_) rfl (by kernel_rfl) (by kernel_rfl) (by kernel_rfl) (fun _ _ _ h => h) (by rfl) (by assumption) ?_ ?_
            rotate_left
            · intro w hSw
              go_simp
              (try with_reducible rfl)
            (try simp only [Act.put, List.setIfInBounds_toArray, List.set_cons_zero, List.set_cons_succ])
            refine anyH_take (i := 6) (v := ?_) rfl (by kernel_rfl) (by kernel_rfl) (by kernel_rfl) (fun _ _ _ h => h) (by rfl) (by assumption) ?_ ?_
            rotate_left
            · intro w hSw
              obtain ⟨hA, hB, ⟨g0, g1, g2⟩, hk9⟩ := hSw
              obtain ⟨q0, q1, q2⟩ := hA.three8
              obtain ⟨p0, p1, p2, p3, p4, p5, p6⟩ := hB.seven
              go_simp
              (try with_reducible rfl)
            (try simp only [Act.put, List.setIfInBounds_toArray, List.set_cons_zero, List.set_cons_succ])
            refine wpAnyH_ready (rs := [1]) (by kernel_rfl) (by simp) ?_
            refine anyH_one rfl (fun K hK => ?_) ?_
            · go_simp
              refine (CX _).mono ?_
              rintro e w5 ⟨rfl, hb5⟩
              refine hK.out _ _ (regsm_step hHeld hb5) (fun hHeld => ?_)
              clear hK K
              (try simp only [Act.put, List.setIfInBounds_toArray, List.set_cons_zero, List.set_cons_succ])
              refine wpAnyH_ready (rs := [7]) (by kernel_rfl) (by simp) ?_
              refine anyH_one rfl (fun K hK => ?_) ?_
              · go_simp
                refine (CX' _).mono ?_
                rintro e w6 ⟨rfl, hb6⟩
                refine hK.out _ _ (regsm_step hHeld hb6) (fun hHeld => ?_)
                clear hK K
                (try simp only [Act.put, List.setIfInBounds_toArray, List.set_cons_zero, List.set_cons_succ])
                refine anyH_take (i := 8) (v := ?_) rfl (by kernel_rfl) (by kernel_rfl) (by kernel_rfl) (fun _ _ _ h => h) (by rfl) (by assumption) ?_ ?_
                rotate_left
                · intro w hSw
                  go_simp
                  (try with_reducible rfl)
                (try simp only [Act.put, List.setIfInBounds_toArray, List.set_cons_zero, List.set_cons_succ])
                refine wpAnyH_done (by kernel_rfl) ?_ _
                have HB2 := Lib.hid (HB1.out.quiet hHeld.2.2.2)
                clear hHeld hb5 hb6 HB1
                have HE := Lib.hid HB2.out.below
                clear HB2
                go_wp2
                go_ret
                exact ⟨by rw [HN.out]; rfl, HE.out⟩
              exact AllReadyH.nil
            exact AllReadyH.nil
        · have hl4 : (s == s') = false := by simpa using hl2
          have HN : Hid (sameN S T L = false) := Lib.hid (HNo.out (by rw [HN.out, hl4]; simp))
          clear HY HNo hl2
          refine anyH_take (i := 0) (v := ?_) rfl (by kernel_rfl) (by kernel_rfl) (by kernel_rfl) (fun _ _ _ h => h) (by rfl) (by assumption) ?_ ?_
          rotate_left
          · intro w hSw
            obtain ⟨hA, hB, ⟨g0, g1, g2⟩, hk9⟩ := hSw
            obtain ⟨q0, q1, q2⟩ := hA.three8
            obtain ⟨p0, p1, p2, p3, p4, p5, p6⟩ := hB.seven
            go_simp
            (try with_reducible rfl)
          (try simp only [Act.put, List.setIfInBounds_toArray, List.set_cons_zero, List.set_cons_succ])
          refine anyH_take (i := 2) (v := ?_) rfl (by kernel_rfl) (by kernel_rfl) (by kernel_rfl) (fun _ _ _ h => h) (by rfl) (by assumption) ?_ ?_
          rotate_left
          · intro w hSw
            go_simp
            (try with_reducible rfl)
          (try simp only [Act.put, List.setIfInBounds_toArray, List.set_cons_zero, List.set_cons_succ])
          refine anyH_take (i := 3) (v := ?_) rfl (by kernel_rfl) (by kernel_rfl) (by kernel_rfl) (fun _ _ _ h => h) (by rfl) (by assumption) ?_ ?_
          rotate_left
          · intro w hSw
            obtain ⟨hA, hB, ⟨g0, g1, g2⟩, hk9⟩ := hSw
            obtain ⟨q0, q1, q2⟩ := hA.three8
            obtain ⟨p0, p1, p2, p3, p4, p5, p6⟩ := hB.seven
            go_simp
            (try with_reducible rfl)
          (try simp only [Act.put, List.setIfInBounds_toArray, List.set_cons_zero, List.set_cons_succ])
          refine anyH_take (i := 4) (v := ?_) rfl (by kernel_rfl) (by kernel_rfl) (by kernel_rfl) (fun _ _ _ h => h) (by rfl) (by assumption) ?_ ?_
          rotate_left
          · intro w hSw
            go_simp
            (try with_reducible rfl)
          (try simp only [Act.put, List.setIfInBounds_toArray, List.set_cons_zero, List.set_cons_succ])
          refine anyH_take (i := 5) (v := ?_) rfl (by kernel_rfl) (by kernel_rfl) (by kernel_rfl) (fun _ _ _ h => h) (by rfl) (by assumption) ?_ ?_
          rotate_left
          · intro w hSw
            go_simp
            (try with_reducible rfl)
          (try simp only [Act.put, List.setIfInBounds_toArray, List.set_cons_zero, List.set_cons_succ])
          refine anyH_take (i := 6) (v := ?_) rfl (by kernel_rfl) (by kernel_rfl) (by kernel_rfl) (fun _ _ _ h => h) (by rfl) (by assumption) ?_ ?_
          rotate_left
          · intro w hSw
            obtain ⟨hA, hB, ⟨g0, g1, g2⟩, hk9⟩ := hSw
            obtain ⟨q0, q1, q2⟩ := hA.three8
            obtain ⟨p0, p1, p2, p3, p4, p5, p6⟩ := hB.seven
            go_simp
            (try with_reducible rfl)
          (try simp only [Act.put, List.setIfInBounds_toArray, List.set_cons_zero, List.set_cons_succ])
          refine wpAnyH_ready (rs := [1]) (by kernel_rfl) (by simp) ?_
          refine anyH_one rfl (fun K hK => ?_) ?_
          · go_simp
            refine (unused_any _ _ _ _).mono ?_
            rintro e w5 ⟨rfl, hb5⟩
            refine hK.out _ _ (regsm_step hHeld hb5) (fun hHeld => ?_)
            clear hK K
            (try simp only [Act.put, List.setIfInBounds_toArray, List.set_cons_zero, List.set_cons_succ])
            refine wpAnyH_ready (rs := [7]) (by kernel_rfl) (by simp) ?_
            refine anyH_one rfl (fun K hK => ?_) ?_
            · go_simp
              refine (unused_any _ _ _ _).mono ?_
              rintro e w6 ⟨rfl, hb6⟩
              refine hK.out _ _ (regsm_step hHeld hb6) (fun hHeld => ?_)
              clear hK K
              (try simp only [Act.put, List.setIfInBounds_toArray, List.set_cons_zero, List.set_cons_succ])
              refine anyH_take (i := 8) (v := ?_) rfl (by kernel_rfl) (by kernel_rfl) (by kernel_rfl) (fun _ _ _ h => h) (by rfl) (by assumption) ?_ ?_
              rotate_left
              · intro w hSw
                go_simp
                (try with_reducible rfl)
              (try simp only [Act.put, List.setIfInBounds_toArray, List.set_cons_zero, List.set_cons_succ])
              refine wpAnyH_done (by kernel_rfl) ?_ _
              have HB2 := Lib.hid (HB1.out.quiet hHeld.2.2.2)
              clear hHeld hb5 hb6 HB1
              have HE := Lib.hid HB2.out.below
              clear HB2
              go_wp2
              go_ret
              exact ⟨by rw [HN.out]; rfl, HE.out⟩
            exact AllReadyH.nil
          exact AllReadyH.nil
      · have hl4 : (l == l') = false := by simpa using hl1
        have HN : Hid (sameN S T L = false) := Lib.hid (HNo.out (by rw [HN.out, hl4]; simp))
        clear HY HNo hl1
        refine anyH_take (i := 0) (v := ?_) rfl (by kernel_rfl) (by kernel_rfl) (by kernel_rfl) (fun _ _ _ h => h) (by rfl) (by assumption) ?_ ?_
        rotate_left
        · intro w hSw
          obtain ⟨hA, hB, ⟨g0, g1, g2⟩, hk9⟩ := hSw
          obtain ⟨q0, q1, q2⟩ := hA.three8
          obtain ⟨p0, p1, p2, p3, p4, p5, p6⟩ := hB.seven
          go_simp
          (try with_reducible rfl)
        (try simp only [Act.put, List.setIfInBounds_toArray, List.set_cons_zero, List.set_cons_succ])
        refine anyH_take (i := 2) (v := ?_) rfl (by kernel_rfl) (by kernel_rfl) (by kernel_rfl) (fun _ _ _ h => h) (by rfl) (by assumption) ?_ ?_
        rotate_left
        · intro w hSw
          go_simp
          (try with_reducible rfl)
        (try simp only [Act.put, List.setIfInBounds_toArray, List.set_cons_zero, List.set_cons_succ])
        refine anyH_take (i := 3) (v := ?_) rfl (by kernel_rfl) (by kernel_rfl) (by kernel_rfl) (fun _ _ _ h => h) (by rfl) (by assumption) ?_ ?_
        rotate_left
        · intro w hSw
          obtain ⟨hA, hB, ⟨g0, g1, g2⟩, hk9⟩ := hSw
          obtain ⟨q0, q1, q2⟩ := hA.three8
          obtain ⟨p0, p1, p2, p3, p4, p5, p6⟩ := hB.seven
          go_simp
          (try with_reducible rfl)
        (try simp only [Act.put, List.setIfInBounds_toArray, List.set_cons_zero, List.set_cons_succ])
        refine anyH_take (i := 4) (v := ?_) rfl (by kernel_rfl) (by kernel_rfl) (by kernel_rfl) (fun _ _ _ h => h) (by rfl) (by assumption) ?_ ?_
        rotate_left
        · intro w hSw
          go_simp
          (try with_reducible rfl)
        (try simp only [Act.put, List.setIfInBounds_toArray, List.set_cons_zero, List.set_cons_succ])
        refine anyH_take (i := 5) (v := ?_) rfl (by kernel_rfl) (by kernel_rfl) (by kernel_rfl) (fun _ _ _ h => h) (by rfl) (by assumption) ?_ ?_
        rotate_left
        · intro w hSw
          go_simp
          (try with_reducible rfl)
        (try simp only [Act.put, List.setIfInBounds_toArray, List.set_cons_zero, List.set_cons_succ])
        refine anyH_take (i := 6) (v := ?_) rfl (by kernel_rfl) (by kernel_rfl) (by kernel_rfl) (fun _ _ _ h => h) (by rfl) (by assumption) ?_ ?_
        rotate_left
        · intro w hSw
          obtain ⟨hA, hB, ⟨g0, g1, g2⟩, hk9⟩ := hSw
          obtain ⟨q0, q1, q2⟩ := hA.three8
          obtain ⟨p0, p1, p2, p3, p4, p5, p6⟩ := hB.seven
          go_simp
          (try with_reducible rfl)
        (try simp only [Act.put, List.setIfInBounds_toArray, List.set_cons_zero, List.set_cons_succ])
        refine wpAnyH_ready (rs := [1]) (by kernel_rfl) (by simp) ?_
        refine anyH_one rfl (fun K hK => ?_) ?_
        · go_simp
          refine (unused_any _ _ _ _).mono ?_
          rintro e w5 ⟨rfl, hb5⟩
          refine hK.out _ _ (regsm_step hHeld hb5) (fun hHeld => ?_)
          clear hK K
          (try simp only [Act.put, List.setIfInBounds_toArray, List.set_cons_zero, List.set_cons_succ])
          refine wpAnyH_ready (rs := [7]) (by kernel_rfl) (by simp) ?_
          refine anyH_one rfl (fun K hK => ?_) ?_
          · go_simp
            refine (unused_any _ _ _ _).mono ?_
            rintro e w6 ⟨rfl, hb6⟩
            refine hK.out _ _ (regsm_step hHeld hb6) (fun hHeld => ?_)
            clear hK K
            (try simp only [Act.put, List.setIfInBounds_toArray, List.set_cons_zero, List.set_cons_succ])
            refine anyH_take (i := 8) (v := ?_) rfl (by kernel_rfl) (by kernel_rfl) (by kernel_rfl) (fun _ _ _ h => h) (by rfl) (by assumption) ?_ ?_
            rotate_left
            · intro w hSw
              go_simp
              (try with_reducible rfl)
            (try simp only [Act.put, List.setIfInBounds_toArray, List.set_cons_zero, List.set_cons_succ])
            refine wpAnyH_done (by kernel_rfl) ?_ _
            have HB2 := Lib.hid (HB1.out.quiet hHeld.2.2.2)
            clear hHeld hb5 hb6 HB1
            have HE := Lib.hid HB2.out.below
            clear HB2
            go_wp2
            go_ret
            exact ⟨by rw [HN.out]; rfl, HE.out⟩
          exact AllReadyH.nil
        exact AllReadyH.nil
    · have hle : L ≤ k := by omega
      obtain rfl : k = L := by omega
      obtain ⟨p0, p1, p2, p3, p4, p5, p6⟩ := HB.out.boxP.seven
      have HE := Lib.hid HB.out.below
      clear hlt hk HB
      go_wp2
      go_ret
      exact ⟨by rw [HY.out]; rfl, HE.out⟩
end Go.Proofs.YtopmmlcjlopmaaaGreatDoor
/- Walks through words that are alike but for A and D. Two memories that turn by turns; a path beside both. -/
namespace Go.Proofs.YtopmmlcjlopmaaaGreatDoor
set_option linter.unusedVariables false
set_option linter.unusedSimpArgs false
open Go.ChangeShapes Go.WideShapes Go.ChangeAt Go.RowKit Go.Joins

/-- two words alike but for the bits 5 and 6 -/
structure Al (x y : Int) : Prop where
  wx : W64 x
  wy : W64 y
  rest : ∀ i, i ≠ 5 → i ≠ 6 → tb x i = tb y i

theorem al_and {x y m : Int} (h : Al x y) (hm : W64 m) (h5 : tb m 5 = false) (h6 : tb m 6 = false) : bits .and .u64 x m = bits .and .u64 y m := by
  apply tb_ext (w64_bits _ _ _) (w64_bits _ _ _)
  intro i hi
  rw [tb_and h.wx.1 hm.1, tb_and h.wy.1 hm.1]
  by_cases e5 : i = 5
  · rw [e5, h5]; simp
  · by_cases e6 : i = 6
    · rw [e6, h6]; simp
    · rw [h.rest i e5 e6]
theorem al_mask {x y : Int} (h : Al x y) (lo n : Int) (hl : 6 < lo ∨ lo + n ≤ 5) : bits .and .u64 x (maskF lo n) = bits .and .u64 y (maskF lo n) := by
  apply al_and h (w64_mask _ _)
  · rw [tb_mask]
    rcases hl with hl | hl
    · rw [decide_eq_false (show ¬ lo ≤ ((5 : Nat) : Int) by omega)]; simp
    · rw [decide_eq_false (show ¬ ((5 : Nat) : Int) < lo + n by omega)]; simp
  · rw [tb_mask]
    rcases hl with hl | hl
    · rw [decide_eq_false (show ¬ lo ≤ ((6 : Nat) : Int) by omega)]; simp
    · rw [decide_eq_false (show ¬ ((6 : Nat) : Int) < lo + n by omega)]; simp
theorem al_bit {x y : Int} (h : Al x y) (i : Int) (hl : 6 < i ∨ i + 1 ≤ 5) : bitF x i = bitF y i := by unfold bitF; rw [al_mask h i 1 hl]
theorem al_has {x y : Int} (h : Al x y) (lo n : Int) (hl : 6 < lo) : hasF x (maskF lo n) = hasF y (maskF lo n) := by unfold hasF; rw [al_mask h lo n (Or.inl hl)]
theorem al_table {x y : Int} (h : Al x y) : tableF x = tableF y := by rw [← table_and h.wx, ← table_and h.wy, al_mask h 12 40 (Or.inl (by omega))]
theorem al_leaf {x y : Int} (h : Al x y) (l : Int) : leafF x l = leafF y l := by unfold leafF; rw [al_bit h 7 (Or.inl (by omega))]
theorem al_frame {x y : Int} (h : Al x y) (l : Int) : frameF x l = frameF y l := by unfold frameF; rw [al_leaf h, al_table h]
theorem al_res {x y : Int} (h : Al x y) (l b : Int) (nxe : Bool) : resF x l b nxe = resF y l b nxe := by
  unfold resF beyondF
  rw [al_has h (lowB b) (52 - lowB b) (by unfold lowB; split <;> omega), al_bit h 63 (Or.inl (by omega)), al_bit h 7 (Or.inl (by omega)), al_has h 13 8 (by omega), al_has h 13 17 (by omega)]
theorem al_bare {x y : Int} (h : Al x y) : bareF x = bareF y := by
  unfold bareF
  apply tb_ext (w64_bits _ _ _) (w64_bits _ _ _)
  intro i hi
  rw [tb_andNot h.wx.1 (by decide), tb_andNot h.wy.1 (by decide), tb_96]
  by_cases e5 : 5 = i
  · simp [e5]
  · by_cases e6 : 6 = i
    · simp [e6]
    · rw [h.rest i (fun e => e5 e.symm) (fun e => e6 e.symm)]
theorem Al.refl {x : Int} (h : W64 x) : Al x x := ⟨h, h, fun _ _ _ => rfl⟩
theorem Al.trans {x y z : Int} (a : Al x y) (b : Al y z) : Al x z := ⟨a.wx, b.wy, fun i h5 h6 => (a.rest i h5 h6).trans (b.rest i h5 h6)⟩
theorem Up.al {f g : Int → Int} (h : Up f g) (hf : ∀ j, W64 (f j)) (j : Int) : Al (f j) (g j) := ⟨hf j, h.w j, fun i h5 h6 => (h.rest j i h5 h6).symm⟩
/-- two walks alike but for A and D -/
structure AlP (P Q : Pth) : Prop where
  why : P.why = Q.why
  W : P.W = Q.W
  U : P.U = Q.U
  X : P.X = Q.X
  lev : P.lev = Q.lev
  fr : P.fr = Q.fr
  len : P.steps.length = Q.steps.length
  at_ : ∀ i, i < P.steps.length → (stepAt P.steps i).1 = (stepAt Q.steps i).1 ∧ (stepAt P.steps i).2.1 = (stepAt Q.steps i).2.1 ∧ bareF (stepAt P.steps i).2.2 = bareF (stepAt Q.steps i).2.2

theorem AlP.refl (P : Pth) : AlP P P := ⟨rfl, rfl, rfl, rfl, rfl, rfl, rfl, fun _ _ => ⟨rfl, rfl, rfl⟩⟩
theorem alp_cons {P Q : Pth} {l s x y : Int} (h : AlP P Q) (hx : bareF x = bareF y) : AlP (preP [(l, s, x)] P) (preP [(l, s, y)] Q) := by
  refine ⟨h.why, h.W, h.U, h.X, h.lev, h.fr, by simp [preP, h.len], fun i hi => ?_⟩
  rcases i with _ | i
  · exact ⟨rfl, rfl, hx⟩
  · have := h.at_ i (by simp [preP] at hi; omega)
    simpa [preP, stepAt] using this
theorem same_of {S T : List (Int × Int × Int)} : ∀ k, (∀ i, i < k → (stepAt S i).1 = (stepAt T i).1 ∧ (stepAt S i).2.1 = (stepAt T i).2.1 ∧ bareF (stepAt S i).2.2 = bareF (stepAt T i).2.2) → sameN S T k = true
  | 0, _ => rfl
  | k + 1, h => by
    obtain ⟨a, b, c⟩ := h k (by omega)
    unfold sameN
    rw [same_of k (fun i hi => h i (by omega)), a, b, c]; simp

theorem walk_alike {f h : Int → Int} (hA : ∀ j, Al (f j) (h j)) (a : Int) (nxe : Bool) : ∀ (n : Nat), n ≤ 4 → ∀ (t : Int) (W U X : Bool), AlP (walkZ 16 f a nxe n t W U X) (walkZ 16 h a nxe n t W U X)
  | 0, _, t, W, U, X => by rw [walk_off (by omega), walk_off (by omega)]; exact AlP.refl _
  | n + 1, hn, t, W, U, X => by
    rw [walk_in (by omega) (by omega), walk_in (by omega) (by omega)]
    by_cases he : errS 16 (slotF t a ((n + 1 : Nat) : Int)) = 0
    · rw [if_pos he, if_pos he]
      have hx := hA (slotF t a ((n + 1 : Nat) : Int) / 8)
      refine alp_cons ?_ (al_bare hx)
      generalize f (slotF t a ((n + 1 : Nat) : Int) / 8) = x at *
      generalize h (slotF t a ((n + 1 : Nat) : Int) / 8) = y at *
      have e0 := al_bit hx 0 (Or.inr (by omega))
      have e1 := al_bit hx 1 (Or.inr (by omega))
      have e2 := al_bit hx 2 (Or.inr (by omega))
      have e63 := al_bit hx 63 (Or.inl (by omega))
      unfold onP
      rw [e0, e1, e2, e63, al_res hx, al_leaf hx, al_frame hx, al_table hx]
      split
      · exact AlP.refl _
      · split
        · exact AlP.refl _
        · split
          · exact AlP.refl _
          · rw [show (((n + 1 : Nat) : Int)) - 1 = (n : Int) by omega]
            exact walk_alike hA a nxe n (by omega) _ _ _ _
    · rw [if_neg he, if_neg he]; exact AlP.refl _

/-- two memories that turn by turns -/
structure Par (w wr : World) (mk : Nat) (h : Int → Int) (tk : List Int) (nk : Nat) (G : Nat → Prop) (m : Nat) (f : Int → Int) (tm : List Int) (nm : Nat) (H : Nat → Prop) : Prop where
  k : Wk w wr (From w.heap.size) mk 16 h tk nk G
  m : Wk w wr (From w.heap.size) m 16 f tm nm H
  free : ∀ i, G i → ¬ H i
  sh : Shifts wr

section
variable {w wr w3 w4 : World} {mk m nk nm nk' : Nat} {h h' f : Int → Int} {tk tk' tm : List Int} {G G' H : Nat → Prop}
theorem Par.swap (p : Par w wr mk h tk nk G m f tm nm H) : Par w wr m f tm nm H mk h tk nk G := ⟨p.m, p.k, fun i hi hg => p.free i hg hi, p.sh⟩
theorem Par.quiet (p : Par w wr mk h tk nk G m f tm nm H) (hb : Below wr.heap.size wr w3) : Par w w3 mk h tk nk G m f tm nm H := ⟨p.k.quiet hb, p.m.quiet hb, p.free, shifts_under p.sh hb (size_shifts p.sh)⟩
theorem Par.step (p : Par w wr mk h tk nk G m f tm nm H) (hz : 1 < w.heap.size) (s : Wk wr w4 G mk 16 h' tk' nk' G') : Par w w4 mk h' tk' nk' G' m f tm nm H :=
  ⟨p.k.join s, p.m.other s.turn (fun i _ hg hh => p.free i hg hh) (fun i hi => (p.k.foot i hi).2), fun i hg hh => by
    rcases (s.foot i hg).2 with h1 | h1
    · exact p.free i h1 hh
    · have := (p.m.foot i hh).1; omega, shifts_turn p.sh s.turn (p.k.no0 hz)⟩
end

/-- a path in a variable, beside blocks that turn -/
structure Pat (wr : World) (b : Nat) (v : Value) (P : Pth) (G H : Nat → Prop) : Prop where
  box : Blk wr b (pathCells v P) 37
  nb : ¬ G b ∧ ¬ H b
  own : StepsOwn 99 wr 0 v P.steps
  nv : ∀ i, v.ownBlock = some i → ¬ G i ∧ ¬ H i

section
variable {w wr w3 w4 : World} {B b mk m nk nm nk' : Nat} {v : Value} {P : Pth} {h h' f : Int → Int} {tk tk' tm : List Int} {G G' H : Nat → Prop}
theorem Pat.swap (p : Pat wr b v P G H) : Pat wr b v P H G := ⟨p.box, ⟨p.nb.2, p.nb.1⟩, p.own, fun i hi => ⟨(p.nv i hi).2, (p.nv i hi).1⟩⟩
theorem Pat.quiet (p : Pat wr b v P G H) (hb : Below wr.heap.size wr w3) : Pat w3 b v P G H := ⟨p.box.below hb, p.nb, p.own.below hb, p.nv⟩
theorem Pat.step (p : Pat wr b v P G H) (s : Wk wr w4 G mk 16 h' tk' nk' G') : Pat w4 b v P G' H :=
  ⟨p.box.turn s.turn p.nb.1, ⟨s.free p.nb.1 p.box.lt, p.nb.2⟩, p.own.turn s.turn (fun i hi => (p.nv i hi).1), fun i hi => ⟨s.free (p.nv i hi).1 (p.own.lt hi).2, (p.nv i hi).2⟩⟩
/-- a path that a walk through the memory mk answered is laid in a new variable -/
theorem Pat.new (q : Par w wr mk h tk nk G m f tm nm H) (hs : StepsOwn 99 wr B v P.steps) (hv : ∀ i, v.ownBlock = some i → ¬ G i) (hH : ∀ i, v.ownBlock = some i → ¬ H i) :
    Pat (wr.alloc (.cells (pathCells v P) 37)) wr.heap.size v P G H :=
  ⟨Blk.new _ _ _, ⟨fun hg => by have := (q.k.foot _ hg).1; omega, fun hg => by have := (q.m.foot _ hg).1; omega⟩, (hs.down (Nat.zero_le _)).below (below_alloc1 _ _), fun i hi => ⟨hv i hi, hH i hi⟩⟩
end

/-- Same of two walks that are alike -/
theorem same_alike {w : World} {P Q : Pth} (h : AlP P Q) (A A' : Option Addr) (c c' : Nat) (hl : P.steps.length ≤ maxLen) (h1 : StepsIn w (.slice A P.steps.length c) P.steps) (h2 : StepsIn w (.slice A' Q.steps.length c') Q.steps) :
    Calls Tryz.prog 22 #[pathV (.slice A P.steps.length c) P.why P.W P.U P.X P.lev P.fr, pathV (.slice A' Q.steps.length c') Q.why Q.W Q.U Q.X Q.lev Q.fr] w fun e w' => e = .returned (.bool true) ∧ Below w.heap.size w w' := by
  rw [← h.why, ← h.W, ← h.U, ← h.X, ← h.lev, ← h.fr, ← h.len]
  rw [← h.len] at h2
  have := same_yes w A A' P.steps.length c c' P.steps Q.steps P.why P.W P.U P.X P.lev P.fr rfl h.len.symm h1 h2 hl
  rw [same_of _ h.at_] at this
  exact this
end Go.Proofs.YtopmmlcjlopmaaaGreatDoor
/- Layer 9, plain mathematics: where a translation leads; that it goes again as it went; what a code tells. Nothing of the program. -/
namespace Go.Proofs.YtopmmlcjlopmaaaGreatDoor
set_option linter.unusedVariables false
set_option linter.unusedSimpArgs false

theorem table_page (x : Int) : tableF x % 4096 = 0 := by unfold tableF; omega
theorem low_page {t : Int} (ht : t % 4096 = 0) (l : Int) : lowF t l % 4096 = 0 := by
  unfold lowF
  split
  · rfl
  · rename_i h
    unfold sizeF at h ⊢
    split
    · omega
    · split
      · omega
      · split
        · omega
        · omega
theorem frame_page (x l : Int) : frameF x l % 4096 = 0 := by
  have h1 := table_page x
  have h2 := low_page h1 l
  unfold frameF pageF
  split <;> omega

theorem walk_page (f : Int → Int) (a : Int) (nxe : Bool) : ∀ (n : Nat), n ≤ 4 → ∀ (t : Int) (W U X : Bool), (walkZ 16 f a nxe n t W U X).fr % 4096 = 0
  | 0, _, t, W, U, X => by rw [walk_off (by omega)]; rfl
  | n + 1, hn, t, W, U, X => by
    rw [walk_in (by omega) (by omega)]
    by_cases he : errS 16 (slotF t a ((n + 1 : Nat) : Int)) = 0
    · rw [if_pos he]
      generalize slotF t a ((n + 1 : Nat) : Int) = s
      generalize f (s / 8) = x
      show (onP 16 nxe ((n + 1 : Nat) : Int) x W U X (walkZ 16 f a nxe (((n + 1 : Nat) : Int) - 1))).fr % 4096 = 0
      cases hP : bitF x 0
      · rw [on_abs hP]; rfl
      · cases hR : resF x ((n + 1 : Nat) : Int) 16 nxe
        · cases hL : leafF x ((n + 1 : Nat) : Int)
          · rw [on_on hP hR hL, show (((n + 1 : Nat) : Int)) - 1 = (n : Int) by omega]
            exact walk_page f a nxe n (by omega) _ _ _ _
          · rw [on_leaf hP hR hL]; exact frame_page _ _
        · rw [on_res hP hR]; rfl
    · rw [if_neg he]; rfl

theorem low_same {a l : Int} (h0 : 0 ≤ a) (h1 : 1 ≤ l) (h3 : l ≤ 3) : lowF a l % 4096 = a % 4096 ∧ 0 ≤ lowF a l ∧ lowF a l < 1073741824 ∧ (l = 1 → lowF a l < 4096) := by
  obtain rfl | rfl | rfl : l = 1 ∨ l = 2 ∨ l = 3 := by omega
  · show a % 4096 % 4096 = _ ∧ 0 ≤ a % 4096 ∧ a % 4096 < _ ∧ (_ → a % 4096 < _); omega
  · show a % 2097152 % 4096 = _ ∧ 0 ≤ a % 2097152 ∧ a % 2097152 < _ ∧ (_ → a % 2097152 < _); omega
  · show a % 1073741824 % 4096 = _ ∧ 0 ≤ a % 1073741824 ∧ a % 1073741824 < _ ∧ (_ → a % 1073741824 < _); omega

/-- where a translation that doesn't fault leads -/
theorem jpa_facts {f : Int → Int} {P : Pth} {a : Int} (hs : Snd f 4 P) (hp : P.fr % 4096 = 0) (hy : P.why = 0) (ha : 0 ≤ a) : jpa P a % 4096 = a % 4096 ∧ 0 ≤ jpa P a ∧ (P.lev = 1 → jpa P a < 65536) ∧ jpa P a < 2147483648 := by
  obtain ⟨_, l1, l3, f0, f1⟩ := hs.yes hy
  have h := low_same ha l1 l3
  have e : jpa P a = P.fr + lowF a P.lev := wrap_in (by omega) (by omega)
  rw [e]
  refine ⟨by omega, by omega, fun h1 => ?_, by omega⟩
  have := h.2.2.2 h1
  omega

theorem mark_congr {M : Int} {f : Int → Int} {S T : List (Int × Int × Int)} {full : Bool} (hl : S.length = T.length) (h : ∀ i, i < S.length → (stepAt S i).2.1 = (stepAt T i).2.1) : ∀ k, k ≤ S.length → markN M f S full k = markN M f T full k
  | 0, _ => rfl
  | k + 1, hk => by
    show orS M (markN M f S full k) (stepAt S k).2.1 (flagN S.length full k) = orS M (markN M f T full k) (stepAt T k).2.1 (flagN T.length full k)
    rw [mark_congr hl h k (by omega), h k (by omega), hl]

/-- behind its marks a walk goes as it went, and what it would mark is marked -/
theorem again {f : Int → Int} {a : Int} {nxe d : Bool} {t : Int} {W U X : Bool} {P Q : Pth} (hw : ∀ s, W64 (f s)) (hP : walkZ 16 f a nxe 4 t W U X = P) (hQ : walkZ 16 (markN 16 f P.steps d P.steps.length) a nxe 4 t W U X = Q) :
    AlP P Q ∧ markN 16 (markN 16 f P.steps d P.steps.length) Q.steps d Q.steps.length = markN 16 f P.steps d P.steps.length := by
  have hA := walk_alike (f := f) (h := markN 16 f P.steps d P.steps.length) (fun j => (mark_up hw _).al hw j) a nxe 4 (by decide) t W U X
  rw [show ((4 : Nat) : Int) = 4 from rfl, hP, hQ] at hA
  refine ⟨hA, ?_⟩
  have h := mark_congr (M := 16) (f := markN 16 f P.steps d P.steps.length) (full := d) hA.len (fun i hi => (hA.at_ i hi).2.1) P.steps.length (Nat.le_refl _)
  rw [← hA.len, ← h]
  exact mark_twice hw

theorem alp_jmay {P Q : Pth} (h : AlP P Q) (u : Usx) : jmay Q u = jmay P u := by unfold jmay; rw [h.why, h.W, h.U, h.X]
theorem alp_jpa {P Q : Pth} (h : AlP P Q) (a : Int) : jpa Q a = jpa P a := by unfold jpa; rw [h.lev, h.fr]

theorem code_parts (p s u r f : Bool) : (codeF p s u r f).tmod 2 = oneF p 1 ∧ ((codeF p s u r f).tdiv 8).tmod 2 = oneF r 1 ∧ ((codeF p s u r f).tdiv 2).tmod 2 = oneF s 1 ∧ 0 ≤ codeF p s u r f ∧ codeF p s u r f < 32 := by
  cases p <;> cases s <;> cases u <;> cases r <;> cases f <;> decide
theorem one_is0 (b : Bool) : (oneF b 1 == 0) = !b := by cases b <;> rfl
theorem one_is1 (b : Bool) : (oneF b 1 == 1) = b := by cases b <;> rfl
end Go.Proofs.YtopmmlcjlopmaaaGreatDoor
