/- Several texts of ours in one: Nh, Nk, Nm. -/
import Derived.Test.YtmglikmphddicaaDoorGEsNgGs
import Derived.Test.YtmglikmphddicaaDoorGNfNdNe
/- Layer 12: the document's Run. (Laid by tools/gen_nh.py.) -/
namespace Go.Proofs.YtmglikmphddicaaDoor
set_option linter.unusedVariables false
set_option linter.unusedSimpArgs false
open Go.ChangeShapes Go.WideShapes Go.ChangeAt Go.RowKit Go.Joins

set_option maxRecDepth 100000 in
theorem rrun_neg (s : Sn) (w : World) (h : s.a < 0) : Calls Tryd.prog 12 #[seenV s] w (RunPost s w) := by
  unfold RunPost
  rw [run_no (okRun_out (by omega))]
  have n0 : decide (s.a < 0) = true := by simp [h]
  have H0 := Lib.hid (((Mine.start w).new (b := w.heap.size) rfl (seenC s) 38).new (b := w.heap.size + 1) (by simp) zeroC 31)
  clear h
  go_enter Tryd.func12, Tryd.ntmps12
  go_upto_region 1 with fail
  generalize hw0 : (w.alloc _).alloc _ = w0
  have H1 := Lib.hid (H0.out.world hw0)
  clear hw0 H0
  refine wp_region_held_drew (S := fun w' => Mine w w' [⟨w.heap.size + 1, zeroC, 31⟩, ⟨w.heap.size, seenC s, 38⟩] []) (by kernel_rfl) (H1.out.quiet (Kept.drew0 _)) (fun hHeld => ?_)
  have H2 := Lib.hid (H1.out.quiet (Kept.drew0 _))
  clear H1
  generalize w0.drew = w2 at *
  refine tk (v := ?_) 0 ?_ ?_
  rotate_left
  · intro w hSw
    go_simp
    (try with_reducible rfl)
  (try simp only [Act.put, List.setIfInBounds_toArray, List.set_cons_zero, List.set_cons_succ])
  refine tk (v := ?_) 1 ?_ ?_
  rotate_left
  · intro w hSw
    have r8 := (cell_of_block (hSw.at_ 1 rfl) 8).trans (show (seenC s)[8]? = some (.int .i64 s.a) from rfl)
    go_simp
    (try with_reducible rfl)
  (try simp only [Act.put, List.setIfInBounds_toArray, List.set_cons_zero, List.set_cons_succ])
  refine tk (v := ?_) 2 ?_ ?_
  rotate_left
  · intro w hSw
    go_simp
    (try with_reducible rfl)
  (try simp only [Act.put, List.setIfInBounds_toArray, List.set_cons_zero, List.set_cons_succ])
  refine tk (v := ?_) 3 ?_ ?_
  rotate_left
  · intro w hSw
    go_simp
    (try with_reducible rfl)
  (try simp only [Act.put, List.setIfInBounds_toArray, List.set_cons_zero, List.set_cons_succ])
  refine sk 4 ?_
  (try simp only [Act.put, List.setIfInBounds_toArray, List.set_cons_zero, List.set_cons_succ])
  refine sk 5 ?_
  (try simp only [Act.put, List.setIfInBounds_toArray, List.set_cons_zero, List.set_cons_succ])
  refine sk 6 ?_
  (try simp only [Act.put, List.setIfInBounds_toArray, List.set_cons_zero, List.set_cons_succ])
  refine tk (v := ?_) 7 ?_ ?_
  rotate_left
  · intro w hSw
    go_simp
    (try with_reducible rfl)
  (try simp only [Act.put, List.setIfInBounds_toArray, List.set_cons_zero, List.set_cons_succ])
  refine tk (v := ?_) 8 ?_ ?_
  rotate_left
  · intro w hSw
    go_simp
    (try with_reducible rfl)
  (try simp only [Act.put, List.setIfInBounds_toArray, List.set_cons_zero, List.set_cons_succ])
  refine sk 9 ?_
  (try simp only [Act.put, List.setIfInBounds_toArray, List.set_cons_zero, List.set_cons_succ])
  refine sk 10 ?_
  (try simp only [Act.put, List.setIfInBounds_toArray, List.set_cons_zero, List.set_cons_succ])
  refine sk 11 ?_
  (try simp only [Act.put, List.setIfInBounds_toArray, List.set_cons_zero, List.set_cons_succ])
  refine sk 12 ?_
  (try simp only [Act.put, List.setIfInBounds_toArray, List.set_cons_zero, List.set_cons_succ])
  refine sk 13 ?_
  (try simp only [Act.put, List.setIfInBounds_toArray, List.set_cons_zero, List.set_cons_succ])
  refine sk 14 ?_
  (try simp only [Act.put, List.setIfInBounds_toArray, List.set_cons_zero, List.set_cons_succ])
  refine sk 15 ?_
  (try simp only [Act.put, List.setIfInBounds_toArray, List.set_cons_zero, List.set_cons_succ])
  refine sk 16 ?_
  (try simp only [Act.put, List.setIfInBounds_toArray, List.set_cons_zero, List.set_cons_succ])
  refine tk (v := ?_) 17 ?_ ?_
  rotate_left
  · intro w hSw
    go_simp
    (try with_reducible rfl)
  (try simp only [Act.put, List.setIfInBounds_toArray, List.set_cons_zero, List.set_cons_succ])
  refine wpAnyH_done (by kernel_rfl) ?_ _
  clear hHeld
  have H9 := H2
  clear H2
  generalize w2 = w9 at *
  have f0 := (H9.out.at_ 0 rfl).fz 0; have f1 := (H9.out.at_ 0 rfl).fz 1; have f2 := (H9.out.at_ 0 rfl).fz 2; have f3 := (H9.out.at_ 0 rfl).fz 3; have f4 := (H9.out.at_ 0 rfl).fz 4; have f5 := (H9.out.at_ 0 rfl).fz 5
  obtain ⟨q0, q1, q2, q3, q4, q5⟩ := (H9.out.at_ 0 rfl).line6
  go_wp2
  have H4 := H9.out.put6 0 rfl (y0 := .int .u64 0) (y1 := .bool false) (y2 := .bool false) (y3 := .bool false) (y4 := .bool false) (y5 := .int .u8 0) rfl
  exact bodyPost_ret (results_cell_row rfl _ _ (w.heap.size + 1) _ _ _ _ rfl (H4.at_ 0 rfl) Tryd.underlying31 rfl rfl) rfl ⟨rfl, H4.below⟩

set_option maxRecDepth 100000 in
theorem rrun_big (s : Sn) (w : World) (h : 7 < s.a) : Calls Tryd.prog 12 #[seenV s] w (RunPost s w) := by
  unfold RunPost
  rw [run_no (okRun_out (by omega))]
  have n0 : decide (s.a < 0) = false := by simp; omega
  have n7 : decide (s.a > 7) = true := by simp; omega
  have m7 : decide (7 < s.a) = true := by simp; omega
  have H0 := Lib.hid (((Mine.start w).new (b := w.heap.size) rfl (seenC s) 38).new (b := w.heap.size + 1) (by simp) zeroC 31)
  clear h
  go_enter Tryd.func12, Tryd.ntmps12
  go_upto_region 1 with fail
  generalize hw0 : (w.alloc _).alloc _ = w0
  have H1 := Lib.hid (H0.out.world hw0)
  clear hw0 H0
  refine wp_region_held_drew (S := fun w' => Mine w w' [⟨w.heap.size + 1, zeroC, 31⟩, ⟨w.heap.size, seenC s, 38⟩] []) (by kernel_rfl) (H1.out.quiet (Kept.drew0 _)) (fun hHeld => ?_)
  have H2 := Lib.hid (H1.out.quiet (Kept.drew0 _))
  clear H1
  generalize w0.drew = w2 at *
  refine tk (v := ?_) 0 ?_ ?_
  rotate_left
  · intro w hSw
    go_simp
    (try with_reducible rfl)
  (try simp only [Act.put, List.setIfInBounds_toArray, List.set_cons_zero, List.set_cons_succ])
  refine tk (v := ?_) 1 ?_ ?_
  rotate_left
  · intro w hSw
    have r8 := (cell_of_block (hSw.at_ 1 rfl) 8).trans (show (seenC s)[8]? = some (.int .i64 s.a) from rfl)
    go_simp
    (try with_reducible rfl)
  (try simp only [Act.put, List.setIfInBounds_toArray, List.set_cons_zero, List.set_cons_succ])
  refine tk (v := ?_) 2 ?_ ?_
  rotate_left
  · intro w hSw
    go_simp
    (try with_reducible rfl)
  (try simp only [Act.put, List.setIfInBounds_toArray, List.set_cons_zero, List.set_cons_succ])
  refine tk (v := ?_) 3 ?_ ?_
  rotate_left
  · intro w hSw
    go_simp
    (try with_reducible rfl)
  (try simp only [Act.put, List.setIfInBounds_toArray, List.set_cons_zero, List.set_cons_succ])
  refine tk (v := ?_) 4 ?_ ?_
  rotate_left
  · intro w hSw
    go_simp
    (try with_reducible rfl)
  (try simp only [Act.put, List.setIfInBounds_toArray, List.set_cons_zero, List.set_cons_succ])
  refine tk (v := ?_) 5 ?_ ?_
  rotate_left
  · intro w hSw
    have r8 := (cell_of_block (hSw.at_ 1 rfl) 8).trans (show (seenC s)[8]? = some (.int .i64 s.a) from rfl)
    go_simp
    (try with_reducible rfl)
  (try simp only [Act.put, List.setIfInBounds_toArray, List.set_cons_zero, List.set_cons_succ])
  refine tk (v := ?_) 6 ?_ ?_
  rotate_left
  · intro w hSw
    go_simp
    (try with_reducible rfl)
  (try simp only [Act.put, List.setIfInBounds_toArray, List.set_cons_zero, List.set_cons_succ])
  refine tk (v := ?_) 7 ?_ ?_
  rotate_left
  · intro w hSw
    go_simp
    (try with_reducible rfl)
  (try simp only [Act.put, List.setIfInBounds_toArray, List.set_cons_zero, List.set_cons_succ])
  refine tk (v := ?_) 8 ?_ ?_
  rotate_left
  · intro w hSw
    go_simp
    (try with_reducible rfl)
  (try simp only [Act.put, List.setIfInBounds_toArray, List.set_cons_zero, List.set_cons_succ])
  refine sk 9 ?_
  (try simp only [Act.put, List.setIfInBounds_toArray, List.set_cons_zero, List.set_cons_succ])
  refine sk 10 ?_
  (try simp only [Act.put, List.setIfInBounds_toArray, List.set_cons_zero, List.set_cons_succ])
  refine sk 11 ?_
  (try simp only [Act.put, List.setIfInBounds_toArray, List.set_cons_zero, List.set_cons_succ])
  refine sk 12 ?_
  (try simp only [Act.put, List.setIfInBounds_toArray, List.set_cons_zero, List.set_cons_succ])
  refine sk 13 ?_
  (try simp only [Act.put, List.setIfInBounds_toArray, List.set_cons_zero, List.set_cons_succ])
  refine sk 14 ?_
  (try simp only [Act.put, List.setIfInBounds_toArray, List.set_cons_zero, List.set_cons_succ])
  refine sk 15 ?_
  (try simp only [Act.put, List.setIfInBounds_toArray, List.set_cons_zero, List.set_cons_succ])
  refine sk 16 ?_
  (try simp only [Act.put, List.setIfInBounds_toArray, List.set_cons_zero, List.set_cons_succ])
  refine tk (v := ?_) 17 ?_ ?_
  rotate_left
  · intro w hSw
    go_simp
    (try with_reducible rfl)
  (try simp only [Act.put, List.setIfInBounds_toArray, List.set_cons_zero, List.set_cons_succ])
  refine wpAnyH_done (by kernel_rfl) ?_ _
  clear hHeld
  have H9 := H2
  clear H2
  generalize w2 = w9 at *
  have f0 := (H9.out.at_ 0 rfl).fz 0; have f1 := (H9.out.at_ 0 rfl).fz 1; have f2 := (H9.out.at_ 0 rfl).fz 2; have f3 := (H9.out.at_ 0 rfl).fz 3; have f4 := (H9.out.at_ 0 rfl).fz 4; have f5 := (H9.out.at_ 0 rfl).fz 5
  obtain ⟨q0, q1, q2, q3, q4, q5⟩ := (H9.out.at_ 0 rfl).line6
  go_wp2
  have H4 := H9.out.put6 0 rfl (y0 := .int .u64 0) (y1 := .bool false) (y2 := .bool false) (y3 := .bool false) (y4 := .bool false) (y5 := .int .u8 0) rfl
  exact bodyPost_ret (results_cell_row rfl _ _ (w.heap.size + 1) _ _ _ _ rfl (H4.at_ 0 rfl) Tryd.underlying31 rfl rfl) rfl ⟨rfl, H4.below⟩

set_option maxRecDepth 100000 in
set_option maxHeartbeats 3200000 in
theorem rrun_bare (s : Sn) (w : World) (hs : OkS s) (a0 : 0 ≤ s.a) (a7 : s.a ≤ 7) (hm : mapW (thW s.X s.a) s.b s.n = false) : Calls Tryd.prog 12 #[seenV s] w (RunPost s w) := by
  unfold RunPost
  rw [run_no ((okRun_in a0 a7).trans hm)]
  have HS := Lib.hid hs
  have hx := hs.at_ s.a
  have a8 : s.a < 8 := by omega
  have n0 : decide (s.a < 0) = false := by simp; omega
  have n7 : decide (s.a > 7) = false := by simp; omega
  have m7 : decide (7 < s.a) = false := by simp; omega
  obtain ⟨xa, hxa⟩ : ∃ x, thW s.X s.a = x := ⟨_, rfl⟩
  rw [hxa] at hx hm
  have HX := Lib.hid hxa
  have HM := Lib.hid hm
  have H0 := Lib.hid (((Mine.start w).new (b := w.heap.size) rfl (seenC s) 38).new (b := w.heap.size + 1) (by simp) zeroC 31)
  clear hm hs
  go_enter Tryd.func12, Tryd.ntmps12
  go_upto_region 1 with fail
  generalize hw0 : (w.alloc _).alloc _ = w0
  have H1 := Lib.hid (H0.out.world hw0)
  clear hw0 H0
  refine wp_region_held_drew (S := fun w' => Mine w w' [⟨w.heap.size + 1, zeroC, 31⟩, ⟨w.heap.size, seenC s, 38⟩] []) (by kernel_rfl) (H1.out.quiet (Kept.drew0 _)) (fun hHeld => ?_)
  have H2 := Lib.hid (H1.out.quiet (Kept.drew0 _))
  clear H1
  generalize w0.drew = w2 at *
  refine tk (v := ?_) 0 ?_ ?_
  rotate_left
  · intro w hSw
    go_simp
    (try with_reducible rfl)
  (try simp only [Act.put, List.setIfInBounds_toArray, List.set_cons_zero, List.set_cons_succ])
  refine tk (v := ?_) 1 ?_ ?_
  rotate_left
  · intro w hSw
    have r8 := (cell_of_block (hSw.at_ 1 rfl) 8).trans (show (seenC s)[8]? = some (.int .i64 s.a) from rfl)
    go_simp
    (try with_reducible rfl)
  (try simp only [Act.put, List.setIfInBounds_toArray, List.set_cons_zero, List.set_cons_succ])
  refine tk (v := ?_) 2 ?_ ?_
  rotate_left
  · intro w hSw
    go_simp
    (try with_reducible rfl)
  (try simp only [Act.put, List.setIfInBounds_toArray, List.set_cons_zero, List.set_cons_succ])
  refine tk (v := ?_) 3 ?_ ?_
  rotate_left
  · intro w hSw
    go_simp
    (try with_reducible rfl)
  (try simp only [Act.put, List.setIfInBounds_toArray, List.set_cons_zero, List.set_cons_succ])
  refine tk (v := ?_) 4 ?_ ?_
  rotate_left
  · intro w hSw
    go_simp
    (try with_reducible rfl)
  (try simp only [Act.put, List.setIfInBounds_toArray, List.set_cons_zero, List.set_cons_succ])
  refine tk (v := ?_) 5 ?_ ?_
  rotate_left
  · intro w hSw
    have r8 := (cell_of_block (hSw.at_ 1 rfl) 8).trans (show (seenC s)[8]? = some (.int .i64 s.a) from rfl)
    go_simp
    (try with_reducible rfl)
  (try simp only [Act.put, List.setIfInBounds_toArray, List.set_cons_zero, List.set_cons_succ])
  refine tk (v := ?_) 6 ?_ ?_
  rotate_left
  · intro w hSw
    go_simp
    (try with_reducible rfl)
  (try simp only [Act.put, List.setIfInBounds_toArray, List.set_cons_zero, List.set_cons_succ])
  refine tk (v := ?_) 7 ?_ ?_
  rotate_left
  · intro w hSw
    go_simp
    (try with_reducible rfl)
  (try simp only [Act.put, List.setIfInBounds_toArray, List.set_cons_zero, List.set_cons_succ])
  refine tk (v := ?_) 8 ?_ ?_
  rotate_left
  · intro w hSw
    go_simp
    (try with_reducible rfl)
  (try simp only [Act.put, List.setIfInBounds_toArray, List.set_cons_zero, List.set_cons_succ])
  refine tk (v := ?_) 9 ?_ ?_
  rotate_left
  · intro w hSw
    obtain ⟨c0, c1, c2, c3, c4, c5, c6, c7, c8, c9, c10, c11, c12, c13⟩ := (hSw.at_ 1 rfl).seen
    go_simp
    (try with_reducible rfl)
  (try simp only [Act.put, List.setIfInBounds_toArray, List.set_cons_zero, List.set_cons_succ])
  refine tk (v := ?_) 10 ?_ ?_
  rotate_left
  · intro w hSw
    go_simp
    (try with_reducible rfl)
  (try simp only [Act.put, List.setIfInBounds_toArray, List.set_cons_zero, List.set_cons_succ])
  refine tk (v := ?_) 11 ?_ ?_
  rotate_left
  · intro w hSw
    have r8 := (cell_of_block (hSw.at_ 1 rfl) 8).trans (show (seenC s)[8]? = some (.int .i64 s.a) from rfl)
    go_simp
    (try with_reducible rfl)
  (try simp only [Act.put, List.setIfInBounds_toArray, List.set_cons_zero, List.set_cons_succ])
  refine tk (v := ?_) 12 ?_ ?_
  rotate_left
  · intro w hSw
    go_simp
    (try with_reducible rfl)
  (try simp only [Act.put, List.setIfInBounds_toArray, List.set_cons_zero, List.set_cons_succ])
  refine tk (v := ?_) 13 ?_ ?_
  rotate_left
  · intro w hSw
    go_simp
    (try with_reducible rfl)
  (try simp only [Act.put, List.setIfInBounds_toArray, List.set_cons_zero, List.set_cons_succ])
  refine tk (v := ?_) 14 ?_ ?_
  rotate_left
  · intro w hSw
    have ri := seen_word (hSw.at_ 1 rfl) a0 a7
    rw [HX.out] at ri
    go_simp
    (try with_reducible rfl)
  (try simp only [Act.put, List.setIfInBounds_toArray, List.set_cons_zero, List.set_cons_succ])
  refine wpAnyH_ready (rs := [15]) (by kernel_rfl) (by simp) ?_
  refine anyH_one rfl (fun K hK => ?_) ?_
  · go_simp
    refine (rmayG_any s _ _ hx).mono ?_
    rw [HM.out]
    rintro e w3 ⟨rfl, hB3⟩
    have H3 := Lib.hid (H2.out.quiet hB3)
    clear H2
    refine hK.out _ _ (H3.out.pick [0, 1] []) (fun hHeld => ?_)
    clear hK K
    (try simp only [Act.put, List.setIfInBounds_toArray, List.set_cons_zero, List.set_cons_succ])
    refine tk (v := ?_) 16 ?_ ?_
    rotate_left
    · intro w hSw
      go_simp
      (try with_reducible rfl)
    (try simp only [Act.put, List.setIfInBounds_toArray, List.set_cons_zero, List.set_cons_succ])
    refine tk (v := ?_) 17 ?_ ?_
    rotate_left
    · intro w hSw
      go_simp
      (try with_reducible rfl)
    (try simp only [Act.put, List.setIfInBounds_toArray, List.set_cons_zero, List.set_cons_succ])
    refine wpAnyH_done (by kernel_rfl) ?_ _
    clear hHeld
    have H9 := H3
    clear H3
    generalize w3 = w9 at *
    have f0 := (H9.out.at_ 0 rfl).fz 0; have f1 := (H9.out.at_ 0 rfl).fz 1; have f2 := (H9.out.at_ 0 rfl).fz 2; have f3 := (H9.out.at_ 0 rfl).fz 3; have f4 := (H9.out.at_ 0 rfl).fz 4; have f5 := (H9.out.at_ 0 rfl).fz 5
    obtain ⟨q0, q1, q2, q3, q4, q5⟩ := (H9.out.at_ 0 rfl).line6
    go_wp2
    have H4 := H9.out.put6 0 rfl (y0 := .int .u64 0) (y1 := .bool false) (y2 := .bool false) (y3 := .bool false) (y4 := .bool false) (y5 := .int .u8 0) rfl
    exact bodyPost_ret (results_cell_row rfl _ _ (w.heap.size + 1) _ _ _ _ rfl (H4.at_ 0 rfl) Tryd.underlying31 rfl rfl) rfl ⟨rfl, H4.below⟩
  exact AllReadyH.nil

set_option maxRecDepth 100000 in
set_option maxHeartbeats 3200000 in
theorem rrun_full (s : Sn) (w : World) (hs : OkS s) (a0 : 0 ≤ s.a) (a7 : s.a ≤ 7) (hm : mapW (thW s.X s.a) s.b s.n = true) : Calls Tryd.prog 12 #[seenV s] w (RunPost s w) := by
  unfold RunPost
  rw [run_yes ((okRun_in a0 a7).trans hm)]
  have HS := Lib.hid hs
  have hx := hs.at_ s.a
  have a8 : s.a < 8 := by omega
  have n0 : decide (s.a < 0) = false := by simp; omega
  have n7 : decide (s.a > 7) = false := by simp; omega
  have m7 : decide (7 < s.a) = false := by simp; omega
  obtain ⟨xa, hxa⟩ : ∃ x, thW s.X s.a = x := ⟨_, rfl⟩
  rw [hxa] at hx hm
  have HX := Lib.hid hxa
  have HM := Lib.hid hm
  have HF := Lib.hid (frm_doc (tableF xa) s.a)
  have H0 := Lib.hid (((Mine.start w).new (b := w.heap.size) rfl (seenC s) 38).new (b := w.heap.size + 1) (by simp) zeroC 31)
  clear hm hs
  go_enter Tryd.func12, Tryd.ntmps12
  go_upto_region 1 with fail
  generalize hw0 : (w.alloc _).alloc _ = w0
  have H1 := Lib.hid (H0.out.world hw0)
  clear hw0 H0
  refine wp_region_held_drew (S := fun w' => Mine w w' [⟨w.heap.size + 1, zeroC, 31⟩, ⟨w.heap.size, seenC s, 38⟩] []) (by kernel_rfl) (H1.out.quiet (Kept.drew0 _)) (fun hHeld => ?_)
  have H2 := Lib.hid (H1.out.quiet (Kept.drew0 _))
  clear H1
  generalize w0.drew = w2 at *
  refine tk (v := ?_) 0 ?_ ?_
  rotate_left
  · intro w hSw
    go_simp
    (try with_reducible rfl)
  (try simp only [Act.put, List.setIfInBounds_toArray, List.set_cons_zero, List.set_cons_succ])
  refine tk (v := ?_) 1 ?_ ?_
  rotate_left
  · intro w hSw
    have r8 := (cell_of_block (hSw.at_ 1 rfl) 8).trans (show (seenC s)[8]? = some (.int .i64 s.a) from rfl)
    go_simp
    (try with_reducible rfl)
  (try simp only [Act.put, List.setIfInBounds_toArray, List.set_cons_zero, List.set_cons_succ])
  refine tk (v := ?_) 2 ?_ ?_
  rotate_left
  · intro w hSw
    go_simp
    (try with_reducible rfl)
  (try simp only [Act.put, List.setIfInBounds_toArray, List.set_cons_zero, List.set_cons_succ])
  refine tk (v := ?_) 3 ?_ ?_
  rotate_left
  · intro w hSw
    go_simp
    (try with_reducible rfl)
  (try simp only [Act.put, List.setIfInBounds_toArray, List.set_cons_zero, List.set_cons_succ])
  refine tk (v := ?_) 4 ?_ ?_
  rotate_left
  · intro w hSw
    go_simp
    (try with_reducible rfl)
  (try simp only [Act.put, List.setIfInBounds_toArray, List.set_cons_zero, List.set_cons_succ])
  refine tk (v := ?_) 5 ?_ ?_
  rotate_left
  · intro w hSw
    have r8 := (cell_of_block (hSw.at_ 1 rfl) 8).trans (show (seenC s)[8]? = some (.int .i64 s.a) from rfl)
    go_simp
    (try with_reducible rfl)
  (try simp only [Act.put, List.setIfInBounds_toArray, List.set_cons_zero, List.set_cons_succ])
  refine tk (v := ?_) 6 ?_ ?_
  rotate_left
  · intro w hSw
    go_simp
    (try with_reducible rfl)
  (try simp only [Act.put, List.setIfInBounds_toArray, List.set_cons_zero, List.set_cons_succ])
  refine tk (v := ?_) 7 ?_ ?_
  rotate_left
  · intro w hSw
    go_simp
    (try with_reducible rfl)
  (try simp only [Act.put, List.setIfInBounds_toArray, List.set_cons_zero, List.set_cons_succ])
  refine tk (v := ?_) 8 ?_ ?_
  rotate_left
  · intro w hSw
    go_simp
    (try with_reducible rfl)
  (try simp only [Act.put, List.setIfInBounds_toArray, List.set_cons_zero, List.set_cons_succ])
  refine tk (v := ?_) 9 ?_ ?_
  rotate_left
  · intro w hSw
    obtain ⟨c0, c1, c2, c3, c4, c5, c6, c7, c8, c9, c10, c11, c12, c13⟩ := (hSw.at_ 1 rfl).seen
    go_simp
    (try with_reducible rfl)
  (try simp only [Act.put, List.setIfInBounds_toArray, List.set_cons_zero, List.set_cons_succ])
  refine tk (v := ?_) 10 ?_ ?_
  rotate_left
  · intro w hSw
    go_simp
    (try with_reducible rfl)
  (try simp only [Act.put, List.setIfInBounds_toArray, List.set_cons_zero, List.set_cons_succ])
  refine tk (v := ?_) 11 ?_ ?_
  rotate_left
  · intro w hSw
    have r8 := (cell_of_block (hSw.at_ 1 rfl) 8).trans (show (seenC s)[8]? = some (.int .i64 s.a) from rfl)
    go_simp
    (try with_reducible rfl)
  (try simp only [Act.put, List.setIfInBounds_toArray, List.set_cons_zero, List.set_cons_succ])
  refine tk (v := ?_) 12 ?_ ?_
  rotate_left
  · intro w hSw
    go_simp
    (try with_reducible rfl)
  (try simp only [Act.put, List.setIfInBounds_toArray, List.set_cons_zero, List.set_cons_succ])
  refine tk (v := ?_) 13 ?_ ?_
  rotate_left
  · intro w hSw
    go_simp
    (try with_reducible rfl)
  (try simp only [Act.put, List.setIfInBounds_toArray, List.set_cons_zero, List.set_cons_succ])
  refine tk (v := ?_) 14 ?_ ?_
  rotate_left
  · intro w hSw
    have ri := seen_word (hSw.at_ 1 rfl) a0 a7
    rw [HX.out] at ri
    go_simp
    (try with_reducible rfl)
  (try simp only [Act.put, List.setIfInBounds_toArray, List.set_cons_zero, List.set_cons_succ])
  refine wpAnyH_ready (rs := [15]) (by kernel_rfl) (by simp) ?_
  refine anyH_one rfl (fun K hK => ?_) ?_
  · go_simp
    refine (rmayG_any s _ _ hx).mono ?_
    rw [HM.out]
    rintro e w3 ⟨rfl, hB3⟩
    have H3 := Lib.hid (H2.out.quiet hB3)
    clear H2
    refine hK.out _ _ (H3.out.pick [0, 1] []) (fun hHeld => ?_)
    clear hK K
    (try simp only [Act.put, List.setIfInBounds_toArray, List.set_cons_zero, List.set_cons_succ])
    refine tk (v := ?_) 16 ?_ ?_
    rotate_left
    · intro w hSw
      go_simp
      (try with_reducible rfl)
    (try simp only [Act.put, List.setIfInBounds_toArray, List.set_cons_zero, List.set_cons_succ])
    refine tk (v := ?_) 17 ?_ ?_
    rotate_left
    · intro w hSw
      go_simp
      (try with_reducible rfl)
    (try simp only [Act.put, List.setIfInBounds_toArray, List.set_cons_zero, List.set_cons_succ])
    refine wpAnyH_done (by kernel_rfl) ?_ _
    clear hHeld
    have H9 := H3
    clear H3
    generalize w3 = w9 at *
    have r8 := (cell_of_block (H9.out.at_ 1 rfl) 8).trans (show (seenC s)[8]? = some (.int .i64 s.a) from rfl)
    have ri := seen_word (H9.out.at_ 1 rfl) a0 a7
    rw [HX.out] at ri
    go_wp2
    clear ri r8
    go_loopw [4, 5] (fun u i wr => ∃ k : Nat, k ≤ 8 ∧ u = .int .u64 (runM s.X s.a s.b s.n k) ∧ i = .int .i64 k ∧ Hid (Mine w wr [⟨w.heap.size + 1, zeroC, 31⟩, ⟨w.heap.size, seenC s, 38⟩] [])) (fun _ i _ => (8 - intOf i).toNat)
    case atStart => exact ⟨0, by omega, rfl, rfl, H9⟩
    case round =>
      obtain ⟨k, hk, rfl, rfl, HR⟩ := hrel
      clear H9
      by_cases hlt : k < 8
      · have k0 : (0 : Int) ≤ k := by omega
        have k7 : (k : Int) ≤ 7 := by omega
        obtain ⟨c0, c1, c2, c3, c4, c5, c6, c7, c8, c9, c10, c11, c12, c13⟩ := (HR.out.at_ 1 rfl).seen
        have HTG := rtog_any s k wr HS.out a0 a7 k0 k7
        cases hg : togF s.X s.a s.b s.n k
        · rw [hg] at HTG
          have HN := Lib.hid (runM_no hg)
          clear hg
          go_wp2_with (go_at_call 31; refine HTG.mono ?_; rintro e w2 ⟨rfl, hb2⟩; have H2 := Lib.hid (HR.out.quiet hb2); clear hb2 HR)
          go_roundw
          case rel => exact ⟨k + 1, by omega, by rw [HN.out], by go_num, H2⟩
          case measure => simp [intOf]; omega
        · rw [hg] at HTG
          have HN := runM_add hlt hg
          clear hg
          have HPW := fun w' => power_any (k : Int) w' k0 (by omega)
          go_wp2_with (first | (go_at_call 31; refine HTG.mono ?_; rintro e w2 ⟨rfl, hb2⟩; have H2 := Lib.hid (HR.out.quiet hb2); clear hb2 HR) | (go_at_call 32; refine (HPW _).mono ?_; rintro e w' ⟨rfl, rfl⟩))
          go_roundw
          case rel => exact ⟨k + 1, by omega, rfl, by go_num, H2⟩
          case measure => simp [intOf]; omega
      · obtain rfl : k = 8 := by omega
        have HU := Lib.hid (runM_u8 s.X s.a s.b s.n)
        go_upto_region 10 with fail
        refine wp_region_held_drew (S := fun w' => Mine w w' [⟨w.heap.size, seenC s, 38⟩] []) (by kernel_rfl) ((HR.out.quiet (Kept.drew0 _)).pick [1] []) (fun hHeld => ?_)
        have H1 := Lib.hid (HR.out.quiet (Kept.drew0 _))
        clear HR
        generalize wr.drew = w1 at *
        refine tk (v := ?_) 0 ?_ ?_
        rotate_left
        · intro w hSw
          go_simp
          (try with_reducible rfl)
        (try simp only [Act.put, List.setIfInBounds_toArray, List.set_cons_zero, List.set_cons_succ])
        refine tk (v := ?_) 2 ?_ ?_
        rotate_left
        · intro w hSw
          go_simp
          (try with_reducible rfl)
        (try simp only [Act.put, List.setIfInBounds_toArray, List.set_cons_zero, List.set_cons_succ])
        refine tk (v := ?_) 3 ?_ ?_
        rotate_left
        · intro w hSw
          have r8 := (cell_of_block (hSw.at_ 0 rfl) 8).trans (show (seenC s)[8]? = some (.int .i64 s.a) from rfl)
          go_simp
          (try with_reducible rfl)
        (try simp only [Act.put, List.setIfInBounds_toArray, List.set_cons_zero, List.set_cons_succ])
        refine tk (v := ?_) 4 ?_ ?_
        rotate_left
        · intro w hSw
          go_simp
          (try with_reducible rfl)
        (try simp only [Act.put, List.setIfInBounds_toArray, List.set_cons_zero, List.set_cons_succ])
        refine tk (v := ?_) 5 ?_ ?_
        rotate_left
        · intro w hSw
          go_simp
          (try with_reducible rfl)
        (try simp only [Act.put, List.setIfInBounds_toArray, List.set_cons_zero, List.set_cons_succ])
        refine tk (v := ?_) 7 ?_ ?_
        rotate_left
        · intro w hSw
          go_simp
          (try with_reducible rfl)
        (try simp only [Act.put, List.setIfInBounds_toArray, List.set_cons_zero, List.set_cons_succ])
        refine tk (v := ?_) 8 ?_ ?_
        rotate_left
        · intro w hSw
          have r9 := (cell_of_block (hSw.at_ 0 rfl) 9).trans (show (seenC s)[9]? = some (.bool s.W) from rfl)
          have r10 := (cell_of_block (hSw.at_ 0 rfl) 10).trans (show (seenC s)[10]? = some (.bool s.U) from rfl)
          have r11 := (cell_of_block (hSw.at_ 0 rfl) 11).trans (show (seenC s)[11]? = some (.bool s.Y) from rfl)
          go_simp
          (try with_reducible rfl)
        (try simp only [Act.put, List.setIfInBounds_toArray, List.set_cons_zero, List.set_cons_succ])
        refine tk (v := ?_) 9 ?_ ?_
        rotate_left
        · intro w hSw
          go_simp
          (try with_reducible rfl)
        (try simp only [Act.put, List.setIfInBounds_toArray, List.set_cons_zero, List.set_cons_succ])
        refine tk (v := ?_) 11 ?_ ?_
        rotate_left
        · intro w hSw
          go_simp
          (try with_reducible rfl)
        (try simp only [Act.put, List.setIfInBounds_toArray, List.set_cons_zero, List.set_cons_succ])
        refine tk (v := ?_) 13 ?_ ?_
        rotate_left
        · intro w hSw
          go_simp
          (try with_reducible rfl)
        (try simp only [Act.put, List.setIfInBounds_toArray, List.set_cons_zero, List.set_cons_succ])
        refine tk (v := ?_) 14 ?_ ?_
        rotate_left
        · intro w hSw
          go_simp
          (try with_reducible rfl)
        (try simp only [Act.put, List.setIfInBounds_toArray, List.set_cons_zero, List.set_cons_succ])
        refine wpAnyH_ready (rs := [1]) (by kernel_rfl) (by simp) ?_
        refine anyH_one rfl (fun K hK => ?_) ?_
        · go_simp
          refine (callsB (rtable_any _ _ hx)).mono ?_
          rintro e w2 ⟨rfl, hB2⟩
          have H2 := Lib.hid (H1.out.quiet hB2)
          clear H1
          refine hK.out _ _ (H2.out.pick [1] []) (fun hHeld => ?_)
          clear hK K
          (try simp only [Act.put, List.setIfInBounds_toArray, List.set_cons_zero, List.set_cons_succ])
          refine tk (v := ?_) 6 ?_ ?_
          rotate_left
          · intro w hSw
            go_simp
            (try with_reducible rfl)
          (try simp only [Act.put, List.setIfInBounds_toArray, List.set_cons_zero, List.set_cons_succ])
          refine wpAnyH_ready (rs := [10]) (by kernel_rfl) (by simp) ?_
          refine anyH_one rfl (fun K hK => ?_) ?_
          · go_simp
            refine (rand_any _ _ _ _ _ hx).mono ?_
            rintro e w3 ⟨rfl, hB3⟩
            have H3 := Lib.hid (H2.out.quiet hB3)
            clear H2
            refine hK.out _ _ (H3.out.pick [1] []) (fun hHeld => ?_)
            clear hK K
            (try simp only [Act.put, List.setIfInBounds_toArray, List.set_cons_zero, List.set_cons_succ])
            refine wpAnyH_ready (rs := [12]) (by kernel_rfl) (by simp) ?_
            refine anyH_one rfl (fun K hK => ?_) ?_
            · go_simp
              refine (callsB (rbit_any _ _ _ hx)).mono ?_
              rintro e w4 ⟨rfl, hB4⟩
              have H4 := Lib.hid (H3.out.quiet hB4)
              clear H3
              refine hK.out _ _ (H4.out.pick [1] []) (fun hHeld => ?_)
              clear hK K
              (try simp only [Act.put, List.setIfInBounds_toArray, List.set_cons_zero, List.set_cons_succ])
              refine tk (v := ?_) 15 ?_ ?_
              rotate_left
              · intro w hSw
                go_simp
                (try with_reducible rfl)
              (try simp only [Act.put, List.setIfInBounds_toArray, List.set_cons_zero, List.set_cons_succ])
              refine wpAnyH_ready (rs := [16]) (by kernel_rfl) (by simp) ?_
              refine anyH_one rfl (fun K hK => ?_) ?_
              · obtain ⟨r0, r1, r2, r3, r4, r5⟩ := (H4.out.at_ 0 rfl).line6
                have s0 := (H4.out.at_ 0 rfl).fz 0; have s1 := (H4.out.at_ 0 rfl).fz 1; have s2 := (H4.out.at_ 0 rfl).fz 2; have s3 := (H4.out.at_ 0 rfl).fz 3; have s4 := (H4.out.at_ 0 rfl).fz 4; have s5 := (H4.out.at_ 0 rfl).fz 5
                go_simp
                rw [HF.out, HU.out]
                generalize hq5 : (((((w4.setCell _ _).setCell _ _).setCell _ _).setCell _ _).setCell _ _).setCell _ _ = w5
                have H5 := Lib.hid (H4.out.put6 0 rfl hq5)
                clear H4 hq5 r0 s0 r1 s1 r2 s2 r3 s3 r4 s4 r5 s5
                refine hK.out _ _ (H5.out.pick [1] []) (fun hHeld => ?_)
                clear hK K
                (try simp only [Act.put, List.setIfInBounds_toArray, List.set_cons_zero, List.set_cons_succ])
                refine wpAnyH_done (by kernel_rfl) ?_ _
                clear hHeld
                go_wp2
                exact bodyPost_ret (results_cell_row rfl _ _ (w.heap.size + 1) _ _ _ _ rfl (H5.out.at_ 0 rfl) Tryd.underlying31 rfl rfl) rfl ⟨ret_val (by rw [HX.out]), H5.out.below⟩
              exact AllReadyH.nil
            exact AllReadyH.nil
          exact AllReadyH.nil
        exact AllReadyH.nil
  exact AllReadyH.nil

theorem rrun_any (s : Sn) (w : World) (hs : OkS s) : Calls Tryd.prog 12 #[seenV s] w (RunPost s w) := by
  by_cases h0 : s.a < 0
  · exact rrun_neg s w h0
  · by_cases h7 : 7 < s.a
    · exact rrun_big s w h7
    · cases hm : mapW (thW s.X s.a) s.b s.n
      · exact rrun_bare s w hs (by omega) (by omega) hm
      · exact rrun_full s w hs (by omega) (by omega) hm
end Go.Proofs.YtmglikmphddicaaDoor
/- Layer 12: the document's Has and Without; lined, seen, word of the laws. -/
namespace Go.Proofs.YtmglikmphddicaaDoor
set_option linter.unusedVariables false
set_option linter.unusedSimpArgs false
open Go.ChangeShapes Go.WideShapes Go.ChangeAt Go.RowKit Go.Joins

theorem w64_u8 {m : Int} (h : U8 m) : W64 m := by obtain ⟨a, b⟩ := h; unfold W64; omega
theorem u64_u8 {m : Int} (h : U8 m) : IntKind.u64.wrap m = m := by obtain ⟨a, b⟩ := h; rw [IntKind.wrap_u64]; omega
theorem rhas_any (l : Ln) (i : Int) (w : World) (hl : OkL l) :
    Calls Tryd.prog 15 #[lineV l, .int .i64 i] w fun e w' => e = .returned (.tuple #[.int .u64 (atG l i), .bool (hasG l i)]) ∧ Below w.heap.size w w' := by
  by_cases h0 : i < 0
  · have e : hasG l i = false := has_out (by omega)
    rw [at_no e, e]
    clear e
    go_enter Tryd.func15, Tryd.ntmps15
    go_wp2
    go_ret2
    exact ⟨rfl, below_alloc1 _ _⟩
  · by_cases h7 : 7 < i
    · have e : hasG l i = false := has_out (by omega)
      rw [at_no e, e]
      clear e
      go_enter Tryd.func15, Tryd.ntmps15
      go_wp2
      go_ret2
      exact ⟨rfl, below_alloc1 _ _⟩
    · have em := u64_u8 hl
      have eb : bitF l.2.2.2.2.2 i = hasG l i := has_bit hl (by omega) (by omega)
      have HB := rbit_any l.2.2.2.2.2 i (w.alloc (.cells (lineC l) 31)) (w64_u8 hl)
      rw [eb] at HB
      cases e : hasG l i
      · rw [at_no e]
        rw [e] at HB
        clear e eb
        go_enter Tryd.func15, Tryd.ntmps15
        go_wp2_with (go_at_call 34; refine HB.mono ?_; rintro e w' ⟨rfl, rfl⟩)
        go_ret2
        exact ⟨rfl, below_alloc1 _ _⟩
      · rw [at_yes e]
        rw [e] at HB
        have hF : IntKind.u64.wrap (l.1 + 4096 * i) = frmF l.1 i := by unfold frmF; rw [IntKind.wrap_u64]
        clear e eb
        go_enter Tryd.func15, Tryd.ntmps15
        go_wp2_with (go_at_call 34; refine HB.mono ?_; rintro e w' ⟨rfl, rfl⟩)
        go_ret2
        exact ⟨rfl, below_alloc1 _ _⟩

theorem clr_wrap {m : Int} (h : U8 m) (i : Int) : IntKind.u8.wrap (clrM m i) = clrM m i := by
  obtain ⟨a, b⟩ := u8_clr h i
  show clrM m i % 256 = _
  omega

set_option maxRecDepth 100000 in
theorem rwith12_any (l : Ln) (i : Int) (w : World) (hl : OkL l) :
    Calls Tryd.prog 17 #[lineV l, .int .i64 i] w fun e w' => e = .returned (lineV (wthG l i)) ∧ Below w.heap.size w w' := by
  have H0 := Lib.hid (((Mine.start w).new (b := w.heap.size) rfl (lineC l) 31).new (b := w.heap.size + 1) (by simp) zeroC 31)
  obtain ⟨z, hz⟩ : ∃ z, (clrM l.2.2.2.2.2 i == 0) = z := ⟨_, rfl⟩
  obtain ⟨r, hr⟩ : ∃ r, wthG l i = r := ⟨_, rfl⟩
  have HR : Hid (wthG l i = r) := Lib.hid hr
  rw [hr]
  obtain ⟨c, hc⟩ : ∃ c, clrM l.2.2.2.2.2 i = c := ⟨_, rfl⟩
  rw [hc] at hz
  have HC := Lib.hid hc
  have HZ : Hid (z = true → r = zL) := Lib.hid fun e => by rw [← hr]; exact wth_no (by rw [hc]; rw [e] at hz; exact eq_of_beq hz)
  have HY : Hid (z = false → r = (l.1, l.2.1, l.2.2.1, l.2.2.2.1, l.2.2.2.2.1, c)) := Lib.hid fun e => by
    rw [← hr, wth_yes (by rw [hc]; intro h0; rw [h0, e] at hz; cases hz)]; unfold cutG; rw [hc]
  clear hr hc
  by_cases hi : 0 ≤ i ∧ i ≤ 7
  · obtain ⟨i0, i7⟩ := hi
    have em := u64_u8 hl
    have HW := fun w' => rwith_any l.2.2.2.2.2 i false w' (w64_u8 hl)
    have hw : IntKind.u8.wrap (withF l.2.2.2.2.2 i false) = c := by rw [clr_with hl i0 i7, clr_wrap hl]; exact HC.out
    generalize withF l.2.2.2.2.2 i false = y at HW hw
    clear HC HR
    cases z
    all_goals
      go_enter Tryd.func17, Tryd.ntmps17
      go_upto_region 1 with fail
      generalize hw0 : (w.alloc _).alloc _ = w0
      have H1 := Lib.hid (H0.out.world hw0)
      clear hw0 H0
      obtain ⟨p0, p1, p2, p3, p4, p5⟩ := (H1.out.at_ 1 rfl).line6
      have f5 := (H1.out.at_ 1 rfl).fz 5
      go_upto_region 3 with (go_at_call 35; refine (HW _).mono ?_; rintro e w' ⟨rfl, rfl⟩)
      generalize hw2 : w0.setCell _ _ = w2
      have H3 := Lib.hid (H1.out.mask 1 rfl hw2)
      clear hw2 H1 p0 p1 p2 p3 p4 p5 f5
      obtain ⟨p0, p1, p2, p3, p4, p5⟩ := (H3.out.at_ 1 rfl).line6
      have f0 := (H3.out.at_ 0 rfl).fz 0; have f1 := (H3.out.at_ 0 rfl).fz 1; have f2 := (H3.out.at_ 0 rfl).fz 2; have f3 := (H3.out.at_ 0 rfl).fz 3; have f4 := (H3.out.at_ 0 rfl).fz 4; have f5 := (H3.out.at_ 0 rfl).fz 5
      obtain ⟨q0, q1, q2, q3, q4, q5⟩ := (H3.out.at_ 0 rfl).line6
      go_wp2
    · have H4 := H3.out.put6 0 rfl (y0 := .int .u64 l.1) (y1 := .bool l.2.1) (y2 := .bool l.2.2.1) (y3 := .bool l.2.2.2.1) (y4 := .bool l.2.2.2.2.1) (y5 := .int .u8 c) rfl
      exact bodyPost_ret (results_cell_row rfl _ _ (w.heap.size + 1) _ _ _ _ rfl (H4.at_ 0 rfl) Tryd.underlying31 rfl rfl) rfl ⟨ret_val (by rw [show r = _ by first | exact HY.out rfl | exact HY.out trivial]), H4.below⟩
    · have H4 := H3.out.put6 0 rfl (y0 := .int .u64 0) (y1 := .bool false) (y2 := .bool false) (y3 := .bool false) (y4 := .bool false) (y5 := .int .u8 0) rfl
      exact bodyPost_ret (results_cell_row rfl _ _ (w.heap.size + 1) _ _ _ _ rfl (H4.at_ 0 rfl) Tryd.underlying31 rfl rfl) rfl ⟨ret_val (by rw [show r = _ by first | exact HZ.out rfl | exact HZ.out trivial]; rfl), H4.below⟩
  · have hcm : l.2.2.2.2.2 = c := by rw [← HC.out]; exact (clr_out (by omega)).symm
    have hi' : i < 0 ∨ 7 < i := by omega
    clear HC HR hi
    have hz' : (l.2.2.2.2.2 == 0) = z := by rw [hcm]; exact hz
    rw [← hcm] at HY
    clear hcm hz
    cases z
    · rcases hi' with h | h
      all_goals
        go_enter Tryd.func17, Tryd.ntmps17
        go_upto_region 1 with fail
        generalize hw0 : (w.alloc _).alloc _ = w0
        have H3 := Lib.hid (H0.out.world hw0)
        clear hw0 H0
        obtain ⟨p0, p1, p2, p3, p4, p5⟩ := (H3.out.at_ 1 rfl).line6
        have f0 := (H3.out.at_ 0 rfl).fz 0; have f1 := (H3.out.at_ 0 rfl).fz 1; have f2 := (H3.out.at_ 0 rfl).fz 2; have f3 := (H3.out.at_ 0 rfl).fz 3; have f4 := (H3.out.at_ 0 rfl).fz 4; have f5 := (H3.out.at_ 0 rfl).fz 5
        obtain ⟨q0, q1, q2, q3, q4, q5⟩ := (H3.out.at_ 0 rfl).line6
        go_wp2
        have H4 := H3.out.put6 0 rfl (y0 := .int .u64 l.1) (y1 := .bool l.2.1) (y2 := .bool l.2.2.1) (y3 := .bool l.2.2.2.1) (y4 := .bool l.2.2.2.2.1) (y5 := .int .u8 l.2.2.2.2.2) rfl
        exact bodyPost_ret (results_cell_row rfl _ _ (w.heap.size + 1) _ _ _ _ rfl (H4.at_ 0 rfl) Tryd.underlying31 rfl rfl) rfl ⟨ret_val (by rw [show r = _ by first | exact HY.out rfl | exact HY.out trivial]), H4.below⟩
    · rcases hi' with h | h
      all_goals
        go_enter Tryd.func17, Tryd.ntmps17
        go_upto_region 1 with fail
        generalize hw0 : (w.alloc _).alloc _ = w0
        have H3 := Lib.hid (H0.out.world hw0)
        clear hw0 H0
        obtain ⟨p0, p1, p2, p3, p4, p5⟩ := (H3.out.at_ 1 rfl).line6
        have f0 := (H3.out.at_ 0 rfl).fz 0; have f1 := (H3.out.at_ 0 rfl).fz 1; have f2 := (H3.out.at_ 0 rfl).fz 2; have f3 := (H3.out.at_ 0 rfl).fz 3; have f4 := (H3.out.at_ 0 rfl).fz 4; have f5 := (H3.out.at_ 0 rfl).fz 5
        obtain ⟨q0, q1, q2, q3, q4, q5⟩ := (H3.out.at_ 0 rfl).line6
        go_wp2
        have H4 := H3.out.put6 0 rfl (y0 := .int .u64 0) (y1 := .bool false) (y2 := .bool false) (y3 := .bool false) (y4 := .bool false) (y5 := .int .u8 0) rfl
        exact bodyPost_ret (results_cell_row rfl _ _ (w.heap.size + 1) _ _ _ _ rfl (H4.at_ 0 rfl) Tryd.underlying31 rfl rfl) rfl ⟨ret_val (by rw [show r = _ by first | exact HZ.out rfl | exact HZ.out trivial]; rfl), H4.below⟩

theorem below2' (w : World) (a b : Obj) : Below w.heap.size w ((w.alloc a).alloc b) := (below_alloc1 _ _).alloc (by simp) _
set_option maxRecDepth 100000 in
theorem lined12_any (l : Ln) (w : World) :
    Calls Tryd.prog 10 #[lineV l] w fun e w' => e = .returned (lineV l) ∧ Below w.heap.size w w' := by
  go_enter Tryd.func10, Tryd.ntmps10
  go_wp2
  exact bodyPost_ret (results_cell_row rfl _ _ (w.heap.size + 1) _ _ _ _ rfl (last_obj2 w _ _) Tryd.underlying31 rfl rfl) rfl ⟨rfl, below2' _ _ _⟩
set_option maxRecDepth 100000 in
theorem seen12_any (s : Sn) (w : World) :
    Calls Tryd.prog 13 #[seenV s] w fun e w' => e = .returned (seenV s) ∧ Below w.heap.size w w' := by
  go_enter Tryd.func13, Tryd.ntmps13
  go_wp2
  exact bodyPost_ret (results_cell_row rfl _ _ (w.heap.size + 1) _ _ _ _ rfl (last_obj2 w _ _) Tryd.underlying38 rfl rfl) rfl ⟨rfl, below2' _ _ _⟩
theorem word12_any (n : Int) (w : World) (h0 : 0 ≤ n) (h1 : n ≤ 1000) :
    Calls Tryd.prog 23 #[.int .u64 n] w fun e w' => e = .returned (.int .u64 (n * 4096 + 39)) ∧ w = w' := by
  go_enter Tryd.func23, Tryd.ntmps23
  go_wp2
  go_ret
  exact ⟨rfl, rfl⟩
end Go.Proofs.YtmglikmphddicaaDoor
/- Layer 12: lines, and slots, compared; the document's example (awake); boxes and the table of bits. -/
namespace Go.Proofs.YtmglikmphddicaaDoor
set_option linter.unusedVariables false
set_option linter.unusedSimpArgs false
open Go.ChangeShapes Go.WideShapes Go.ChangeAt Go.RowKit Go.Joins

set_option maxRecDepth 100000 in
theorem eqlD (l : Ln) (w : World) : (binOp .eql 31 (lineV l) (lineV l)).run Tryd.prog w = .ok (.bool true) w := by
  have hs : Tryd.prog.stoodInHeld 31 = false := by kernel_rfl
  have hs2 : Tryd.prog.stoodInHeld 29 = false := by kernel_rfl
  simp only [binOp]
  simp [Op.equal, Op.maxDepth, run_equalIn_struct w 9999 31 _ _ (by simp [Program.fieldsOf, Tryd.underlying31]) hs, Program.fieldsOf, Tryd.underlying31, Op.eqFields, go_sem]
set_option maxRecDepth 100000 in
theorem eqlC (l : Ln) (w : World) : (binOp .eql 34 (lineV l) (lineV l)).run Tryd.prog w = .ok (.bool true) w := by
  have hs : Tryd.prog.stoodInHeld 34 = false := by kernel_rfl
  have hs2 : Tryd.prog.stoodInHeld 25 = false := by kernel_rfl
  simp only [binOp]
  simp [Op.equal, Op.maxDepth, run_equalIn_struct w 9999 34 _ _ (by simp [Program.fieldsOf, Tryd.underlying34]) hs, Program.fieldsOf, Tryd.underlying34, Op.eqFields, go_sem]
set_option maxRecDepth 100000 in
theorem neqG (W U Y : Bool) (w : World) : (binOp .neq 25 (rgtV W U Y) (rgtV W U Y)).run Tryd.prog w = .ok (.bool false) w := by
  have hs2 : Tryd.prog.stoodInHeld 25 = false := by kernel_rfl
  simp only [binOp]
  simp [Op.equal, Op.maxDepth, run_equalIn_struct w 9999 25 _ _ (by simp [Program.fieldsOf, Tryd.underlying25]) hs2, Program.fieldsOf, Tryd.underlying25, Op.eqFields, go_sem]
theorem one64 : Tryd.prog.cellsOf 22 = 1 := by kernel_rfl
theorem plainU : Tryd.prog.plainKey 22 = true := by kernel_rfl
theorem itemsU (w : World) (d : Nat) (xs : Array Value) (p : Nat → Int) : ∀ is : List Nat, (∀ i ∈ is, xs[i]? = some (.int .u64 (p i))) →
    (Op.eqItems (d + 1) 22 (Tryd.prog.cellsOf 22) xs xs is).run Tryd.prog w = .ok true w
  | [], _ => by simp [Op.eqItems]
  | i :: is, h => by
    have h1 := h i (by simp)
    have ih := itemsU w d xs p is (fun j hj => h j (by simp [hj]))
    rw [one64] at ih ⊢
    have p1 := run_part_plain w (P := Tryd.prog) (e := 22) plainU (off := i * 1) (by rw [Nat.mul_one]; exact h1)
    have p3 := run_equalIn_int (P := Tryd.prog) w d 22 .u64 .u64 (p i) (p i) Tryd.underlying22
    simp only [Op.eqItems, Sem.run_bind, p1, p3, Result.andThen_ok, beq_self_eq_true]
    simp only [Bool.not_true, Bool.false_eq_true, if_false, ih]
theorem eqlS (s : Int) (w : World) : (binOp .eql 23 (.agg (slotsC s)) (.agg (slotsC s))).run Tryd.prog w = .ok (.bool true) w := by
  obtain ⟨i0, hi⟩ := info_of_underlying Tryd.underlying22
  rw [run_eql_struct, run_equalIn_array w 9999 _ _ Tryd.underlying23 hi, itemsU w 9998 (slotsC s) (fun j => sltF s j) _ (fun i hi => ?_)]
  · rfl
  · have h8 := List.mem_range.1 hi
    match i, h8 with
    | 0, _ => rfl
    | 1, _ => rfl
    | 2, _ => rfl
    | 3, _ => rfl
    | 4, _ => rfl
    | 5, _ => rfl
    | 6, _ => rfl
    | 7, _ => rfl

/-- the example's own values -/
theorem run_aw (w : World) (hp : PagesT w) :
    Calls Tryd.prog 11 #[.agg #[.int .u64 32807, .int .u64 36903, .int .u64 45095, .int .u64 0, .int .u64 0, .int .u64 0, .int .u64 0, .int .u64 0, .int .i64 0, .bool true, .bool true, .bool true, .int .i64 20, .bool true]] w fun e w' => e = .returned (.agg #[.int .u64 32768, .bool true, .bool true, .bool true, .bool false, .int .u8 3]) ∧ Below w.heap.size w w' := by
  have h := grun_any ⟨32807, 36903, 45095, 0, 0, 0, 0, 0, 0, true, true, true, 20, true⟩ w ⟨⟨by decide, by decide⟩, ⟨by decide, by decide⟩, ⟨by decide, by decide⟩, ⟨by decide, by decide⟩, ⟨by decide, by decide⟩, ⟨by decide, by decide⟩, ⟨by decide, by decide⟩, ⟨by decide, by decide⟩, ⟨by decide, by decide⟩, ⟨by decide, by decide⟩⟩ hp
  have e : runF [32807, 36903, 45095, 0, 0, 0, 0, 0] 0 20 true true true true = (32768, true, true, true, false, 3) := by decide +kernel
  unfold RunPost at h
  rw [e] at h
  exact h
theorem has_aw1 (w : World) (hp : PagesT w) :
    Calls Tryd.prog 14 #[.agg #[.int .u64 32768, .bool true, .bool true, .bool true, .bool false, .int .u8 3], .int .i64 1] w fun e w' => e = .returned (.tuple #[.int .u64 36864, .bool true]) ∧ Below w.heap.size w w' := by
  have h := ghas_any (32768, true, true, true, false, 3) 1 w hp ⟨by decide, by decide⟩
  rw [show atG (32768, true, true, true, false, 3) 1 = 36864 by decide +kernel, show hasG (32768, true, true, true, false, 3) 1 = true by decide +kernel] at h
  exact h
theorem has_aw2 (w : World) (hp : PagesT w) :
    Calls Tryd.prog 14 #[.agg #[.int .u64 32768, .bool true, .bool true, .bool true, .bool false, .int .u8 3], .int .i64 2] w fun e w' => e = .returned (.tuple #[.int .u64 0, .bool false]) ∧ Below w.heap.size w w' := by
  have h := ghas_any (32768, true, true, true, false, 3) 2 w hp ⟨by decide, by decide⟩
  rw [show atG (32768, true, true, true, false, 3) 2 = 0 by decide +kernel, show hasG (32768, true, true, true, false, 3) 2 = false by decide +kernel] at h
  exact h
theorem slots_aw (w : World) :
    Calls Tryd.prog 18 #[.int .u64 72] w fun e w' => e = .returned (.agg #[.int .u64 64, .int .u64 72, .int .u64 80, .int .u64 88, .int .u64 96, .int .u64 104, .int .u64 112, .int .u64 120]) ∧ Below w.heap.size w w' :=
  slots_any 72 w ⟨by decide, by decide⟩
theorem word_aw8 (w : World) : Calls Tryd.prog 23 #[.int .u64 8] w fun e w' => e = .returned (.int .u64 32807) ∧ w = w' := word12_any 8 w (by decide) (by decide)
theorem word_aw9 (w : World) : Calls Tryd.prog 23 #[.int .u64 9] w fun e w' => e = .returned (.int .u64 36903) ∧ w = w' := word12_any 9 w (by decide) (by decide)
theorem word_aw11 (w : World) : Calls Tryd.prog 23 #[.int .u64 11] w fun e w' => e = .returned (.int .u64 45095) ∧ w = w' := word12_any 11 w (by decide) (by decide)

set_option maxRecDepth 100000 in
set_option maxHeartbeats 1600000 in
theorem awake12_any (w : World) (hp : PagesT w) : Calls Tryd.prog 9 #[] w fun e w' => e = .returned (.bool true) ∧ Below w.heap.size w w' := by
  have HT := Lib.hid hp
  have M0 := Lib.hid (Mine.start w)
  clear hp
  go_enter Tryd.func9, Tryd.ntmps9
  go_upto_region 2 with (first | (go_at_call 23; first | ((with_reducible refine (word_aw8 _).mono ?_); rintro e w' ⟨rfl, rfl⟩) | ((with_reducible refine (word_aw9 _).mono ?_); rintro e w' ⟨rfl, rfl⟩) | ((with_reducible refine (word_aw11 _).mono ?_); rintro e w' ⟨rfl, rfl⟩)) | (go_at_call 24; refine (all_any _).mono ?_; rintro e w1 ⟨rfl, hb1⟩; have H1 := Lib.hid (M0.out.quiet hb1); clear hb1 M0) | (go_at_call 11; refine (run_aw _ (pages_keep HT.out H1.out.below (Nat.le_refl _))).mono ?_; rintro e w2 ⟨rfl, hb2⟩; have H2 := Lib.hid (H1.out.quiet hb2); clear hb2 H1))
  generalize hw3 : w2.alloc _ = w3
  have H3 := Lib.hid ((H2.out.new (b := w2.heap.size) rfl #[.int .u64 32768, .bool true, .bool true, .bool true, .bool false, .int .u8 3] 34).world hw3)
  clear hw3 H2
  generalize w2.heap.size = b3 at *
  obtain ⟨p0, p1, p2, p3, p4, p5⟩ := (H3.out.at_ 0 rfl).line6
  go_upto_region 3 with (go_at_call 14; refine (has_aw1 _ (pages_keep HT.out H3.out.below (Nat.le_refl _))).mono ?_; rintro e w4 ⟨rfl, hb4⟩; have H4 := Lib.hid (H3.out.quiet hb4); clear hb4 H3 p0 p1 p2 p3 p4 p5)
  obtain ⟨p0, p1, p2, p3, p4, p5⟩ := (H4.out.at_ 0 rfl).line6
  go_upto_region 4 with (go_at_call 14; refine (has_aw2 _ (pages_keep HT.out H4.out.below (Nat.le_refl _))).mono ?_; rintro e w5 ⟨rfl, hb5⟩; have H5 := Lib.hid (H4.out.quiet hb5); clear hb5 H4 p0 p1 p2 p3 p4 p5)
  obtain ⟨p0, p1, p2, p3, p4, p5⟩ := (H5.out.at_ 0 rfl).line6
  have i0 : ∀ w, (Instr.index 23 (.agg #[.int .u64 64, .int .u64 72, .int .u64 80, .int .u64 88, .int .u64 96, .int .u64 104, .int .u64 112, .int .u64 120]) (.int .i64 0)).run Tryd.prog w = .ok (.int .u64 64) w := fun _ => by kernel_rfl
  go_wp2_with (go_at_call 18; refine (slots_aw _).mono ?_; rintro e w6 ⟨rfl, hb6⟩; have H6 := Lib.hid (H5.out.quiet hb6); clear hb6 H5)
  go_ret
  exact ⟨rfl, H6.out.below⟩
end Go.Proofs.YtmglikmphddicaaDoor
