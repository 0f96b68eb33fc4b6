/- Several texts of ours in one: Nh, Nk. -/
import Derived.Test.YtddbjbdhbeijjaaDoorGEsNgGs
import Derived.Test.YtddbjbdhbeijjaaDoorGNfNdNe
/- Layer 12: the document's Run. (Laid by tools/gen_nh.py.) -/
namespace Go.Proofs.YtddbjbdhbeijjaaDoor
set_option linter.unusedVariables false
set_option linter.unusedSimpArgs false
open Go.ChangeShapes Go.WideShapes Go.ChangeAt Go.RowKit Go.Joins

end Go.Proofs.YtddbjbdhbeijjaaDoor
/- Layer 12: the document's Has and Without; lined, seen, word of the laws. -/
namespace Go.Proofs.YtddbjbdhbeijjaaDoor
set_option linter.unusedVariables false
set_option linter.unusedSimpArgs false
open Go.ChangeShapes Go.WideShapes Go.ChangeAt Go.RowKit Go.Joins

theorem w64_u8 {m : Int} (h : U8 m) : W64 m := by obtain ⟨a, b⟩ := h; unfold W64; omega
theorem u64_u8 {m : Int} (h : U8 m) : IntKind.u64.wrap m = m := by obtain ⟨a, b⟩ := h; rw [IntKind.wrap_u64]; omega
theorem rhas_any (l : Ln) (i : Int) (w : World) (hl : OkL l) :
    Calls Tryd.prog 39 #[lineV l, .int .i64 i] w fun e w' => e = .returned (.tuple #[.int .u64 (atG l i), .bool (hasG l i)]) ∧ Below w.heap.size w w' := by
  by_cases h0 : i < 0
  · have e : hasG l i = false := has_out (by omega)
    rw [at_no e, e]
    clear e
    go_enter Tryd.func39, Tryd.ntmps39
    go_wp2
    go_ret2
    exact ⟨rfl, below_alloc1 _ _⟩
  · by_cases h7 : 7 < i
    · have e : hasG l i = false := has_out (by omega)
      rw [at_no e, e]
      clear e
      go_enter Tryd.func39, Tryd.ntmps39
      go_wp2
      go_ret2
      exact ⟨rfl, below_alloc1 _ _⟩
    · have em := u64_u8 hl
      have eb : bitF l.2.2.2.2.2 i = hasG l i := has_bit hl (by omega) (by omega)
      have HB := rbit_any l.2.2.2.2.2 i (w.alloc (.cells (lineC l) 71)) (w64_u8 hl)
      rw [eb] at HB
      cases e : hasG l i
      · rw [at_no e]
        rw [e] at HB
        clear e eb
        go_enter Tryd.func39, Tryd.ntmps39
        go_wp2_with (go_at_call 61; refine HB.mono ?_; rintro e w' ⟨rfl, rfl⟩)
        go_ret2
        exact ⟨rfl, below_alloc1 _ _⟩
      · rw [at_yes e]
        rw [e] at HB
        have hF : IntKind.u64.wrap (l.1 + 4096 * i) = frmF l.1 i := by unfold frmF; rw [IntKind.wrap_u64]
        clear e eb
        go_enter Tryd.func39, Tryd.ntmps39
        go_wp2_with (go_at_call 61; refine HB.mono ?_; rintro e w' ⟨rfl, rfl⟩)
        go_ret2
        exact ⟨rfl, below_alloc1 _ _⟩

theorem clr_wrap {m : Int} (h : U8 m) (i : Int) : IntKind.u8.wrap (clrM m i) = clrM m i := by
  obtain ⟨a, b⟩ := u8_clr h i
  show clrM m i % 256 = _
  omega

set_option maxRecDepth 100000 in
theorem rwith12_any (l : Ln) (i : Int) (w : World) (hl : OkL l) :
    Calls Tryd.prog 55 #[lineV l, .int .i64 i] w fun e w' => e = .returned (lineV (wthG l i)) ∧ Below w.heap.size w w' := by
  have H0 := Lib.hid (((Mine.start w).new (b := w.heap.size) rfl (lineC l) 71).new (b := w.heap.size + 1) (by simp) zeroC 71)
  obtain ⟨z, hz⟩ : ∃ z, (clrM l.2.2.2.2.2 i == 0) = z := ⟨_, rfl⟩
  obtain ⟨r, hr⟩ : ∃ r, wthG l i = r := ⟨_, rfl⟩
  have HR : Hid (wthG l i = r) := Lib.hid hr
  rw [hr]
  obtain ⟨c, hc⟩ : ∃ c, clrM l.2.2.2.2.2 i = c := ⟨_, rfl⟩
  rw [hc] at hz
  have HC := Lib.hid hc
  have HZ : Hid (z = true → r = zL) := Lib.hid fun e => by rw [← hr]; exact wth_no (by rw [hc]; rw [e] at hz; exact eq_of_beq hz)
  have HY : Hid (z = false → r = (l.1, l.2.1, l.2.2.1, l.2.2.2.1, l.2.2.2.2.1, c)) := Lib.hid fun e => by
    rw [← hr, wth_yes (by rw [hc]; intro h0; rw [h0, e] at hz; cases hz)]; unfold cutG; rw [hc]
  clear hr hc
  by_cases hi : 0 ≤ i ∧ i ≤ 7
  · obtain ⟨i0, i7⟩ := hi
    have em := u64_u8 hl
    have HW := fun w' => rwith_any l.2.2.2.2.2 i false w' (w64_u8 hl)
    have hw : IntKind.u8.wrap (withF l.2.2.2.2.2 i false) = c := by rw [clr_with hl i0 i7, clr_wrap hl]; exact HC.out
    generalize withF l.2.2.2.2.2 i false = y at HW hw
    clear HC HR
    cases z
    all_goals
      go_enter Tryd.func55, Tryd.ntmps55
      go_upto_region 1 with fail
      generalize hw0 : (w.alloc _).alloc _ = w0
      have H1 := Lib.hid (H0.out.world hw0)
      clear hw0 H0
      obtain ⟨p0, p1, p2, p3, p4, p5⟩ := (H1.out.at_ 1 rfl).line6
      have f5 := (H1.out.at_ 1 rfl).fz 5
      go_upto_region 3 with (go_at_call 71; refine (HW _).mono ?_; rintro e w' ⟨rfl, rfl⟩)
      generalize hw2 : w0.setCell _ _ = w2
      have H3 := Lib.hid (H1.out.mask 1 rfl hw2)
      clear hw2 H1 p0 p1 p2 p3 p4 p5 f5
      obtain ⟨p0, p1, p2, p3, p4, p5⟩ := (H3.out.at_ 1 rfl).line6
      have f0 := (H3.out.at_ 0 rfl).fz 0; have f1 := (H3.out.at_ 0 rfl).fz 1; have f2 := (H3.out.at_ 0 rfl).fz 2; have f3 := (H3.out.at_ 0 rfl).fz 3; have f4 := (H3.out.at_ 0 rfl).fz 4; have f5 := (H3.out.at_ 0 rfl).fz 5
      obtain ⟨q0, q1, q2, q3, q4, q5⟩ := (H3.out.at_ 0 rfl).line6
      go_wp2
    · have H4 := H3.out.put6 0 rfl (y0 := .int .u64 l.1) (y1 := .bool l.2.1) (y2 := .bool l.2.2.1) (y3 := .bool l.2.2.2.1) (y4 := .bool l.2.2.2.2.1) (y5 := .int .u8 c) rfl
      exact bodyPost_ret (results_cell_row rfl _ _ (w.heap.size + 1) _ _ _ _ rfl (H4.at_ 0 rfl) Tryd.underlying71 rfl rfl) rfl ⟨ret_val (by rw [show r = _ by first | exact HY.out rfl | exact HY.out trivial]), H4.below⟩
    · have H4 := H3.out.put6 0 rfl (y0 := .int .u64 0) (y1 := .bool false) (y2 := .bool false) (y3 := .bool false) (y4 := .bool false) (y5 := .int .u8 0) rfl
      exact bodyPost_ret (results_cell_row rfl _ _ (w.heap.size + 1) _ _ _ _ rfl (H4.at_ 0 rfl) Tryd.underlying71 rfl rfl) rfl ⟨ret_val (by rw [show r = _ by first | exact HZ.out rfl | exact HZ.out trivial]; rfl), H4.below⟩
  · have hcm : l.2.2.2.2.2 = c := by rw [← HC.out]; exact (clr_out (by omega)).symm
    have hi' : i < 0 ∨ 7 < i := by omega
    clear HC HR hi
    have hz' : (l.2.2.2.2.2 == 0) = z := by rw [hcm]; exact hz
    rw [← hcm] at HY
    clear hcm hz
    cases z
    · rcases hi' with h | h
      all_goals
        go_enter Tryd.func55, Tryd.ntmps55
        go_upto_region 1 with fail
        generalize hw0 : (w.alloc _).alloc _ = w0
        have H3 := Lib.hid (H0.out.world hw0)
        clear hw0 H0
        obtain ⟨p0, p1, p2, p3, p4, p5⟩ := (H3.out.at_ 1 rfl).line6
        have f0 := (H3.out.at_ 0 rfl).fz 0; have f1 := (H3.out.at_ 0 rfl).fz 1; have f2 := (H3.out.at_ 0 rfl).fz 2; have f3 := (H3.out.at_ 0 rfl).fz 3; have f4 := (H3.out.at_ 0 rfl).fz 4; have f5 := (H3.out.at_ 0 rfl).fz 5
        obtain ⟨q0, q1, q2, q3, q4, q5⟩ := (H3.out.at_ 0 rfl).line6
        go_wp2
        have H4 := H3.out.put6 0 rfl (y0 := .int .u64 l.1) (y1 := .bool l.2.1) (y2 := .bool l.2.2.1) (y3 := .bool l.2.2.2.1) (y4 := .bool l.2.2.2.2.1) (y5 := .int .u8 l.2.2.2.2.2) rfl
        exact bodyPost_ret (results_cell_row rfl _ _ (w.heap.size + 1) _ _ _ _ rfl (H4.at_ 0 rfl) Tryd.underlying71 rfl rfl) rfl ⟨ret_val (by rw [show r = _ by first | exact HY.out rfl | exact HY.out trivial]), H4.below⟩
    · rcases hi' with h | h
      all_goals
        go_enter Tryd.func55, Tryd.ntmps55
        go_upto_region 1 with fail
        generalize hw0 : (w.alloc _).alloc _ = w0
        have H3 := Lib.hid (H0.out.world hw0)
        clear hw0 H0
        obtain ⟨p0, p1, p2, p3, p4, p5⟩ := (H3.out.at_ 1 rfl).line6
        have f0 := (H3.out.at_ 0 rfl).fz 0; have f1 := (H3.out.at_ 0 rfl).fz 1; have f2 := (H3.out.at_ 0 rfl).fz 2; have f3 := (H3.out.at_ 0 rfl).fz 3; have f4 := (H3.out.at_ 0 rfl).fz 4; have f5 := (H3.out.at_ 0 rfl).fz 5
        obtain ⟨q0, q1, q2, q3, q4, q5⟩ := (H3.out.at_ 0 rfl).line6
        go_wp2
        have H4 := H3.out.put6 0 rfl (y0 := .int .u64 0) (y1 := .bool false) (y2 := .bool false) (y3 := .bool false) (y4 := .bool false) (y5 := .int .u8 0) rfl
        exact bodyPost_ret (results_cell_row rfl _ _ (w.heap.size + 1) _ _ _ _ rfl (H4.at_ 0 rfl) Tryd.underlying71 rfl rfl) rfl ⟨ret_val (by rw [show r = _ by first | exact HZ.out rfl | exact HZ.out trivial]; rfl), H4.below⟩

theorem below2' (w : World) (a b : Obj) : Below w.heap.size w ((w.alloc a).alloc b) := (below_alloc1 _ _).alloc (by simp) _
end Go.Proofs.YtddbjbdhbeijjaaDoor
