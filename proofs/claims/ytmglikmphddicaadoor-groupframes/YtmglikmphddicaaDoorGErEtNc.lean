/- Several texts of ours in one: Er, Et, Nc. -/
import Derived.Test.YtmglikmphddicaaDoorGEaEbGa
import Derived.Test.YtmglikmphddicaaDoorGNbTpVr
import Derived.LoopTactic
import Derived.Lib.SmallJoins
import Derived.StillTailTactics
import Derived.Deep.Cut
/- Contracts of dormerref05: what each call of the document's own answer returns. -/
namespace Go.Proofs.YtmglikmphddicaaDoor
set_option linter.unusedVariables false
set_option linter.unusedSimpArgs false
open Go.ChangeShapes Go.WideShapes Go.ChangeAt Go.RowKit Go.Joins

theorem rtable_any (x : Int) (w : World) (hx : W64 x) :
    Calls Tryd.prog 21 #[.int .u64 x] w fun e w' => e = .returned (.int .u64 (tableF x)) ∧ w = w' := by
  have e := Lib.hid (table_get hx)
  go_enter Tryd.func21, Tryd.ntmps21
  go_wp2_with (go_at_call 38; refine (rget_any _ _ _ _ hx).mono ?_; rintro e w' ⟨rfl, rfl⟩)
  go_ret
  exact ⟨ret_int e.out, rfl⟩

theorem rleaf_any (x l : Int) (w : World) (hx : W64 x) :
    Calls Tryd.prog 37 #[.int .u64 x, .int .i64 l] w fun e w' => e = .returned (.bool (leafF x l)) ∧ w = w' := by
  by_cases h1 : l = 1
  · subst h1
    go_enter Tryd.func37, Tryd.ntmps37
    go_wp2
    go_ret
    exact ⟨rfl, rfl⟩
  · by_cases h2 : l = 2
    · subst h2
      rw [leaf_two]
      go_enter Tryd.func37, Tryd.ntmps37
      go_wp2_with (go_at_call 34; refine (rbit_any _ _ _ hx).mono ?_; rintro e w' ⟨rfl, rfl⟩)
      go_ret
      exact ⟨rfl, rfl⟩
    · by_cases h3 : l = 3
      · subst h3
        rw [leaf_three]
        go_enter Tryd.func37, Tryd.ntmps37
        go_wp2_with (go_at_call 34; refine (rbit_any _ _ _ hx).mono ?_; rintro e w' ⟨rfl, rfl⟩)
        go_ret
        exact ⟨rfl, rfl⟩
      · rw [leaf_else x h1 h2 h3]
        have c1 : (l == 1) = false := by simp [h1]
        have c2 : (l == 2) = false := by simp [h2]
        have c3 : (l == 3) = false := by simp [h3]
        clear h1 h2 h3
        go_enter Tryd.func37, Tryd.ntmps37
        go_wp2_with (go_at_call 34; refine (rbit_any _ _ _ hx).mono ?_; rintro e w' ⟨rfl, rfl⟩)
        go_ret
        exact ⟨rfl, rfl⟩

theorem some_any (x : Int) (lo hi : Nat) (w : World) (hx : W64 x) (h : lo ≤ hi + 1) (h63 : hi ≤ 63) :
    Calls Tryd.prog 36 #[.int .u64 x, .int .i64 lo, .int .i64 hi] w fun e w' => e = .returned (.bool (hasF x (maskF lo (hi + 1 - lo)))) ∧ w = w' := by
  obtain ⟨r, hr0⟩ : ∃ r, hasF x (maskF lo (hi + 1 - lo)) = r := ⟨_, rfl⟩
  rw [hr0]
  have hr := Lib.hid hr0
  clear hr0
  go_enter Tryd.func36, Tryd.ntmps36
  go_wp2
  go_loop [7] (fun i => ∃ k : Nat, lo ≤ k ∧ k ≤ hi + 1 ∧ i = .int .i64 k ∧ ∀ j, lo ≤ j → j < k → tb x j = false) (fun i => (hi + 1 - intOf i).toNat)
  case atStart => exact ⟨lo, by omega, h, rfl, fun j h1 h2 => absurd h2 (by omega)⟩
  case round =>
    obtain ⟨k, hk1, hk2, rfl, hall⟩ := hrel
    have hA := Lib.hid hall
    clear hall
    by_cases hlt : k ≤ hi
    · have hB := Lib.hid (bit_nat hx (show k < 64 by omega))
      cases hb : bitF x k
      · go_wp2_with (go_at_call 34; refine (rbit_any _ _ _ hx).mono ?_; rintro e w' ⟨rfl, rfl⟩)
        go_round
        case rel =>
          refine ⟨k + 1, by omega, by omega, by go_num, fun j h1 h2 => ?_⟩
          by_cases c : j = k
          · subst c; exact hB.out.symm.trans hb
          · exact hA.out j h1 (by omega)
        case measure => simp [intOf]; omega
      · go_wp2_with (go_at_call 34; refine (rbit_any _ _ _ hx).mono ?_; rintro e w' ⟨rfl, rfl⟩)
        go_ret
        exact ⟨ret_bool (by rw [← hr.out, has_some hx h h63 hk1 hlt (hB.out.symm.trans hb)]), rfl⟩
    · go_wp2
      go_ret
      exact ⟨ret_bool (by rw [← hr.out, has_none hx (fun j h1 h2 => hA.out j h1 (by omega))]), rfl⟩

end Go.Proofs.YtmglikmphddicaaDoor
/- dormerref05.Parse: what the document's own answer says of a word. -/
namespace Go.Proofs.YtmglikmphddicaaDoor
set_option linter.unusedVariables false
set_option linter.unusedSimpArgs false
open Go.ChangeShapes Go.WideShapes Go.ChangeAt Go.RowKit Go.Joins

theorem stillOf {P : Program} {f : FuncId} {args : Array Value} {w : World} {v : Value} (h : Calls P f args w fun e w' => e = .returned v ∧ w = w') : Calls P f args w fun e w' => e = .returned v ∧ w' = w :=
  h.mono fun _ _ ⟨he, hw⟩ => ⟨he, hw.symm⟩

end Go.Proofs.YtmglikmphddicaaDoor
/- Package group: Without. -/
namespace Go.Proofs.YtmglikmphddicaaDoor
set_option linter.unusedVariables false
set_option linter.unusedSimpArgs false
open Go.ChangeShapes Go.WideShapes Go.ChangeAt Go.RowKit Go.Joins

abbrev zeroC : Array Value := #[.int .u64 0, .bool false, .bool false, .bool false, .bool false, .int .u8 0]
section
variable {w wr w3 : World} {bs : List BoxD} {rs : List RowD} {b : Nat} {t : TypeId} {x0 x1 x2 x3 x4 x5 y5 : Value}
theorem Blk.line6 (h : Blk w b #[x0, x1, x2, x3, x4, x5] t) : w.cell? ⟨b, 0, none⟩ = some x0 ∧ w.cell? ⟨b, 1, none⟩ = some x1 ∧ w.cell? ⟨b, 2, none⟩ = some x2 ∧ w.cell? ⟨b, 3, none⟩ = some x3 ∧ w.cell? ⟨b, 4, none⟩ = some x4 ∧ w.cell? ⟨b, 5, none⟩ = some x5 :=
  ⟨(cell_of_block h 0).trans rfl, (cell_of_block h 1).trans rfl, (cell_of_block h 2).trans rfl, (cell_of_block h 3).trans rfl, (cell_of_block h 4).trans rfl, (cell_of_block h 5).trans rfl⟩
theorem Mine.mask (h : Mine w wr bs rs) (k : Nat) (hk : bs[k]? = some ⟨b, #[x0, x1, x2, x3, x4, x5], t⟩) (hq : wr.setCell ⟨b, 5, none⟩ y5 = w3) (hr : rs.all (fun r => r.e != t) = true := by rfl) : Mine w w3 (bs.set k ⟨b, #[x0, x1, x2, x3, x4, y5], t⟩) rs := by
  subst hq
  exact h.put k hk (turn1 _ _ _ _) ((h.at_ k hk).set1 5 y5) hr
end
theorem wth_no {l : Ln} {i : Int} (h : clrM l.2.2.2.2.2 i = 0) : wthG l i = zL := by unfold wthG; rw [if_pos h]
theorem wth_yes {l : Ln} {i : Int} (h : clrM l.2.2.2.2.2 i ≠ 0) : wthG l i = cutG l i := by unfold wthG; rw [if_neg h]

theorem gwith_any (l : Ln) (i : Int) (w : World) (hp : PagesT w) (hl : OkL l) :
    Calls Tryd.prog 16 #[lineV l, .int .i64 i] w fun e w' => e = .returned (lineV (wthG l i)) ∧ Below w.heap.size w w' := by
  have HE := Lib.hid (clr_andNot hl i)
  have HT := Lib.hid hp
  have H0 := Lib.hid (((Mine.start w).new (b := w.heap.size) rfl (lineC l) 34).new (b := w.heap.size + 1) (by simp) zeroC 34)
  clear hp
  go_enter Tryd.func16, Tryd.ntmps16
  go_upto_region 1 with fail
  generalize hw0 : (w.alloc _).alloc _ = w0
  have H1 := Lib.hid (H0.out.world hw0)
  clear hw0 H0
  have hp1 : PagesT w0.drew := pages_keep HT.out H1.out.below.drew (Nat.le_refl _)
  obtain ⟨p0, p1, p2, p3, p4, p5⟩ := (H1.out.at_ 1 rfl).line6
  refine wp_region_still_tail 6 (by kernel_rfl) (by kernel_rfl) ?_
  simp only [List.take_succ_cons, List.take_zero, List.drop_succ_cons, List.drop_zero]
  repeat (first | still_step | still_call (stillOf (gbit_any _ _ hp1)))
  refine wpStill_nil ?_
  change wpList _ _ _ _ _ w0.drew
  have H2 := Lib.hid (H1.out.quiet (Below.refl _ _).drew)
  clear H1 p0 p1 p2 p3 p4 p5 hp1
  generalize w0.drew = w1 at *
  obtain ⟨p0, p1, p2, p3, p4, p5⟩ := (H2.out.at_ 1 rfl).line6
  have f5 := (H2.out.at_ 1 rfl).fz 5
  rw [HE.out]
  by_cases hz : clrM l.2.2.2.2.2 i = 0
  · have HZ := Lib.hid (wth_no hz)
    rw [hz]
    go_upto_region 2 with fail
    generalize hw2 : w1.setCell _ _ = w2
    have H3 := Lib.hid (H2.out.mask 1 rfl hw2)
    clear hw2 H2 p0 p1 p2 p3 p4 p5 f5
    obtain ⟨p0, p1, p2, p3, p4, p5⟩ := (H3.out.at_ 1 rfl).line6
    have f0 := (H3.out.at_ 0 rfl).fz 0; have f1 := (H3.out.at_ 0 rfl).fz 1; have f2 := (H3.out.at_ 0 rfl).fz 2; have f3 := (H3.out.at_ 0 rfl).fz 3; have f4 := (H3.out.at_ 0 rfl).fz 4; have f5 := (H3.out.at_ 0 rfl).fz 5
    obtain ⟨q0, q1, q2, q3, q4, q5⟩ := (H3.out.at_ 0 rfl).line6
    go_wp2
    have H4 := H3.out.put6 0 rfl (y0 := .int .u64 0) (y1 := .bool false) (y2 := .bool false) (y3 := .bool false) (y4 := .bool false) (y5 := .int .u8 0) rfl
    exact bodyPost_ret (results_cell_row rfl _ _ (w.heap.size + 1) _ _ _ _ rfl (H4.at_ 0 rfl) Tryd.underlying34 rfl rfl) rfl ⟨ret_val (by rw [HZ.out]; rfl), H4.below⟩
  · have HZ := Lib.hid (wth_yes hz)
    have hz' : (clrM l.2.2.2.2.2 i == 0) = false := by simp [hz]
    clear hz
    go_upto_region 2 with fail
    generalize hw2 : w1.setCell _ _ = w2
    have H3 := Lib.hid (H2.out.mask 1 rfl hw2)
    clear hw2 H2 p0 p1 p2 p3 p4 p5 f5
    obtain ⟨p0, p1, p2, p3, p4, p5⟩ := (H3.out.at_ 1 rfl).line6
    have f0 := (H3.out.at_ 0 rfl).fz 0; have f1 := (H3.out.at_ 0 rfl).fz 1; have f2 := (H3.out.at_ 0 rfl).fz 2; have f3 := (H3.out.at_ 0 rfl).fz 3; have f4 := (H3.out.at_ 0 rfl).fz 4; have f5 := (H3.out.at_ 0 rfl).fz 5
    obtain ⟨q0, q1, q2, q3, q4, q5⟩ := (H3.out.at_ 0 rfl).line6
    go_wp2
    have H4 := H3.out.put6 0 rfl (y0 := .int .u64 l.1) (y1 := .bool l.2.1) (y2 := .bool l.2.2.1) (y3 := .bool l.2.2.2.1) (y4 := .bool l.2.2.2.2.1) (y5 := .int .u8 (clrM l.2.2.2.2.2 i)) rfl
    exact bodyPost_ret (results_cell_row rfl _ _ (w.heap.size + 1) _ _ _ _ rfl (H4.at_ 0 rfl) Tryd.underlying34 rfl rfl) rfl ⟨ret_val (by rw [HZ.out]; rfl), H4.below⟩
end Go.Proofs.YtmglikmphddicaaDoor
