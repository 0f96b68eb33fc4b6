/- Several texts of ours in one: Ic, Ht, Hw. -/
import Derived.Test.YtlpjbmlkpmhdlaaDoorGL8sHsIb
import Derived.Test.YtlpjbmlkpmhdlaaDoorGHuRlRs
import Derived.Test.YtlpjbmlkpmhdlaaDoorGVmRN
/- The document's Mark. (Laid by tools/gen_ic.py.) -/
namespace Go.Proofs.YtlpjbmlkpmhdlaaDoor
set_option linter.unusedVariables false
set_option linter.unusedSimpArgs false
open Go.ChangeShapes Go.WideShapes Go.ChangeAt Go.RowKit Go.Joins

set_option maxRecDepth 100000 in
set_option maxHeartbeats 3200000 in
theorem rmark_any {w : World} {M : Int} {vs vt : Value} {f : Int → Int} {tr : List Int} {L0 : List (Int × Int)} (h : Doc w M vs vt f tr L0) (hM : 14 ≤ M ∧ M ≤ 22) (hl : L0.length < 50000) (hwd : ∀ j, W64 (f j)) (A : Option Addr) (N c : Nat) (S : List (Int × Int × Int)) (hN : S.length = N) (hS : StepsIn w (.slice A N c) S) (hn : N ≤ 1000) (hw : ∀ k, k < N → W64 (stepAt S k).2.1)
    (y : Int) (W U X : Bool) (lv fr : Int) (dirty : Bool) :
    Calls Tryd.prog 18 #[.agg (docCells M vs vt), pathV (.slice A N c) y W U X lv fr, .bool dirty] w fun e w' => ∃ vs' L', e = .returned (.agg (docCells M vs' vt)) ∧ Doc w' M vs' vt (markN M f S (dirty && decide (y = 0)) N) tr L' ∧ L'.length ≤ L0.length + N ∧ Below w.heap.size w w' := by
  obtain ⟨A0, c0, A2, c2, rfl, rfl⟩ := h.form
  have H0 := Lib.hid (RMk.start h (.slice A N c) ⟨S, y, W, U, X, lv, fr⟩)
  have HN := Lib.hid hN
  have HS := Lib.hid hS
  have HW := Lib.hid hw
  have HWd := Lib.hid hwd
  clear h hN hS hw hwd
  have e6 : IntKind.i64.wrap ((N : Int) - 1) = (N : Int) - 1 := i64_wrap (by omega) (by omega)
  go_enter Tryd.func18, Tryd.ntmps18
  go_wp2
  go_loopw [7] (fun i wr => ∃ (k : Nat) (vs : Value) (L : List (Int × Int)), k ≤ N ∧ i = .int .i64 k ∧ L.length ≤ L0.length + k ∧ Hid (RMk w wr M vs (.slice A2 tr.length c2) (markN M f S (dirty && decide (y = 0)) k) tr L (.slice A N c) ⟨S, y, W, U, X, lv, fr⟩)) (fun i _ => (N - intOf i).toNat)
  case atStart => exact ⟨0, _, L0, by omega, rfl, by omega, H0⟩
  case round =>
    obtain ⟨k, vs, L, hk, rfl, hL, HK⟩ := hrel
    clear H0
    obtain ⟨A1, c1, _, _, rfl, _⟩ := HK.out.doc.form
    obtain ⟨p0, p1, p2, p3, p4, p5, p6⟩ := HK.out.pbox.seven
    obtain ⟨m0, m1, m2⟩ := HK.out.mbox.three
    by_cases hlt : k < N
    · obtain ⟨ad, rfl, d0, d1, d2⟩ := steps_at (HS.out.below HK.out.below) (k := k) (by rw [HN.out]; exact hlt)
      have hsw := Lib.hid (HW.out k hlt)
      have HF : Hid (markN M f S (dirty && decide (y = 0)) (k + 1) = orS M (markN M f S (dirty && decide (y = 0)) k) (stepAt S k).2.1 (flagN N (dirty && decide (y = 0)) k)) := Lib.hid (by rw [← HN.out]; rfl)
      have d1' : wr.cell? ⟨(ad.add (k * 3)).block, (ad.add (k * 3)).off + 1, none⟩ = some (.int .u64 (stepAt S k).2.1) := d1
      clear d0 d1 d2
      generalize (stepAt S k).2.1 = s at *
      by_cases hla : k + 1 = N
      · have hl2 : ((k : Int) == (N : Int) - 1) = true := by simp; omega
        cases dirty
        · have HQ : Hid (orS M (markN M f S (false && decide (y = 0)) k) s 32 = markN M f S (false && decide (y = 0)) (k + 1)) := Lib.hid (by rw [HF.out, show flagN N (false && decide (y = 0)) k = 32 from rfl])
          clear hla HF
          have C := fun w' hD => rset8_any (w := w') (M := M) (vs := .slice A1 L.length c1) (vt := .slice A2 tr.length c2) (f := markN M f S (false && decide (y = 0)) k) (tr := tr) (L := L) hD hM (by omega) (markN_words HWd.out k) s 32 hsw.out w64_32
          rw [HQ.out] at C
          go_wp2
          refine wp_region_still_tail 8 (by kernel_rfl) (by kernel_rfl) ?_
          simp only [List.take_succ_cons, List.take_zero, List.drop_succ_cons, List.drop_zero]
          repeat still_step
          refine wpStill_nil ?_
          change wpList _ _ _ _ _ wr.drew
          have HK2 := Lib.hid (HK.out.quiet (Kept.drew0 wr))
          clear HK p0 p1 p2 p3 p4 p5 p6 m0 m1 m2 d1' HQ
          generalize wr.drew = w2 at *
          go_wp2_with (first | (go_at_call 53; refine (C w2 HK2.out.doc).mono ?_; rintro e w3 ⟨vs', L', rfl, hD3, hL3, hB3⟩; have HK3 := Lib.hid (HK2.out.set hB3 hD3); have H3 := Lib.hid (HK2.out.quiet hB3); obtain ⟨A3, c3, _, _, rfl, _⟩ := hD3.form; clear hB3 hD3; obtain ⟨m0, m1, m2⟩ := H3.out.mbox.three; have z0 := H3.out.mbox.fz 0; have z1 := H3.out.mbox.fz 1; have z2 := H3.out.mbox.fz 2))
          go_roundw
          case rel => exact ⟨k + 1, _, L', by omega, by go_num, by omega, HK3⟩
          case measure => simp [intOf]; omega
        · by_cases hy : y = 0
          · have HQ : Hid (orS M (markN M f S (true && decide (y = 0)) k) s 96 = markN M f S (true && decide (y = 0)) (k + 1)) := Lib.hid (by rw [HF.out, show flagN N (true && decide (y = 0)) k = 96 from by unfold flagN; rw [if_pos (by simp [hla, hy])]])
            have hy2 : (y == 0) = true := by simpa using hy
            clear hla HF hy
            have C := fun w' hD => rset8_any (w := w') (M := M) (vs := .slice A1 L.length c1) (vt := .slice A2 tr.length c2) (f := markN M f S (true && decide (y = 0)) k) (tr := tr) (L := L) hD hM (by omega) (markN_words HWd.out k) s 96 hsw.out w64_96
            rw [HQ.out] at C
            go_wp2
            refine wp_region_still_tail 8 (by kernel_rfl) (by kernel_rfl) ?_
            simp only [List.take_succ_cons, List.take_zero, List.drop_succ_cons, List.drop_zero]
            repeat still_step
            refine wpStill_nil ?_
            change wpList _ _ _ _ _ wr.drew
            have HK2 := Lib.hid (HK.out.quiet (Kept.drew0 wr))
            clear HK p0 p1 p2 p3 p4 p5 p6 m0 m1 m2 d1' HQ
            generalize wr.drew = w2 at *
            go_wp2_with (first | (go_at_call 53; refine (C w2 HK2.out.doc).mono ?_; rintro e w3 ⟨vs', L', rfl, hD3, hL3, hB3⟩; have HK3 := Lib.hid (HK2.out.set hB3 hD3); have H3 := Lib.hid (HK2.out.quiet hB3); obtain ⟨A3, c3, _, _, rfl, _⟩ := hD3.form; clear hB3 hD3; obtain ⟨m0, m1, m2⟩ := H3.out.mbox.three; have z0 := H3.out.mbox.fz 0; have z1 := H3.out.mbox.fz 1; have z2 := H3.out.mbox.fz 2))
            go_roundw
            case rel => exact ⟨k + 1, _, L', by omega, by go_num, by omega, HK3⟩
            case measure => simp [intOf]; omega
          · have hy2 : (y == 0) = false := by simpa using hy
            have HQ : Hid (orS M (markN M f S (true && decide (y = 0)) k) s 32 = markN M f S (true && decide (y = 0)) (k + 1)) := Lib.hid (by rw [HF.out, show flagN N (true && decide (y = 0)) k = 32 from by unfold flagN; rw [if_neg (by simp [hy])]])
            clear hla HF hy
            have C := fun w' hD => rset8_any (w := w') (M := M) (vs := .slice A1 L.length c1) (vt := .slice A2 tr.length c2) (f := markN M f S (true && decide (y = 0)) k) (tr := tr) (L := L) hD hM (by omega) (markN_words HWd.out k) s 32 hsw.out w64_32
            rw [HQ.out] at C
            go_wp2
            refine wp_region_still_tail 8 (by kernel_rfl) (by kernel_rfl) ?_
            simp only [List.take_succ_cons, List.take_zero, List.drop_succ_cons, List.drop_zero]
            repeat still_step
            refine wpStill_nil ?_
            change wpList _ _ _ _ _ wr.drew
            have HK2 := Lib.hid (HK.out.quiet (Kept.drew0 wr))
            clear HK p0 p1 p2 p3 p4 p5 p6 m0 m1 m2 d1' HQ
            generalize wr.drew = w2 at *
            go_wp2_with (first | (go_at_call 53; refine (C w2 HK2.out.doc).mono ?_; rintro e w3 ⟨vs', L', rfl, hD3, hL3, hB3⟩; have HK3 := Lib.hid (HK2.out.set hB3 hD3); have H3 := Lib.hid (HK2.out.quiet hB3); obtain ⟨A3, c3, _, _, rfl, _⟩ := hD3.form; clear hB3 hD3; obtain ⟨m0, m1, m2⟩ := H3.out.mbox.three; have z0 := H3.out.mbox.fz 0; have z1 := H3.out.mbox.fz 1; have z2 := H3.out.mbox.fz 2))
            go_roundw
            case rel => exact ⟨k + 1, _, L', by omega, by go_num, by omega, HK3⟩
            case measure => simp [intOf]; omega
      · have hl2 : ((k : Int) == (N : Int) - 1) = false := by simp; omega
        have HQ : Hid (orS M (markN M f S (dirty && decide (y = 0)) k) s 32 = markN M f S (dirty && decide (y = 0)) (k + 1)) := Lib.hid (by rw [HF.out, show flagN N (dirty && decide (y = 0)) k = 32 from by unfold flagN; rw [if_neg (by simp [hla])]])
        clear hla HF
        have C := fun w' hD => rset8_any (w := w') (M := M) (vs := .slice A1 L.length c1) (vt := .slice A2 tr.length c2) (f := markN M f S (dirty && decide (y = 0)) k) (tr := tr) (L := L) hD hM (by omega) (markN_words HWd.out k) s 32 hsw.out w64_32
        rw [HQ.out] at C
        go_wp2
        refine wp_region_still_tail 8 (by kernel_rfl) (by kernel_rfl) ?_
        simp only [List.take_succ_cons, List.take_zero, List.drop_succ_cons, List.drop_zero]
        repeat still_step
        refine wpStill_nil ?_
        change wpList _ _ _ _ _ wr.drew
        have HK2 := Lib.hid (HK.out.quiet (Kept.drew0 wr))
        clear HK p0 p1 p2 p3 p4 p5 p6 m0 m1 m2 d1' HQ
        generalize wr.drew = w2 at *
        go_wp2_with (first | (go_at_call 53; refine (C w2 HK2.out.doc).mono ?_; rintro e w3 ⟨vs', L', rfl, hD3, hL3, hB3⟩; have HK3 := Lib.hid (HK2.out.set hB3 hD3); have H3 := Lib.hid (HK2.out.quiet hB3); obtain ⟨A3, c3, _, _, rfl, _⟩ := hD3.form; clear hB3 hD3; obtain ⟨m0, m1, m2⟩ := H3.out.mbox.three; have z0 := H3.out.mbox.fz 0; have z1 := H3.out.mbox.fz 1; have z2 := H3.out.mbox.fz 2))
        go_roundw
        case rel => exact ⟨k + 1, _, L', by omega, by go_num, by omega, HK3⟩
        case measure => simp [intOf]; omega
    · have hle : N ≤ k := by omega
      obtain rfl : k = N := by omega
      obtain ⟨q0, q1, q2⟩ := HK.out.res.three
      have r0 := HK.out.res.fz 0; have r1 := HK.out.res.fz 1; have r2 := HK.out.res.fz 2
      clear hk hlt HS
      go_wp2
      exact bodyPost_ret (results_cell_row rfl _ _ (w.heap.size + 2) _ _ _ _ rfl (HK.out.res.set3 _ _ _) Tryd.underlying34 rfl rfl) rfl ⟨_, rfl, L, HK.out.doc.box HK.out.res (by decide) (by decide) (turn3 _ _ _ _ _), hL, turn_below HK.out.below (turn3 _ _ _ _ _) (by omega) HK.out.below.size⟩
end Go.Proofs.YtlpjbmlkpmhdlaaDoor
/- Walks through words that are alike but for A and D. Two memories that turn by turns; a path beside both. -/
namespace Go.Proofs.YtlpjbmlkpmhdlaaDoor
set_option linter.unusedVariables false
set_option linter.unusedSimpArgs false
open Go.ChangeShapes Go.WideShapes Go.ChangeAt Go.RowKit Go.Joins

/-- two words alike but for the bits 5 and 6 -/
structure Al (x y : Int) : Prop where
  wx : W64 x
  wy : W64 y
  rest : ∀ i, i ≠ 5 → i ≠ 6 → tb x i = tb y i

theorem al_and {x y m : Int} (h : Al x y) (hm : W64 m) (h5 : tb m 5 = false) (h6 : tb m 6 = false) : bits .and .u64 x m = bits .and .u64 y m := by
  apply tb_ext (w64_bits _ _ _) (w64_bits _ _ _)
  intro i hi
  rw [tb_and h.wx.1 hm.1, tb_and h.wy.1 hm.1]
  by_cases e5 : i = 5
  · rw [e5, h5]; simp
  · by_cases e6 : i = 6
    · rw [e6, h6]; simp
    · rw [h.rest i e5 e6]
theorem al_mask {x y : Int} (h : Al x y) (lo n : Int) (hl : 6 < lo ∨ lo + n ≤ 5) : bits .and .u64 x (maskF lo n) = bits .and .u64 y (maskF lo n) := by
  apply al_and h (w64_mask _ _)
  · rw [tb_mask]
    rcases hl with hl | hl
    · rw [decide_eq_false (show ¬ lo ≤ ((5 : Nat) : Int) by omega)]; simp
    · rw [decide_eq_false (show ¬ ((5 : Nat) : Int) < lo + n by omega)]; simp
  · rw [tb_mask]
    rcases hl with hl | hl
    · rw [decide_eq_false (show ¬ lo ≤ ((6 : Nat) : Int) by omega)]; simp
    · rw [decide_eq_false (show ¬ ((6 : Nat) : Int) < lo + n by omega)]; simp
theorem al_bit {x y : Int} (h : Al x y) (i : Int) (hl : 6 < i ∨ i + 1 ≤ 5) : bitF x i = bitF y i := by unfold bitF; rw [al_mask h i 1 hl]
theorem al_has {x y : Int} (h : Al x y) (lo n : Int) (hl : 6 < lo) : hasF x (maskF lo n) = hasF y (maskF lo n) := by unfold hasF; rw [al_mask h lo n (Or.inl hl)]
theorem al_table {x y : Int} (h : Al x y) : tableF x = tableF y := by rw [← table_and h.wx, ← table_and h.wy, al_mask h 12 40 (Or.inl (by omega))]
theorem al_leaf {x y : Int} (h : Al x y) (l : Int) : leafF x l = leafF y l := by unfold leafF; rw [al_bit h 7 (Or.inl (by omega))]
theorem al_frame {x y : Int} (h : Al x y) (l : Int) : frameF x l = frameF y l := by unfold frameF; rw [al_leaf h, al_table h]
theorem al_res {x y : Int} (h : Al x y) (l b : Int) (nxe : Bool) : resF x l b nxe = resF y l b nxe := by
  unfold resF beyondF
  rw [al_has h (lowB b) (52 - lowB b) (by unfold lowB; split <;> omega), al_bit h 63 (Or.inl (by omega)), al_bit h 7 (Or.inl (by omega)), al_has h 13 8 (by omega), al_has h 13 17 (by omega)]
theorem al_bare {x y : Int} (h : Al x y) : bareF x = bareF y := by
  unfold bareF
  apply tb_ext (w64_bits _ _ _) (w64_bits _ _ _)
  intro i hi
  rw [tb_andNot h.wx.1 (by decide), tb_andNot h.wy.1 (by decide), tb_96]
  by_cases e5 : 5 = i
  · simp [e5]
  · by_cases e6 : 6 = i
    · simp [e6]
    · rw [h.rest i (fun e => e5 e.symm) (fun e => e6 e.symm)]
theorem Al.refl {x : Int} (h : W64 x) : Al x x := ⟨h, h, fun _ _ _ => rfl⟩
theorem Al.trans {x y z : Int} (a : Al x y) (b : Al y z) : Al x z := ⟨a.wx, b.wy, fun i h5 h6 => (a.rest i h5 h6).trans (b.rest i h5 h6)⟩
theorem Up.al {f g : Int → Int} (h : Up f g) (hf : ∀ j, W64 (f j)) (j : Int) : Al (f j) (g j) := ⟨hf j, h.w j, fun i h5 h6 => (h.rest j i h5 h6).symm⟩
/-- a word with A and D turned -/
theorem al_turn {x t : Int} (hx : W64 x) (h0 : 0 ≤ t) (h4 : t < 4) : Al x (bits .xor .u64 x (t * 32)) := by
  refine ⟨hx, w64_bits _ _ _, fun i h5 h6 => ?_⟩
  have e : tb (t * 32) i = false := by
    have : t = 0 ∨ t = 1 ∨ t = 2 ∨ t = 3 := by omega
    rcases this with rfl | rfl | rfl | rfl
    · exact tb_zero i
    · rw [show (1 : Int) * 32 = 32 from rfl, tb_32]; simpa using fun e => h5 e.symm
    · rw [show (2 : Int) * 32 = 64 from rfl, tb_64]; simpa using fun e => h6 e.symm
    · rw [show (3 : Int) * 32 = 96 from rfl, tb_96, decide_eq_false (fun e => h5 e.symm), decide_eq_false (fun e => h6 e.symm)]; rfl
  rw [tb_xor hx.1 (by omega), e]
  by_cases c : i < 64
  · simp [c]
  · rw [tb_ge hx (by omega)]; simp

/-- two walks alike but for A and D -/
structure AlP (P Q : Pth) : Prop where
  why : P.why = Q.why
  W : P.W = Q.W
  U : P.U = Q.U
  X : P.X = Q.X
  lev : P.lev = Q.lev
  fr : P.fr = Q.fr
  len : P.steps.length = Q.steps.length
  at_ : ∀ i, i < P.steps.length → (stepAt P.steps i).1 = (stepAt Q.steps i).1 ∧ (stepAt P.steps i).2.1 = (stepAt Q.steps i).2.1 ∧ bareF (stepAt P.steps i).2.2 = bareF (stepAt Q.steps i).2.2

theorem AlP.refl (P : Pth) : AlP P P := ⟨rfl, rfl, rfl, rfl, rfl, rfl, rfl, fun _ _ => ⟨rfl, rfl, rfl⟩⟩
theorem alp_cons {P Q : Pth} {l s x y : Int} (h : AlP P Q) (hx : bareF x = bareF y) : AlP (preP [(l, s, x)] P) (preP [(l, s, y)] Q) := by
  refine ⟨h.why, h.W, h.U, h.X, h.lev, h.fr, by simp [preP, h.len], fun i hi => ?_⟩
  rcases i with _ | i
  · exact ⟨rfl, rfl, hx⟩
  · have := h.at_ i (by simp [preP] at hi; omega)
    simpa [preP, stepAt] using this
theorem same_of {S T : List (Int × Int × Int)} : ∀ k, (∀ i, i < k → (stepAt S i).1 = (stepAt T i).1 ∧ (stepAt S i).2.1 = (stepAt T i).2.1 ∧ bareF (stepAt S i).2.2 = bareF (stepAt T i).2.2) → sameN S T k = true
  | 0, _ => rfl
  | k + 1, h => by
    obtain ⟨a, b, c⟩ := h k (by omega)
    unfold sameN
    rw [same_of k (fun i hi => h i (by omega)), a, b, c]; simp

theorem walk_alike {f h : Int → Int} (hA : ∀ j, Al (f j) (h j)) (a : Int) (nxe : Bool) : ∀ (n : Nat), n ≤ 4 → ∀ (t : Int) (W U X : Bool), AlP (walkZ 16 f a nxe n t W U X) (walkZ 16 h a nxe n t W U X)
  | 0, _, t, W, U, X => by rw [walk_off (by omega), walk_off (by omega)]; exact AlP.refl _
  | n + 1, hn, t, W, U, X => by
    rw [walk_in (by omega) (by omega), walk_in (by omega) (by omega)]
    by_cases he : errS 16 (slotF t a ((n + 1 : Nat) : Int)) = 0
    · rw [if_pos he, if_pos he]
      have hx := hA (slotF t a ((n + 1 : Nat) : Int) / 8)
      refine alp_cons ?_ (al_bare hx)
      generalize f (slotF t a ((n + 1 : Nat) : Int) / 8) = x at *
      generalize h (slotF t a ((n + 1 : Nat) : Int) / 8) = y at *
      have e0 := al_bit hx 0 (Or.inr (by omega))
      have e1 := al_bit hx 1 (Or.inr (by omega))
      have e2 := al_bit hx 2 (Or.inr (by omega))
      have e63 := al_bit hx 63 (Or.inl (by omega))
      unfold onP
      rw [e0, e1, e2, e63, al_res hx, al_leaf hx, al_frame hx, al_table hx]
      split
      · exact AlP.refl _
      · split
        · exact AlP.refl _
        · split
          · exact AlP.refl _
          · rw [show (((n + 1 : Nat) : Int)) - 1 = (n : Int) by omega]
            exact walk_alike hA a nxe n (by omega) _ _ _ _
    · rw [if_neg he, if_neg he]; exact AlP.refl _

/-- two memories that turn by turns -/
structure Par (w wr : World) (mk : Nat) (h : Int → Int) (tk : List Int) (nk : Nat) (G : Nat → Prop) (m : Nat) (f : Int → Int) (tm : List Int) (nm : Nat) (H : Nat → Prop) : Prop where
  k : Wk w wr (From w.heap.size) mk 16 h tk nk G
  m : Wk w wr (From w.heap.size) m 16 f tm nm H
  free : ∀ i, G i → ¬ H i
  sh : Shifts wr

section
variable {w wr w3 w4 : World} {mk m nk nm nk' : Nat} {h h' f : Int → Int} {tk tk' tm : List Int} {G G' H : Nat → Prop}
theorem Par.swap (p : Par w wr mk h tk nk G m f tm nm H) : Par w wr m f tm nm H mk h tk nk G := ⟨p.m, p.k, fun i hi hg => p.free i hg hi, p.sh⟩
theorem Par.quiet (p : Par w wr mk h tk nk G m f tm nm H) (hb : Below wr.heap.size wr w3) : Par w w3 mk h tk nk G m f tm nm H := ⟨p.k.quiet hb, p.m.quiet hb, p.free, shifts_under p.sh hb (size_shifts p.sh)⟩
theorem Par.step (p : Par w wr mk h tk nk G m f tm nm H) (hz : 0 < w.heap.size) (s : Wk wr w4 G mk 16 h' tk' nk' G') : Par w w4 mk h' tk' nk' G' m f tm nm H :=
  ⟨p.k.join s, p.m.other s.turn (fun i _ hg hh => p.free i hg hh) (fun i hi => (p.k.foot i hi).2), fun i hg hh => by
    rcases (s.foot i hg).2 with h1 | h1
    · exact p.free i h1 hh
    · have := (p.m.foot i hh).1; omega, shifts_turn p.sh s.turn (p.k.no0 hz)⟩
theorem wk_store {M : Int} (hm : Mem w3 (Since G wr) mk M h' tk' nk') (ht : Turn G wr w3) : Wk wr w3 G mk M h' tk' nk' (fun i => Since G wr i ∧ i < w3.heap.size) := by
  refine ⟨?_, fun i hi => ⟨hi.2, hi.1⟩, ht⟩
  obtain ⟨mb, v, D, hM, hF⟩ := hm
  exact ⟨mb, v, D, hM, fun i hi => ⟨hF i hi, hM.own_lt hi⟩⟩
end

/-- a path in a variable, beside blocks that turn -/
structure Pat (wr : World) (b : Nat) (v : Value) (P : Pth) (G H : Nat → Prop) : Prop where
  box : Blk wr b (pathCells v P) 38
  nb : ¬ G b ∧ ¬ H b
  own : StepsOwn 77 wr 0 v P.steps
  nv : ∀ i, v.ownBlock = some i → ¬ G i ∧ ¬ H i

section
variable {w wr w3 w4 : World} {B b mk m nk nm nk' : Nat} {v : Value} {P : Pth} {h h' f : Int → Int} {tk tk' tm : List Int} {G G' H : Nat → Prop}
theorem Pat.swap (p : Pat wr b v P G H) : Pat wr b v P H G := ⟨p.box, ⟨p.nb.2, p.nb.1⟩, p.own, fun i hi => ⟨(p.nv i hi).2, (p.nv i hi).1⟩⟩
theorem Pat.quiet (p : Pat wr b v P G H) (hb : Below wr.heap.size wr w3) : Pat w3 b v P G H := ⟨p.box.below hb, p.nb, p.own.below hb, p.nv⟩
theorem Pat.step (p : Pat wr b v P G H) (s : Wk wr w4 G mk 16 h' tk' nk' G') : Pat w4 b v P G' H :=
  ⟨p.box.turn s.turn p.nb.1, ⟨s.free p.nb.1 p.box.lt, p.nb.2⟩, p.own.turn s.turn (fun i hi => (p.nv i hi).1), fun i hi => ⟨s.free (p.nv i hi).1 (p.own.lt hi).2, (p.nv i hi).2⟩⟩
/-- a path that a walk through the memory mk answered is laid in a new variable -/
theorem Pat.new (q : Par w wr mk h tk nk G m f tm nm H) (hs : StepsOwn 77 wr B v P.steps) (hv : ∀ i, v.ownBlock = some i → ¬ G i) (hH : ∀ i, v.ownBlock = some i → ¬ H i) :
    Pat (wr.alloc (.cells (pathCells v P) 38)) wr.heap.size v P G H :=
  ⟨Blk.new _ _ _, ⟨fun hg => by have := (q.k.foot _ hg).1; omega, fun hg => by have := (q.m.foot _ hg).1; omega⟩, (hs.down (Nat.zero_le _)).below (below_alloc1 _ _), fun i hi => ⟨hv i hi, hH i hi⟩⟩
end

/-- Same of two walks that are alike -/
theorem same_alike {w : World} {P Q : Pth} (h : AlP P Q) (A A' : Option Addr) (c c' : Nat) (hl : P.steps.length ≤ maxLen) (h1 : StepsIn w (.slice A P.steps.length c) P.steps) (h2 : StepsIn w (.slice A' Q.steps.length c') Q.steps) :
    Calls Tryd.prog 21 #[pathV (.slice A P.steps.length c) P.why P.W P.U P.X P.lev P.fr, pathV (.slice A' Q.steps.length c') Q.why Q.W Q.U Q.X Q.lev Q.fr] w fun e w' => e = .returned (.bool true) ∧ Below w.heap.size w w' := by
  rw [← h.why, ← h.W, ← h.U, ← h.X, ← h.lev, ← h.fr, ← h.len]
  rw [← h.len] at h2
  have := same_yes w A A' P.steps.length c c' P.steps Q.steps P.why P.W P.U P.X P.lev P.fr rfl h.len.symm h1 h2 hl
  rw [same_of _ h.at_] at this
  exact this
end Go.Proofs.YtlpjbmlkpmhdlaaDoor
/- Same of package walk and of the document where two paths' heads differ; the document's Bare. (Laid by tools/gen_hw.py.) -/
namespace Go.Proofs.YtlpjbmlkpmhdlaaDoor
set_option linter.unusedVariables false
set_option linter.unusedSimpArgs false
open Go.ChangeShapes Go.WideShapes Go.ChangeAt Go.RowKit Go.Joins

theorem bare_with {x : Int} (hx : W64 x) : withF (withF x 5 false) 6 false = bareF x := by
  unfold bareF
  have h1 : W64 (withF x 5 false) := by unfold withF; rw [if_neg (by decide)]; exact w64_bits _ _ _
  apply tb_ext (by show W64 (withF (withF x 5 false) 6 false); generalize withF x 5 false = z; unfold withF; rw [if_neg (by decide)]; exact w64_bits _ _ _) (w64_bits _ _ _)
  intro i hi
  rw [tb_with h1, tb_with hx, tb_andNot hx.1 (by decide), tb_96]
  by_cases e5 : i = 5
  · subst e5; simp
  · by_cases e6 : i = 6
    · subst e6; simp
    · rw [if_neg (by omega), if_neg (by omega), decide_eq_false (show ¬ 5 = i from fun e => e5 e.symm), decide_eq_false (show ¬ 6 = i from fun e => e6 e.symm)]; simp [hi]

theorem bare_any (x : Int) (w : World) (hx : W64 x) :
    Calls Tryd.prog 56 #[.int .u64 x] w fun e w' => e = .returned (.int .u64 (bareF x)) ∧ w = w' := by
  have HW : Hid (W64 (withF x 5 false)) := Lib.hid (by unfold withF; rw [if_neg (by decide)]; exact w64_bits _ _ _)
  rw [← bare_with hx]
  go_enter Tryd.func56, Tryd.ntmps56
  go_wp2_with (go_at_call 75; (first | refine (rwith_any _ _ _ _ (by assumption)).mono ?_ | refine (rwith_any _ _ _ _ HW.out).mono ?_); rintro e w' ⟨rfl, rfl⟩)
  go_ret
  exact ⟨rfl, rfl⟩

set_option maxRecDepth 100000 in
set_option maxHeartbeats 6400000 in
theorem same_no (w : World) (A A' : Option Addr) (L L' c c' : Nat) (y y' : Int) (W W' U U' X X' : Bool) (lv lv' fr fr' : Int) (h : ¬ (y = y' ∧ W = W' ∧ U = U' ∧ X = X' ∧ lv = lv' ∧ fr = fr' ∧ L = L')) :
    Calls Tryd.prog 21 #[pathV (.slice A L c) y W U X lv fr, pathV (.slice A' L' c') y' W' U' X' lv' fr'] w fun e w' => e = .returned (.bool false) ∧ Below w.heap.size w w' := by
  by_cases h0 : y = y'
  rotate_left
  · have hb : (y != y') = true := by simpa using h0
    clear h h0
    go_enter Tryd.func21, Tryd.ntmps21
    go_wp2
    go_ret
    exact ⟨rfl, below2 w _ _⟩
  subst h0
  by_cases h1 : W = W'
  rotate_left
  · clear h
    cases W <;> cases W' <;> first | exact absurd rfl h1 | skip
    all_goals
      clear h1
      go_enter Tryd.func21, Tryd.ntmps21
      go_wp2
      go_ret
      exact ⟨rfl, below2 w _ _⟩
  subst h1
  by_cases h2 : U = U'
  rotate_left
  · clear h
    cases U <;> cases U' <;> first | exact absurd rfl h2 | skip
    all_goals
      clear h2
      go_enter Tryd.func21, Tryd.ntmps21
      go_wp2
      go_ret
      exact ⟨rfl, below2 w _ _⟩
  subst h2
  by_cases h3 : X = X'
  rotate_left
  · clear h
    cases X <;> cases X' <;> first | exact absurd rfl h3 | skip
    all_goals
      clear h3
      go_enter Tryd.func21, Tryd.ntmps21
      go_wp2
      go_ret
      exact ⟨rfl, below2 w _ _⟩
  subst h3
  by_cases h4 : lv = lv'
  rotate_left
  · have hb : (lv != lv') = true := by simpa using h4
    clear h h4
    go_enter Tryd.func21, Tryd.ntmps21
    go_wp2
    go_ret
    exact ⟨rfl, below2 w _ _⟩
  subst h4
  by_cases h5 : fr = fr'
  rotate_left
  · have hb : (fr != fr') = true := by simpa using h5
    clear h h5
    go_enter Tryd.func21, Tryd.ntmps21
    go_wp2
    go_ret
    exact ⟨rfl, below2 w _ _⟩
  subst h5
  have hb : ((L : Int) != (L' : Int)) = true := by simp; intro e; exact h ⟨rfl, rfl, rfl, rfl, rfl, rfl, by omega⟩
  clear h
  go_enter Tryd.func21, Tryd.ntmps21
  go_wp2
  go_ret
  exact ⟨rfl, below2 w _ _⟩

set_option maxRecDepth 100000 in
set_option maxHeartbeats 6400000 in
theorem rsame_no (w : World) (A A' : Option Addr) (L L' c c' : Nat) (y y' : Int) (W W' U U' X X' : Bool) (lv lv' fr fr' : Int) (h : ¬ (y = y' ∧ W = W' ∧ U = U' ∧ X = X' ∧ lv = lv' ∧ fr = fr' ∧ L = L')) :
    Calls Tryd.prog 22 #[pathV (.slice A L c) y W U X lv fr, pathV (.slice A' L' c') y' W' U' X' lv' fr'] w fun e w' => e = .returned (.bool false) ∧ Below w.heap.size w w' := by
  by_cases h0 : y = y'
  rotate_left
  · have hb : (y != y') = true := by simpa using h0
    clear h h0
    go_enter Tryd.func22, Tryd.ntmps22
    go_wp2
    go_ret
    exact ⟨rfl, below2 w _ _⟩
  subst h0
  by_cases h1 : W = W'
  rotate_left
  · clear h
    cases W <;> cases W' <;> first | exact absurd rfl h1 | skip
    all_goals
      clear h1
      go_enter Tryd.func22, Tryd.ntmps22
      go_wp2
      go_ret
      exact ⟨rfl, below2 w _ _⟩
  subst h1
  by_cases h2 : U = U'
  rotate_left
  · clear h
    cases U <;> cases U' <;> first | exact absurd rfl h2 | skip
    all_goals
      clear h2
      go_enter Tryd.func22, Tryd.ntmps22
      go_wp2
      go_ret
      exact ⟨rfl, below2 w _ _⟩
  subst h2
  by_cases h3 : X = X'
  rotate_left
  · clear h
    cases X <;> cases X' <;> first | exact absurd rfl h3 | skip
    all_goals
      clear h3
      go_enter Tryd.func22, Tryd.ntmps22
      go_wp2
      go_ret
      exact ⟨rfl, below2 w _ _⟩
  subst h3
  by_cases h4 : lv = lv'
  rotate_left
  · have hb : (lv != lv') = true := by simpa using h4
    clear h h4
    go_enter Tryd.func22, Tryd.ntmps22
    go_wp2
    go_ret
    exact ⟨rfl, below2 w _ _⟩
  subst h4
  by_cases h5 : fr = fr'
  rotate_left
  · have hb : (fr != fr') = true := by simpa using h5
    clear h h5
    go_enter Tryd.func22, Tryd.ntmps22
    go_wp2
    go_ret
    exact ⟨rfl, below2 w _ _⟩
  subst h5
  have hb : ((L : Int) != (L' : Int)) = true := by simp; intro e; exact h ⟨rfl, rfl, rfl, rfl, rfl, rfl, by omega⟩
  clear h
  go_enter Tryd.func22, Tryd.ntmps22
  go_wp2
  go_ret
  exact ⟨rfl, below2 w _ _⟩

end Go.Proofs.YtlpjbmlkpmhdlaaDoor
