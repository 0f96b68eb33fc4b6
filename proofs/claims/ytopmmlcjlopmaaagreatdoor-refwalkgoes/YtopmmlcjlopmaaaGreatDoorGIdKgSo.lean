/- Several texts of ours in one: Id, Kg, So. -/
import Derived.Test.YtopmmlcjlopmaaaGreatDoorGHsIbIc
import Derived.Test.YtopmmlcjlopmaaaGreatDoorGHvHxKd
import Derived.Test.YtopmmlcjlopmaaaGreatDoorGRfSmHe
import Derived.Test.YtopmmlcjlopmaaaGreatDoorGByWdMm
import Derived.Test.YtopmmlcjlopmaaaGreatDoorGVaVrFr
import Derived.Sort.LotD3
import Derived.Sort.LotB
import Derived.Sort.LotC
import Derived.BigQuiet
import Derived.RegionTactic
import Derived.BigRegion
import Derived.ChangeAlike
/- exact, of two paths that are the same; same, of a memory and the document's. (Laid by tools/gen_id.py.) -/
namespace Go.Proofs.YtopmmlcjlopmaaaGreatDoor
set_option linter.unusedVariables false
set_option linter.unusedSimpArgs false
open Go.ChangeShapes Go.WideShapes Go.ChangeAt Go.RowKit Go.Joins

theorem word_own {L : List (Int × Int)} (h : Ris L) {k : Nat} (hk : k < L.length) : wordL L (L.getD k (0, 0)).1 = (L.getD k (0, 0)).2 := by
  refine wordL_hit L _ k hk (fun j hj e => ?_) rfl
  have := List.pairwise_iff_getElem.1 h.up j k (by omega) hk hj
  simp [List.getD, List.getElem?_eq_getElem hk, List.getElem?_eq_getElem (show j < L.length by omega)] at e
  omega
theorem slot_own {L : List (Int × Int)} (h : Ris L) {k : Nat} (hk : k < L.length) : (L.getD k (0, 0)).1 % 8 = 0 ∧ 0 ≤ (L.getD k (0, 0)).1 :=
  h.al (L.getD k (0, 0)) (by simp [List.getD, List.getElem?_eq_getElem hk])

/-- same, in its loop -/
structure Sme (w wr : World) (M : Int) (vs vt : Value) (f : Int → Int) (tr : List Int) (L : List (Int × Int)) : Prop where
  box : Blk wr w.heap.size (docCells M vs vt) 45
  below : Below w.heap.size w wr
/-- what the region of same keeps -/
def RegM (w1 : World) (b : Nat) (M : Int) (vs vt : Value) (w' : World) : Prop := Blk w' b (docCells M vs vt) 45 ∧ Kept w1 w'
theorem regm_step {w1 : World} {b : Nat} {M : Int} {vs vt : Value} {w2 w3 : World} (h : RegM w1 b M vs vt w2) (hb : Below w2.heap.size w2 w3) : RegM w1 b M vs vt w3 := ⟨h.1.below hb, Kept.step hb h.2⟩

end Go.Proofs.YtopmmlcjlopmaaaGreatDoor
/- same of layer 9, of a memory and the document's. (Laid by tools/gen_kg.py.) -/
namespace Go.Proofs.YtopmmlcjlopmaaaGreatDoor
set_option linter.unusedVariables false
set_option linter.unusedSimpArgs false
open Go.ChangeShapes Go.WideShapes Go.ChangeAt Go.RowKit Go.Joins

set_option maxRecDepth 100000 in
set_option maxHeartbeats 3200000 in
theorem same9_any {w : World} {F : Nat → Prop} {m : Nat} {M : Int} {f : Int → Int} {tr : List Int} {n : Nat} {vs vt : Value} {L : List (Int × Int)} (h : Mem w F m M f tr n) (hd : Doc w M vs vt f tr L) (hl : L.length < 90000) (ht : tr.length < 90000) (hn : n < 1000000) :
    Calls Tryz.prog 15 #[.pointer (some ⟨m, 0, none⟩), .agg (docCells M vs vt)] w fun e w' => e = .returned (.bool true) ∧ Below w.heap.size w w' := by
  obtain ⟨A, c, A', c', rfl, rfl⟩ := hd.form
  have HM := Lib.hid h
  have HD := Lib.hid hd
  have HR : Hid (Blk (w.alloc (.cells (docCells M (.slice A L.length c) (.slice A' tr.length c')) 45)) w.heap.size (docCells M (.slice A L.length c) (.slice A' tr.length c')) 45 ∧ Below w.heap.size w (w.alloc (.cells (docCells M (.slice A L.length c) (.slice A' tr.length c')) 45))) := Lib.hid ⟨Blk.new _ _ _, below_alloc1 _ _⟩
  clear h hd
  go_enter Tryz.func15, Tryz.ntmps15
  go_wp2
  go_loopw [5] (fun i wr => ∃ k : Nat, k ≤ L.length ∧ i = .int .i64 k ∧ Blk wr w.heap.size (docCells M (.slice A L.length c) (.slice A' tr.length c')) 45 ∧ Below w.heap.size w wr) (fun i _ => (L.length - intOf i).toNat)
  case atStart => exact ⟨0, by omega, rfl, HR.out.1, HR.out.2⟩
  case round =>
    obtain ⟨k, hk, rfl, hX, hB⟩ := hrel
    clear HR
    have HX := Lib.hid hX
    have HB := Lib.hid hB
    clear hX hB
    obtain ⟨p0, p1, p2⟩ := HX.out.three
    by_cases hlt : k < L.length
    · obtain ⟨A1, c1, hv, hc⟩ := SlotsOwn.form (own_below HD.out.slots HB.out)
      obtain ⟨g, hA, d0, d1⟩ := hc k hlt
      obtain ⟨rfl, _⟩ : A = A1 ∧ True := by simp at hv; exact ⟨hv.1, trivial⟩
      subst hA
      have hs := slot_own HD.out.ris hlt
      have he : errS M (L.getD k (0, 0)).1 = 0 := HD.out.ins _ (by simp [List.getD, List.getElem?_eq_getElem hlt])
      have hsw : W64 (L.getD k (0, 0)).1 := by
        have h1 := (errS_in he).1
        have h2 := sizeM_bd HM.out.bits
        exact ⟨hs.2, by omega⟩
      have hpv : peekV M f (L.getD k (0, 0)).1 = (L.getD k (0, 0)).2 := by
        rw [show peekV M f (L.getD k (0, 0)).1 = f ((L.getD k (0, 0)).1 / 8) from if_pos he, HD.out.agree, aligned hs.1, word_own HD.out.ris hlt]
      have C := mpeek_any (HM.out.kept HB.out) (L.getD k (0, 0)).1 hsw
      rw [he, hpv] at C
      clear hv hc hs he hsw hpv
      generalize (L.getD k (0, 0)).1 = s at *
      generalize (L.getD k (0, 0)).2 = x at *
      go_wp2_with (first | (go_at_call 38; refine C.mono ?_; rintro e w' ⟨rfl, rfl⟩))
      go_roundw
      case rel => exact ⟨k + 1, by omega, by go_num, HX.out, HB.out⟩
      case measure => simp [intOf]; omega
    · have hle : L.length ≤ k := by omega
      have CT : ∀ w', Kept wr w' → Calls Tryz.prog 20 #[.pointer (some ⟨m, 0, none⟩)] w' fun e w'' => ∃ v', e = .returned v' ∧ w''.ownsRow w'.heap.size 23 1 v' tr.length (tr.map (Value.int .u64)) ∧ Below w'.heap.size w' w'' := fun w' hk => mtrace_any ((HM.out.kept HB.out).kept hk) hn
      have HWo := Lib.hid (own_below HD.out.words HB.out : WordsOwn wr (.slice A' tr.length c') tr)
      clear hk hlt
      go_upto_region 7 with fail
      have H0 : RegM wr w.heap.size M (.slice A L.length c) (.slice A' tr.length c') wr.drew := ⟨HX.out, Kept.drew0 _⟩
      clear HX p0 p1 p2
      refine wp_region_held_drew (S := RegM wr w.heap.size M (.slice A L.length c) (.slice A' tr.length c')) (by kernel_rfl) H0 (fun hHeld => ?_)
      clear H0
      generalize wr.drew = wd at *
      refine anyH_take (i := 0) (v := ?_) rfl (by kernel_rfl) (by kernel_rfl) (by kernel_rfl) (fun _ _ _ h => h) (by rfl) (by assumption) ?_ ?_
      rotate_left
      · intro w hSw
        go_simp
        (try with_reducible rfl)
      (try simp only [Act.put, List.setIfInBounds_toArray, List.set_cons_zero, List.set_cons_succ])
      refine anyH_take (i := 2) (v := ?_) rfl (by kernel_rfl) (by kernel_rfl) (by kernel_rfl) (fun _ _ _ h => h) (by rfl) (by assumption) ?_ ?_
      rotate_left
      · intro w hSw
        go_simp
        (try with_reducible rfl)
      (try simp only [Act.put, List.setIfInBounds_toArray, List.set_cons_zero, List.set_cons_succ])
      refine anyH_take (i := 3) (v := ?_) rfl (by kernel_rfl) (by kernel_rfl) (by kernel_rfl) (fun _ _ _ h => h) (by rfl) (by assumption) ?_ ?_
      rotate_left
      · intro w hSw
        obtain ⟨hA, hk9⟩ := hSw
        obtain ⟨b0, b1, b2⟩ := hA.three
        go_simp
        (try with_reducible rfl)
      (try simp only [Act.put, List.setIfInBounds_toArray, List.set_cons_zero, List.set_cons_succ])
      refine wpAnyH_ready (rs := [1]) (by kernel_rfl) (by simp) ?_
      refine anyH_one rfl (fun K hK => ?_) ?_
      · go_simp
        have hHeld0 := hHeld
        refine (CT _ hHeld.2).mono ?_
        rintro e w5 ⟨v5, rfl, hO, hb5⟩
        obtain ⟨A5, c5, rfl⟩ := own_len hO
        refine hK.out _ _ (regm_step hHeld hb5) (fun hHeld => ?_)
        clear hK K
        (try simp only [Act.put, List.setIfInBounds_toArray, List.set_cons_zero, List.set_cons_succ])
        refine wpAnyH_ready (rs := [4]) (by kernel_rfl) (by simp) ?_
        refine anyH_one rfl (fun K hK => ?_) ?_
        · go_simp
          refine (same_any _ _ _ tr (row_zero hO) (own_below (own_below HWo.out hHeld0.2) hb5) (by omega)).mono ?_
          rintro e w6 ⟨rfl, ny, rfl⟩
          refine hK.out _ _ (regm_step hHeld (drewN_below _ _)) (fun hHeld => ?_)
          clear hK K
          (try simp only [Act.put, List.setIfInBounds_toArray, List.set_cons_zero, List.set_cons_succ])
          refine wpAnyH_ready (rs := [5]) (by kernel_rfl) (by simp) ?_
          refine anyH_one rfl (fun K hK => ?_) ?_
          · go_simp
            refine hK.out _ _ hHeld (fun hHeld => ?_)
            clear hK K
            (try simp only [Act.put, List.setIfInBounds_toArray, List.set_cons_zero, List.set_cons_succ])
            refine wpAnyH_done (by kernel_rfl) ?_ _
            have HE := Lib.hid (HB.out.trans (Below.mono hHeld.2 HB.out.size))
            clear hHeld
            go_wp2
            go_ret
            exact ⟨rfl, HE.out⟩
          exact AllReadyH.nil
        exact AllReadyH.nil
      exact AllReadyH.nil
end Go.Proofs.YtopmmlcjlopmaaaGreatDoor
/- slices.Sort at uint64, at fewer than fifty: a row of words and what turns; cmp.Less; insertionSortOrdered. -/
namespace Go.Proofs.YtopmmlcjlopmaaaGreatDoor
set_option linter.unusedVariables false
set_option linter.unusedSimpArgs false
open Go.ChangeShapes Go.WideShapes Go.ChangeAt Go.RowKit
open Go.Sort (swp insInner insOuter insertionSort ltInt)

/-- block g is a row of N words, of which the first are d -/
def Row (w : World) (g N : Nat) (d : Array Int) : Prop := ∃ c : Array Value, w.heap[g]? = some (.cells c 23 (0, 0)) ∧ c.size = N ∧ d.size ≤ N ∧ ∀ i, i < d.size → c[i]? = some (.int .u64 d[i]!)

/-- w' is w but for the row, which is d, and new blocks -/
structure Srt (w w' : World) (g N : Nat) (d : Array Int) : Prop where
  turn : Turn (fun i => i = g) w w'
  row : Row w' g N d

section
variable {w w' w2 : World} {g N : Nat} {d d' : Array Int}

theorem Row.cell (h : Row w g N d) {i : Nat} (hi : i < d.size) : w.cell? ⟨g, i, none⟩ = some (.int .u64 d[i]!) := by
  obtain ⟨c, hc, _, _, hv⟩ := h
  simp only [World.cell?]
  rw [hc]
  exact hv i hi
theorem Row.free (h : Row w g N d) (i : Nat) : w.frozen? ⟨g, i, none⟩ = false := by
  obtain ⟨c, hc, _⟩ := h
  simp [World.frozen?, hc]
theorem Row.lt (h : Row w g N d) : g < w.heap.size := by
  obtain ⟨c, hc, _⟩ := h
  exact lt_of_block hc
theorem Row.drewN (h : Row w g N d) (n : Nat) : Row (w.drewN n) g N d := h
theorem Row.set (h : Row w g N d) {i : Nat} (hi : i < d.size) (x : Int) : Row (w.setCell ⟨g, i, none⟩ (.int .u64 x)) g N (d.setIfInBounds i x) := by
  obtain ⟨c, hc, hN, hd, hv⟩ := h
  refine ⟨c.setIfInBounds i (.int .u64 x), ?_, by simpa using hN, by simpa using hd, fun j hj => ?_⟩
  · simp [World.setCell, Array.getElem?_modify, hc]
  · have hj' : j < d.size := by simpa using hj
    rw [Array.getElem?_setIfInBounds]
    by_cases e : j = i
    · subst e
      rw [if_pos rfl, if_pos (by omega), Sort.getElem!_set_same d j x hi]
    · rw [if_neg (fun h => e h.symm), hv j hj', Sort.getElem!_set_other d i j x e]
theorem Srt.start (h : Row w g N d) : Srt w w g N d := ⟨Turn.refl _ _, h⟩
theorem Srt.drew (h : Srt w w' g N d) : Srt w w'.drew g N d := ⟨⟨h.turn.os, h.turn.tape, h.turn.output, h.turn.size, h.turn.block⟩, h.row⟩
theorem Srt.drewN (h : Srt w w' g N d) (n : Nat) : Srt w (w'.drewN n) g N d := ⟨⟨h.turn.os, h.turn.tape, h.turn.output, h.turn.size, h.turn.block⟩, h.row⟩
theorem Srt.trans (h : Srt w w' g N d) (k : Srt w' w2 g N d') : Srt w w2 g N d' := ⟨h.turn.trans (k.turn.mono fun i _ hi => Or.inl hi), k.row⟩
theorem Srt.swap (h : Srt w w' g N d) {i j : Nat} (hi : i < d.size) (hj : j < d.size) : Srt w ((w'.setCell ⟨g, i, none⟩ (.int .u64 d[j]!)).setCell ⟨g, j, none⟩ (.int .u64 d[i]!)) g N (swp d i j) :=
  ⟨h.turn.trans (Turn.trans (Turn.setCell _ _ _ _ (Or.inl rfl)) ((Turn.setCell _ _ _ _ (Or.inl (Or.inl rfl))))), (h.row.set hi _).set (by simpa using hj) _⟩
theorem Srt.swap' (h : Srt w w' g N d) {i j : Nat} (hi : i < d.size) (hj : j < d.size) {x y : Int} (hx : d[i]! = x) (hy : d[j]! = y) : Srt w ((w'.setCell ⟨g, i, none⟩ (.int .u64 y)).setCell ⟨g, j, none⟩ (.int .u64 x)) g N (swp d i j) := by
  rw [← hx, ← hy]; exact h.swap hi hj
theorem Srt.alloc (h : Srt w w' g N d) (o : Obj) : Srt w (w'.alloc o) g N d := by
  refine ⟨h.turn.trans (Turn.alloc _ _ _), ?_⟩
  obtain ⟨c, hc, r⟩ := h.row
  exact ⟨c, (Below.heap_alloc _ _ _ (lt_of_block hc)).trans hc, r⟩
end

theorem isNaN_any (x : Int) (w : World) : Calls Tryz.prog 140 #[.int .u64 x] w fun e w' => e = .returned (.bool false) ∧ w = w' := by
  go_enter Tryz.func140, Tryz.ntmps140
  go_wp2
  go_ret
  exact ⟨by simp, rfl⟩

theorem less_any (x y : Int) (w : World) : Calls Tryz.prog 130 #[.int .u64 x, .int .u64 y] w fun e w' => e = .returned (.bool (ltInt x y)) ∧ w = w' := by
  go_enter Tryz.func130, Tryz.ntmps130
  go_wp2_with (go_at_call 140; refine (isNaN_any _ _).mono ?_; rintro e w' ⟨rfl, rfl⟩)
  go_ret
  exact ⟨rfl, rfl⟩

theorem insOuter_more {a b i : Nat} {d : Array Int} (h : i < b) : insOuter ltInt a b i d = insOuter ltInt a b (i + 1) (insInner ltInt a i d) := by
  rw [insOuter, if_pos h]
theorem insOuter_end {a b i : Nat} {d : Array Int} (h : ¬ i < b) : insOuter ltInt a b i d = d := by
  rw [insOuter, if_neg h]

theorem ins_stop {a j : Nat} {d : Array Int} (h : j ≤ a) : insInner ltInt a j d = d := by
  rcases j with _ | q
  · rfl
  · simp only [insInner]
    rw [if_neg (by simp; omega)]
theorem ins_stop2 {a q : Nat} {d : Array Int} (h : ltInt d[q + 1]! d[q]! = false) : insInner ltInt a (q + 1) d = d := by
  simp only [insInner]
  rw [h]; simp
theorem ins_go {a q : Nat} {d : Array Int} (h0 : a < q + 1) (h : ltInt d[q + 1]! d[q]! = true) : insInner ltInt a (q + 1) d = insInner ltInt a q (swp d (q + 1) q) := by
  simp only [insInner]
  rw [h, if_pos (by simp; omega)]

set_option maxRecDepth 100000 in
set_option maxHeartbeats 4000000 in
theorem ins_any (w : World) (g N cap : Nat) (d : Array Int) (a b : Nat) (hS : Row w g N d) (hab : a ≤ b) (hb : b ≤ d.size) (hn : d.size < 50) :
    Calls Tryz.prog 124 #[.slice (some ⟨g, 0, none⟩) d.size cap, .int .i64 a, .int .i64 b] w fun e w' => e = .returned (.tuple #[]) ∧ Srt w w' g N (insertionSort ltInt d a b) ∧ (insertionSort ltInt d a b).size = d.size := by
  obtain ⟨n, hnd⟩ : ∃ n, d.size = n := ⟨_, rfl⟩
  rw [hnd] at hb hn ⊢
  go_enter Tryz.func124, Tryz.ntmps124
  go_wp2
  go_loopw [6] (fun v wr => ∃ (i : Nat) (d1 : Array Int), a + 1 ≤ i ∧ i ≤ n + 1 ∧ v = .int .i64 i ∧ d1.size = n ∧ insOuter ltInt a b i d1 = insertionSort ltInt d a b ∧ Srt w wr g N d1) (fun v _ => (n + 1 - intOf v).toNat)
  case atStart => exact ⟨a + 1, d, by omega, by omega, by go_num, hnd, rfl, Srt.start hS⟩
  case round =>
    obtain ⟨i, d1, hi1, hi2, rfl, hd1, hE, hR⟩ := hrel
    by_cases hlt : i < b
    · have HE := Lib.hid hE
      clear hE
      go_wp2
      go_loopw [7] (fun v wr2 => ∃ (j : Nat) (d2 : Array Int), j ≤ i ∧ v = .int .i64 j ∧ d2.size = n ∧ insInner ltInt a j d2 = insInner ltInt a i d1 ∧ Srt w wr2 g N d2) (fun v _ => (intOf v).toNat)
      case atStart => exact ⟨i, d1, Nat.le_refl _, rfl, hd1, rfl, hR⟩
      case round =>
        obtain ⟨j, d2, hj, rfl, hd2, hE2, hR2⟩ := hrel
        by_cases haj : a < j
        · obtain ⟨q, rfl⟩ : ∃ q, j = q + 1 := ⟨j - 1, by omega⟩
          have c1 := hR2.row.cell (i := q + 1) (by omega)
          have c2 := hR2.row.cell (i := q) (by omega)
          have f1 := hR2.row.free (q + 1)
          have f2 := hR2.row.free q
          have HS := Lib.hid (hR2.swap (i := q + 1) (j := q) (by omega) (by omega))
          have HE2 := Lib.hid hE2
          obtain ⟨x, hx⟩ : ∃ x, d2[q + 1]! = x := ⟨_, rfl⟩
          obtain ⟨y, hy⟩ : ∃ y, d2[q]! = y := ⟨_, rfl⟩
          have HXY := Lib.hid (And.intro hx hy)
          rw [hx] at c1
          rw [hy] at c2
          clear hx hy hE2
          have e1 : ((q : Int) + 1 - 1) = q := by omega
          have hq1 : (a : Int) < q + 1 := by omega
          have hq2 : (q : Int) + 1 < n := by omega
          by_cases hl : ltInt x y = true
          · have E := Lib.hid ((ins_go (a := a) (q := q) (d := d2) haj (by rw [HXY.out.1, HXY.out.2]; exact hl)).symm.trans HE2.out)
            go_wp2
            go_quiet (first | (go_at_call 130; exact quietOf (less_any _ _ _)))
            go_wp2
            go_region
            go_wp2
            go_roundw
            case rel => exact ⟨q, swp d2 (q + 1) q, by omega, rfl, by rw [Sort.size_swp]; exact hd2, E.out, (hR2.drewN _).swap' (by omega) (by omega) HXY.out.1 HXY.out.2⟩
            case measure => simp [intOf]
          · have hl' : ltInt x y = false := by simpa using hl
            have E := Lib.hid ((ins_stop2 (a := a) (q := q) (d := d2) (by rw [HXY.out.1, HXY.out.2]; exact hl')).symm.trans HE2.out)
            have EO := Lib.hid ((insOuter_more (a := a) (d := d1) hlt).symm.trans HE.out)
            clear hl
            go_wp2
            go_quiet (first | (go_at_call 130; exact quietOf (less_any _ _ _)))
            go_wp2
            go_roundw
            case rel => exact ⟨i + 1, d2, by omega, by omega, by go_num, hd2, by rw [E.out]; exact EO.out, hR2.drewN _⟩
            case measure => simp [intOf]; omega
        · have E := Lib.hid ((ins_stop (d := d2) (show j ≤ a by omega)).symm.trans hE2)
          have EO := Lib.hid ((insOuter_more (a := a) (d := d1) hlt).symm.trans HE.out)
          have hg : decide ((a : Int) < (j : Int)) = false := by simp; omega
          clear hE2
          go_wp2
          go_quiet (fail)
          go_wp2
          go_roundw
          case rel => exact ⟨i + 1, d2, by omega, by omega, by go_num, hd2, by rw [E.out]; exact EO.out, hR2.drewN _⟩
          case measure => simp [intOf]; omega
    · have HE := Lib.hid ((insOuter_end hlt).symm.trans hE)
      have hle : b ≤ i := by omega
      clear hE
      go_wp2
      go_end0
      exact ⟨rfl, by rw [← HE.out]; exact hR, by rw [← HE.out]; exact hd1⟩

end Go.Proofs.YtopmmlcjlopmaaaGreatDoor
