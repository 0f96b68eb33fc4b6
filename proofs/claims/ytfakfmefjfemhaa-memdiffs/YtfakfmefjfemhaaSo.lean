/- slices.Sort at uint64, at fewer than fifty: a row of words and what turns; cmp.Less; insertionSortOrdered. -/
import Derived.Test.YtfakfmefjfemhaaMm
import Derived.Test.YtfakfmefjfemhaaFr
import Derived.Sort.LotD3
import Derived.Sort.LotB
import Derived.Sort.LotC
import Derived.BigQuiet
import Derived.RegionTactic
import Derived.BigRegion
import Derived.ChangeAlike
namespace Go.Proofs.Ytfakfmefjfemhaa
set_option linter.unusedVariables false
set_option linter.unusedSimpArgs false
open Go.ChangeShapes Go.WideShapes Go.ChangeAt Go.RowKit
open Go.Sort (swp insInner insOuter insertionSort ltInt)

/-- block g is a row of N words, of which the first are d -/
def Row (w : World) (g N : Nat) (d : Array Int) : Prop := ∃ c : Array Value, w.heap[g]? = some (.cells c 30 (0, 0)) ∧ c.size = N ∧ d.size ≤ N ∧ ∀ i, i < d.size → c[i]? = some (.int .u64 d[i]!)

/-- w' is w but for the row, which is d, and new blocks -/
structure Srt (w w' : World) (g N : Nat) (d : Array Int) : Prop where
  turn : Turn (fun i => i = g) w w'
  row : Row w' g N d

section
variable {w w' w2 : World} {g N : Nat} {d d' : Array Int}

theorem Row.cell (h : Row w g N d) {i : Nat} (hi : i < d.size) : w.cell? ⟨g, i, none⟩ = some (.int .u64 d[i]!) := by
  obtain ⟨c, hc, _, _, hv⟩ := h
  simp only [World.cell?]
  rw [hc]
  exact hv i hi
theorem Row.free (h : Row w g N d) (i : Nat) : w.frozen? ⟨g, i, none⟩ = false := by
  obtain ⟨c, hc, _⟩ := h
  simp [World.frozen?, hc]
theorem Row.lt (h : Row w g N d) : g < w.heap.size := by
  obtain ⟨c, hc, _⟩ := h
  exact lt_of_block hc
theorem Row.drewN (h : Row w g N d) (n : Nat) : Row (w.drewN n) g N d := h
theorem Row.set (h : Row w g N d) {i : Nat} (hi : i < d.size) (x : Int) : Row (w.setCell ⟨g, i, none⟩ (.int .u64 x)) g N (d.setIfInBounds i x) := by
  obtain ⟨c, hc, hN, hd, hv⟩ := h
  refine ⟨c.setIfInBounds i (.int .u64 x), ?_, by simpa using hN, by simpa using hd, fun j hj => ?_⟩
  · simp [World.setCell, Array.getElem?_modify, hc]
  · have hj' : j < d.size := by simpa using hj
    rw [Array.getElem?_setIfInBounds]
    by_cases e : j = i
    · subst e
      rw [if_pos rfl, if_pos (by omega), Sort.getElem!_set_same d j x hi]
    · rw [if_neg (fun h => e h.symm), hv j hj', Sort.getElem!_set_other d i j x e]
theorem Srt.start (h : Row w g N d) : Srt w w g N d := ⟨Turn.refl _ _, h⟩
theorem Srt.drew (h : Srt w w' g N d) : Srt w w'.drew g N d := ⟨⟨h.turn.os, h.turn.tape, h.turn.output, h.turn.size, h.turn.block⟩, h.row⟩
theorem Srt.drewN (h : Srt w w' g N d) (n : Nat) : Srt w (w'.drewN n) g N d := ⟨⟨h.turn.os, h.turn.tape, h.turn.output, h.turn.size, h.turn.block⟩, h.row⟩
theorem Srt.trans (h : Srt w w' g N d) (k : Srt w' w2 g N d') : Srt w w2 g N d' := ⟨h.turn.trans (k.turn.mono fun i _ hi => Or.inl hi), k.row⟩
theorem Srt.swap (h : Srt w w' g N d) {i j : Nat} (hi : i < d.size) (hj : j < d.size) : Srt w ((w'.setCell ⟨g, i, none⟩ (.int .u64 d[j]!)).setCell ⟨g, j, none⟩ (.int .u64 d[i]!)) g N (swp d i j) :=
  ⟨h.turn.trans (Turn.trans (Turn.setCell _ _ _ _ (Or.inl rfl)) ((Turn.setCell _ _ _ _ (Or.inl (Or.inl rfl))))), (h.row.set hi _).set (by simpa using hj) _⟩
theorem Srt.swap' (h : Srt w w' g N d) {i j : Nat} (hi : i < d.size) (hj : j < d.size) {x y : Int} (hx : d[i]! = x) (hy : d[j]! = y) : Srt w ((w'.setCell ⟨g, i, none⟩ (.int .u64 y)).setCell ⟨g, j, none⟩ (.int .u64 x)) g N (swp d i j) := by
  rw [← hx, ← hy]; exact h.swap hi hj
theorem Srt.alloc (h : Srt w w' g N d) (o : Obj) : Srt w (w'.alloc o) g N d := by
  refine ⟨h.turn.trans (Turn.alloc _ _ _), ?_⟩
  obtain ⟨c, hc, r⟩ := h.row
  exact ⟨c, (Below.heap_alloc _ _ _ (lt_of_block hc)).trans hc, r⟩
end

theorem isNaN_any (x : Int) (w : World) : Calls Try.prog 79 #[.int .u64 x] w fun e w' => e = .returned (.bool false) ∧ w = w' := by
  go_enter Try.func79, Try.ntmps79
  go_wp2
  go_ret
  exact ⟨by simp, rfl⟩

theorem less_any (x y : Int) (w : World) : Calls Try.prog 69 #[.int .u64 x, .int .u64 y] w fun e w' => e = .returned (.bool (ltInt x y)) ∧ w = w' := by
  go_enter Try.func69, Try.ntmps69
  go_wp2_with (go_at_call 79; refine (isNaN_any _ _).mono ?_; rintro e w' ⟨rfl, rfl⟩)
  go_ret
  exact ⟨rfl, rfl⟩

theorem insOuter_more {a b i : Nat} {d : Array Int} (h : i < b) : insOuter ltInt a b i d = insOuter ltInt a b (i + 1) (insInner ltInt a i d) := by
  rw [insOuter, if_pos h]
theorem insOuter_end {a b i : Nat} {d : Array Int} (h : ¬ i < b) : insOuter ltInt a b i d = d := by
  rw [insOuter, if_neg h]

theorem ins_stop {a j : Nat} {d : Array Int} (h : j ≤ a) : insInner ltInt a j d = d := by
  rcases j with _ | q
  · rfl
  · simp only [insInner]
    rw [if_neg (by simp; omega)]
theorem ins_stop2 {a q : Nat} {d : Array Int} (h : ltInt d[q + 1]! d[q]! = false) : insInner ltInt a (q + 1) d = d := by
  simp only [insInner]
  rw [h]; simp
theorem ins_go {a q : Nat} {d : Array Int} (h0 : a < q + 1) (h : ltInt d[q + 1]! d[q]! = true) : insInner ltInt a (q + 1) d = insInner ltInt a q (swp d (q + 1) q) := by
  simp only [insInner]
  rw [h, if_pos (by simp; omega)]

set_option maxRecDepth 100000 in
set_option maxHeartbeats 4000000 in
theorem ins_any (w : World) (g N cap : Nat) (d : Array Int) (a b : Nat) (hS : Row w g N d) (hab : a ≤ b) (hb : b ≤ d.size) (hn : d.size < 50) :
    Calls Try.prog 63 #[.slice (some ⟨g, 0, none⟩) d.size cap, .int .i64 a, .int .i64 b] w fun e w' => e = .returned (.tuple #[]) ∧ Srt w w' g N (insertionSort ltInt d a b) ∧ (insertionSort ltInt d a b).size = d.size := by
  obtain ⟨n, hnd⟩ : ∃ n, d.size = n := ⟨_, rfl⟩
  rw [hnd] at hb hn ⊢
  go_enter Try.func63, Try.ntmps63
  go_wp2
  go_loopw [6] (fun v wr => ∃ (i : Nat) (d1 : Array Int), a + 1 ≤ i ∧ i ≤ n + 1 ∧ v = .int .i64 i ∧ d1.size = n ∧ insOuter ltInt a b i d1 = insertionSort ltInt d a b ∧ Srt w wr g N d1) (fun v _ => (n + 1 - intOf v).toNat)
  case atStart => exact ⟨a + 1, d, by omega, by omega, by go_num, hnd, rfl, Srt.start hS⟩
  case round =>
    obtain ⟨i, d1, hi1, hi2, rfl, hd1, hE, hR⟩ := hrel
    by_cases hlt : i < b
    · have HE := Lib.hid hE
      clear hE
      go_wp2
      go_loopw [7] (fun v wr2 => ∃ (j : Nat) (d2 : Array Int), j ≤ i ∧ v = .int .i64 j ∧ d2.size = n ∧ insInner ltInt a j d2 = insInner ltInt a i d1 ∧ Srt w wr2 g N d2) (fun v _ => (intOf v).toNat)
      case atStart => exact ⟨i, d1, Nat.le_refl _, rfl, hd1, rfl, hR⟩
      case round =>
        obtain ⟨j, d2, hj, rfl, hd2, hE2, hR2⟩ := hrel
        by_cases haj : a < j
        · obtain ⟨q, rfl⟩ : ∃ q, j = q + 1 := ⟨j - 1, by omega⟩
          have c1 := hR2.row.cell (i := q + 1) (by omega)
          have c2 := hR2.row.cell (i := q) (by omega)
          have f1 := hR2.row.free (q + 1)
          have f2 := hR2.row.free q
          have HS := Lib.hid (hR2.swap (i := q + 1) (j := q) (by omega) (by omega))
          have HE2 := Lib.hid hE2
          obtain ⟨x, hx⟩ : ∃ x, d2[q + 1]! = x := ⟨_, rfl⟩
          obtain ⟨y, hy⟩ : ∃ y, d2[q]! = y := ⟨_, rfl⟩
          have HXY := Lib.hid (And.intro hx hy)
          rw [hx] at c1
          rw [hy] at c2
          clear hx hy hE2
          have e1 : ((q : Int) + 1 - 1) = q := by omega
          have hq1 : (a : Int) < q + 1 := by omega
          have hq2 : (q : Int) + 1 < n := by omega
          by_cases hl : ltInt x y = true
          · have E := Lib.hid ((ins_go (a := a) (q := q) (d := d2) haj (by rw [HXY.out.1, HXY.out.2]; exact hl)).symm.trans HE2.out)
            go_wp2
            go_quiet (first | (go_at_call 69; exact quietOf (less_any _ _ _)))
            go_wp2
            go_region
            go_wp2
            go_roundw
            case rel => exact ⟨q, swp d2 (q + 1) q, by omega, rfl, by rw [Sort.size_swp]; exact hd2, E.out, (hR2.drewN _).swap' (by omega) (by omega) HXY.out.1 HXY.out.2⟩
            case measure => simp [intOf]
          · have hl' : ltInt x y = false := by simpa using hl
            have E := Lib.hid ((ins_stop2 (a := a) (q := q) (d := d2) (by rw [HXY.out.1, HXY.out.2]; exact hl')).symm.trans HE2.out)
            have EO := Lib.hid ((insOuter_more (a := a) (d := d1) hlt).symm.trans HE.out)
            clear hl
            go_wp2
            go_quiet (first | (go_at_call 69; exact quietOf (less_any _ _ _)))
            go_wp2
            go_roundw
            case rel => exact ⟨i + 1, d2, by omega, by omega, by go_num, hd2, by rw [E.out]; exact EO.out, hR2.drewN _⟩
            case measure => simp [intOf]; omega
        · have E := Lib.hid ((ins_stop (d := d2) (show j ≤ a by omega)).symm.trans hE2)
          have EO := Lib.hid ((insOuter_more (a := a) (d := d1) hlt).symm.trans HE.out)
          have hg : decide ((a : Int) < (j : Int)) = false := by simp; omega
          clear hE2
          go_wp2
          go_quiet (fail)
          go_wp2
          go_roundw
          case rel => exact ⟨i + 1, d2, by omega, by omega, by go_num, hd2, by rw [E.out]; exact EO.out, hR2.drewN _⟩
          case measure => simp [intOf]; omega
    · have HE := Lib.hid ((insOuter_end hlt).symm.trans hE)
      have hle : b ≤ i := by omega
      clear hE
      go_wp2
      go_end0
      exact ⟨rfl, by rw [← HE.out]; exact hR, by rw [← HE.out]; exact hd1⟩

end Go.Proofs.Ytfakfmefjfemhaa
