/- Several texts of ours in one: Hu, So, Sh. -/
import Derived.Test.YtlpjbmlkpmhdlaaDoorGHnHpHq
import Derived.Test.YtlpjbmlkpmhdlaaDoorGWdMmMc
import Derived.Test.YtlpjbmlkpmhdlaaDoorGVaVrFr
import Derived.Sort.LotD3
import Derived.Sort.LotB
import Derived.Sort.LotC
import Derived.BigQuiet
import Derived.RegionTactic
import Derived.BigRegion
import Derived.ChangeAlike
/- What marking does to words: only bits 5 and 6 of the steps' slots, and twice is as once. -/
namespace Go.Proofs.YtlpjbmlkpmhdlaaDoor
set_option linter.unusedVariables false
set_option linter.unusedSimpArgs false
open Go.ChangeShapes Go.WideShapes Go.ChangeAt Go.RowKit Go.Joins

theorem tb_32 (i : Nat) : tb 32 i = decide (5 = i) := tb_pow 5 i
theorem tb_64 (i : Nat) : tb 64 i = decide (6 = i) := tb_pow 6 i
theorem or_96 : bits .or .u64 32 64 = 96 := by decide +kernel
theorem tb_96 (i : Nat) : tb 96 i = (decide (5 = i) || decide (6 = i)) := by
  rw [← or_96, tb_or (by decide) (by decide), tb_32, tb_64]
  by_cases h : i < 64
  · simp [h]
  · rw [decide_eq_false h, decide_eq_false (by omega), decide_eq_false (by omega)]; rfl

/-- g is f with some of the bits 5 and 6 set -/
structure Up (f g : Int → Int) : Prop where
  w : ∀ j, W64 (g j)
  keep : ∀ j i, tb (f j) i = true → tb (g j) i = true
  rest : ∀ j i, i ≠ 5 → i ≠ 6 → tb (g j) i = tb (f j) i

theorem Up.refl {f : Int → Int} (h : ∀ j, W64 (f j)) : Up f f := ⟨h, fun _ _ h => h, fun _ _ _ _ => rfl⟩
theorem Up.trans {f g h : Int → Int} (a : Up f g) (b : Up g h) : Up f h := ⟨b.w, fun j i hi => b.keep j i (a.keep j i hi), fun j i h5 h6 => (b.rest j i h5 h6).trans (a.rest j i h5 h6)⟩

theorem or_up {M : Int} {f : Int → Int} {s y : Int} (h : ∀ j, W64 (f j)) (hy : y = 32 ∨ y = 96) : Up f (orS M f s y) := by
  unfold orS
  have hy0 : 0 ≤ y := by rcases hy with rfl | rfl <;> decide
  by_cases he : errS M s = 0
  · rw [if_pos he]
    refine ⟨fun j => ?_, fun j i hi => ?_, fun j i h5 h6 => ?_⟩
    · unfold updF; split
      · exact w64_bits _ _ _
      · exact h j
    · unfold updF; split
      · rename_i e; subst e
        have hi64 : i < 64 := by
          by_cases c : i < 64
          · exact c
          · rw [tb_ge (h _) (by omega)] at hi; cases hi
        rw [tb_or (h _).1 hy0, hi]; simp [hi64]
      · exact hi
    · unfold updF; split
      · rename_i e; subst e
        have ey : tb y i = false := by
          rcases hy with rfl | rfl
          · rw [tb_32]; simpa using fun e => h5 e.symm
          · rw [tb_96, decide_eq_false (fun e => h5 e.symm), decide_eq_false (fun e => h6 e.symm)]; rfl
        rw [tb_or (h _).1 hy0, ey]
        by_cases c : i < 64
        · simp [c]
        · rw [tb_ge (h _) (by omega)]; simp
      · rfl
  · rw [if_neg he]; exact Up.refl h

theorem flag_or (L : Nat) (full : Bool) (k : Nat) : flagN L full k = 32 ∨ flagN L full k = 96 := by
  unfold flagN; split
  · exact Or.inr rfl
  · exact Or.inl rfl

section
variable {M : Int} {f : Int → Int} {S : List (Int × Int × Int)} {full : Bool}

theorem mark_up (h : ∀ j, W64 (f j)) : ∀ k, Up f (markN M f S full k)
  | 0 => Up.refl h
  | k + 1 => (mark_up h k).trans (or_up (mark_up h k).w (flag_or _ _ _))
theorem mark_more (h : ∀ j, W64 (f j)) (k : Nat) : ∀ d, Up (markN M f S full k) (markN M f S full (k + d))
  | 0 => Up.refl (mark_up h k).w
  | d + 1 => (mark_more h k d).trans (or_up (mark_up h (k + d)).w (flag_or _ _ _))
theorem mark_own {j : Int} : ∀ k, markN M f S full k j ≠ f j → ∃ i, i < k ∧ errS M (stepAt S i).2.1 = 0 ∧ (stepAt S i).2.1 / 8 = j
  | 0, h => absurd rfl h
  | k + 1, h => by
    by_cases hk : markN M f S full k j = f j
    · by_cases he : errS M (stepAt S k).2.1 = 0
      · refine ⟨k, by omega, he, ?_⟩
        by_cases e : j = (stepAt S k).2.1 / 8
        · exact e.symm
        · exfalso; apply h
          show orS M _ _ _ j = f j
          unfold orS; rw [if_pos he]; unfold updF; rw [if_neg e]; exact hk
      · exfalso; apply h
        show orS M _ _ _ j = f j
        unfold orS; rw [if_neg he]; exact hk
    · obtain ⟨i, hi, r⟩ := mark_own k hk
      exact ⟨i, by omega, r⟩
theorem mark_at (h : ∀ j, W64 (f j)) {k : Nat} (he : errS M (stepAt S k).2.1 = 0) : tb (markN M f S full (k + 1) ((stepAt S k).2.1 / 8)) 5 = true ∧ (full = true → k + 1 = S.length → tb (markN M f S full (k + 1) ((stepAt S k).2.1 / 8)) 6 = true) := by
  have e : markN M f S full (k + 1) ((stepAt S k).2.1 / 8) = bits .or .u64 (markN M f S full k ((stepAt S k).2.1 / 8)) (flagN S.length full k) := by
    show orS M _ _ _ _ = _
    unfold orS; rw [if_pos he]; unfold updF; rw [if_pos rfl]
  have h0 := ((mark_up (M := M) (S := S) (full := full) h k).w ((stepAt S k).2.1 / 8)).1
  rw [e]
  refine ⟨?_, fun hf hk => ?_⟩
  · rw [tb_or h0 (w64_flag _ _ _).1]
    rcases flag_or S.length full k with e | e <;> rw [e]
    · rw [tb_32]; simp
    · rw [tb_96]; simp
  · rw [tb_or h0 (w64_flag _ _ _).1, show flagN S.length full k = 96 from by unfold flagN; rw [if_pos (by simp [hf, hk])], tb_96]; simp
theorem mark_has (h : ∀ j, W64 (f j)) {k L : Nat} (hk : k < L) (he : errS M (stepAt S k).2.1 = 0) : tb (markN M f S full L ((stepAt S k).2.1 / 8)) 5 = true ∧ (full = true → k + 1 = S.length → tb (markN M f S full L ((stepAt S k).2.1 / 8)) 6 = true) := by
  obtain ⟨d, rfl⟩ : ∃ d, L = k + 1 + d := ⟨L - (k + 1), by omega⟩
  have hu := mark_more (M := M) (S := S) (full := full) h (k + 1) d
  obtain ⟨a, b⟩ := mark_at (full := full) h he
  exact ⟨hu.keep _ _ a, fun hf hl => hu.keep _ _ (b hf hl)⟩
theorem mark_fix {g : Int → Int} (hg : ∀ j, W64 (g j)) (L : Nat) (h : ∀ k, k < L → errS M (stepAt S k).2.1 = 0 → bits .and .u64 (g ((stepAt S k).2.1 / 8)) (flagN S.length full k) = flagN S.length full k) : ∀ k, k ≤ L → markN M g S full k = g
  | 0, _ => rfl
  | k + 1, hk => by
    show orS M (markN M g S full k) _ _ = g
    rw [mark_fix hg L h k (by omega)]
    unfold orS
    by_cases he : errS M (stepAt S k).2.1 = 0
    · rw [if_pos he, or_same (hg _) (w64_flag _ _ _) (h k (by omega) he), upd_same]
    · rw [if_neg he]
theorem mark_twice (h : ∀ j, W64 (f j)) : markN M (markN M f S full S.length) S full S.length = markN M f S full S.length := by
  refine mark_fix (mark_up h _).w S.length (fun k hk he => ?_) _ (Nat.le_refl _)
  obtain ⟨a, b⟩ := mark_has (full := full) h hk he
  have hw := (mark_up (M := M) (S := S) (full := full) h S.length).w ((stepAt S k).2.1 / 8)
  apply tb_ext (w64_bits _ _ _) (w64_flag _ _ _)
  intro i hi
  rw [tb_and hw.1 (w64_flag _ _ _).1]
  by_cases c : (full && decide (k + 1 = S.length)) = true
  · have e : flagN S.length full k = 96 := by unfold flagN; rw [if_pos c]
    simp at c
    rw [e, tb_96]
    by_cases h5 : 5 = i
    · subst h5; rw [a]; rfl
    · by_cases h6 : 6 = i
      · subst h6; rw [b c.1 c.2]; rfl
      · simp [h5, h6]
  · have e : flagN S.length full k = 32 := by unfold flagN; rw [if_neg c]
    rw [e, tb_32]
    by_cases h5 : 5 = i
    · subst h5; rw [a]; rfl
    · simp [h5]
end

theorem and_not0 {x : Int} (hx : W64 x) (h : tb x 5 = true) : (bits .and .u64 x 32 == 0) = false := by
  have e := tb_and hx.1 (show (0 : Int) ≤ 32 by decide) 5
  rw [h, tb_32] at e
  cases hc : (bits .and .u64 x 32 == 0)
  · rfl
  · have : bits .and .u64 x 32 = 0 := by simpa using hc
    rw [this, tb_zero] at e; simp at e
theorem and_not1 {x : Int} (hx : W64 x) (h : tb x 6 = true) : (bits .and .u64 x 64 == 0) = false := by
  have e := tb_and hx.1 (show (0 : Int) ≤ 64 by decide) 6
  rw [h, tb_64] at e
  cases hc : (bits .and .u64 x 64 == 0)
  · rfl
  · have : bits .and .u64 x 64 = 0 := by simpa using hc
    rw [this, tb_zero] at e; simp at e

theorem up_bare {f g : Int → Int} (h : Up f g) (hf : ∀ j, W64 (f j)) (j : Int) : (bits .andNot .u64 (g j) 96 != bits .andNot .u64 (f j) 96) = false := by
  have e : bits .andNot .u64 (g j) 96 = bits .andNot .u64 (f j) 96 := by
    apply tb_ext (w64_bits _ _ _) (w64_bits _ _ _)
    intro i hi
    rw [tb_andNot (h.w j).1 (by decide), tb_andNot (hf j).1 (by decide), tb_96]
    by_cases h5 : 5 = i
    · simp [h5]
    · by_cases h6 : 6 = i
      · simp [h6]
      · rw [h.rest j i (fun e => h5 e.symm) (fun e => h6 e.symm)]
  rw [e]; simp
theorem up_sub {f g : Int → Int} (h : Up f g) (hf : ∀ j, W64 (f j)) (j : Int) : (bits .andNot .u64 (f j) (g j) != 0) = false := by
  have e : bits .andNot .u64 (f j) (g j) = 0 := by
    apply tb_ext (w64_bits _ _ _) w64_zero
    intro i hi
    rw [tb_andNot (hf j).1 (h.w j).1, tb_zero]
    cases c : tb (f j) i
    · simp
    · rw [h.keep j i c]; simp
  rw [e]; rfl

/-- is x a slot of one of the first k steps? -/
def ownN (S : List (Int × Int × Int)) (x : Int) : Nat → Bool
  | 0 => false
  | k + 1 => ownN S x k || ((stepAt S k).2.1 == x)
theorem own_yes {S : List (Int × Int × Int)} {x : Int} {i : Nat} (h : (stepAt S i).2.1 = x) : ∀ k, i < k → ownN S x k = true
  | k + 1, hk => by
    unfold ownN
    by_cases e : i = k
    · subst e; rw [h]; simp
    · rw [own_yes h k (by omega)]; rfl

theorem slot_w8 {s : Int} (h1 : errS 16 s = 0) (h2 : 0 ≤ s) : W64 s := by
  have h3 := (errS_in h1).1
  have h4 : sizeM 16 = 65536 := by decide
  unfold W64; omega
end Go.Proofs.YtlpjbmlkpmhdlaaDoor
/- slices.Sort at uint64, at fewer than fifty: a row of words and what turns; cmp.Less; insertionSortOrdered. -/
namespace Go.Proofs.YtlpjbmlkpmhdlaaDoor
set_option linter.unusedVariables false
set_option linter.unusedSimpArgs false
open Go.ChangeShapes Go.WideShapes Go.ChangeAt Go.RowKit
open Go.Sort (swp insInner insOuter insertionSort ltInt)

/-- block g is a row of N words, of which the first are d -/
def Row (w : World) (g N : Nat) (d : Array Int) : Prop := ∃ c : Array Value, w.heap[g]? = some (.cells c 23 (0, 0)) ∧ c.size = N ∧ d.size ≤ N ∧ ∀ i, i < d.size → c[i]? = some (.int .u64 d[i]!)

/-- w' is w but for the row, which is d, and new blocks -/
structure Srt (w w' : World) (g N : Nat) (d : Array Int) : Prop where
  turn : Turn (fun i => i = g) w w'
  row : Row w' g N d

section
variable {w w' w2 : World} {g N : Nat} {d d' : Array Int}

theorem Row.cell (h : Row w g N d) {i : Nat} (hi : i < d.size) : w.cell? ⟨g, i, none⟩ = some (.int .u64 d[i]!) := by
  obtain ⟨c, hc, _, _, hv⟩ := h
  simp only [World.cell?]
  rw [hc]
  exact hv i hi
theorem Row.free (h : Row w g N d) (i : Nat) : w.frozen? ⟨g, i, none⟩ = false := by
  obtain ⟨c, hc, _⟩ := h
  simp [World.frozen?, hc]
theorem Row.lt (h : Row w g N d) : g < w.heap.size := by
  obtain ⟨c, hc, _⟩ := h
  exact lt_of_block hc
theorem Row.drewN (h : Row w g N d) (n : Nat) : Row (w.drewN n) g N d := h
theorem Row.set (h : Row w g N d) {i : Nat} (hi : i < d.size) (x : Int) : Row (w.setCell ⟨g, i, none⟩ (.int .u64 x)) g N (d.setIfInBounds i x) := by
  obtain ⟨c, hc, hN, hd, hv⟩ := h
  refine ⟨c.setIfInBounds i (.int .u64 x), ?_, by simpa using hN, by simpa using hd, fun j hj => ?_⟩
  · simp [World.setCell, Array.getElem?_modify, hc]
  · have hj' : j < d.size := by simpa using hj
    rw [Array.getElem?_setIfInBounds]
    by_cases e : j = i
    · subst e
      rw [if_pos rfl, if_pos (by omega), Sort.getElem!_set_same d j x hi]
    · rw [if_neg (fun h => e h.symm), hv j hj', Sort.getElem!_set_other d i j x e]
theorem Srt.start (h : Row w g N d) : Srt w w g N d := ⟨Turn.refl _ _, h⟩
theorem Srt.drew (h : Srt w w' g N d) : Srt w w'.drew g N d := ⟨⟨h.turn.os, h.turn.tape, h.turn.output, h.turn.size, h.turn.block⟩, h.row⟩
theorem Srt.drewN (h : Srt w w' g N d) (n : Nat) : Srt w (w'.drewN n) g N d := ⟨⟨h.turn.os, h.turn.tape, h.turn.output, h.turn.size, h.turn.block⟩, h.row⟩
theorem Srt.trans (h : Srt w w' g N d) (k : Srt w' w2 g N d') : Srt w w2 g N d' := ⟨h.turn.trans (k.turn.mono fun i _ hi => Or.inl hi), k.row⟩
theorem Srt.swap (h : Srt w w' g N d) {i j : Nat} (hi : i < d.size) (hj : j < d.size) : Srt w ((w'.setCell ⟨g, i, none⟩ (.int .u64 d[j]!)).setCell ⟨g, j, none⟩ (.int .u64 d[i]!)) g N (swp d i j) :=
  ⟨h.turn.trans (Turn.trans (Turn.setCell _ _ _ _ (Or.inl rfl)) ((Turn.setCell _ _ _ _ (Or.inl (Or.inl rfl))))), (h.row.set hi _).set (by simpa using hj) _⟩
theorem Srt.swap' (h : Srt w w' g N d) {i j : Nat} (hi : i < d.size) (hj : j < d.size) {x y : Int} (hx : d[i]! = x) (hy : d[j]! = y) : Srt w ((w'.setCell ⟨g, i, none⟩ (.int .u64 y)).setCell ⟨g, j, none⟩ (.int .u64 x)) g N (swp d i j) := by
  rw [← hx, ← hy]; exact h.swap hi hj
theorem Srt.alloc (h : Srt w w' g N d) (o : Obj) : Srt w (w'.alloc o) g N d := by
  refine ⟨h.turn.trans (Turn.alloc _ _ _), ?_⟩
  obtain ⟨c, hc, r⟩ := h.row
  exact ⟨c, (Below.heap_alloc _ _ _ (lt_of_block hc)).trans hc, r⟩
end

theorem isNaN_any (x : Int) (w : World) : Calls Tryd.prog 109 #[.int .u64 x] w fun e w' => e = .returned (.bool false) ∧ w = w' := by
  go_enter Tryd.func109, Tryd.ntmps109
  go_wp2
  go_ret
  exact ⟨by simp, rfl⟩

theorem less_any (x y : Int) (w : World) : Calls Tryd.prog 99 #[.int .u64 x, .int .u64 y] w fun e w' => e = .returned (.bool (ltInt x y)) ∧ w = w' := by
  go_enter Tryd.func99, Tryd.ntmps99
  go_wp2_with (go_at_call 109; refine (isNaN_any _ _).mono ?_; rintro e w' ⟨rfl, rfl⟩)
  go_ret
  exact ⟨rfl, rfl⟩

theorem insOuter_more {a b i : Nat} {d : Array Int} (h : i < b) : insOuter ltInt a b i d = insOuter ltInt a b (i + 1) (insInner ltInt a i d) := by
  rw [insOuter, if_pos h]
theorem insOuter_end {a b i : Nat} {d : Array Int} (h : ¬ i < b) : insOuter ltInt a b i d = d := by
  rw [insOuter, if_neg h]

theorem ins_stop {a j : Nat} {d : Array Int} (h : j ≤ a) : insInner ltInt a j d = d := by
  rcases j with _ | q
  · rfl
  · simp only [insInner]
    rw [if_neg (by simp; omega)]
theorem ins_stop2 {a q : Nat} {d : Array Int} (h : ltInt d[q + 1]! d[q]! = false) : insInner ltInt a (q + 1) d = d := by
  simp only [insInner]
  rw [h]; simp
theorem ins_go {a q : Nat} {d : Array Int} (h0 : a < q + 1) (h : ltInt d[q + 1]! d[q]! = true) : insInner ltInt a (q + 1) d = insInner ltInt a q (swp d (q + 1) q) := by
  simp only [insInner]
  rw [h, if_pos (by simp; omega)]

set_option maxRecDepth 100000 in
set_option maxHeartbeats 4000000 in
theorem ins_any (w : World) (g N cap : Nat) (d : Array Int) (a b : Nat) (hS : Row w g N d) (hab : a ≤ b) (hb : b ≤ d.size) (hn : d.size < 50) :
    Calls Tryd.prog 93 #[.slice (some ⟨g, 0, none⟩) d.size cap, .int .i64 a, .int .i64 b] w fun e w' => e = .returned (.tuple #[]) ∧ Srt w w' g N (insertionSort ltInt d a b) ∧ (insertionSort ltInt d a b).size = d.size := by
  obtain ⟨n, hnd⟩ : ∃ n, d.size = n := ⟨_, rfl⟩
  rw [hnd] at hb hn ⊢
  go_enter Tryd.func93, Tryd.ntmps93
  go_wp2
  go_loopw [6] (fun v wr => ∃ (i : Nat) (d1 : Array Int), a + 1 ≤ i ∧ i ≤ n + 1 ∧ v = .int .i64 i ∧ d1.size = n ∧ insOuter ltInt a b i d1 = insertionSort ltInt d a b ∧ Srt w wr g N d1) (fun v _ => (n + 1 - intOf v).toNat)
  case atStart => exact ⟨a + 1, d, by omega, by omega, by go_num, hnd, rfl, Srt.start hS⟩
  case round =>
    obtain ⟨i, d1, hi1, hi2, rfl, hd1, hE, hR⟩ := hrel
    by_cases hlt : i < b
    · have HE := Lib.hid hE
      clear hE
      go_wp2
      go_loopw [7] (fun v wr2 => ∃ (j : Nat) (d2 : Array Int), j ≤ i ∧ v = .int .i64 j ∧ d2.size = n ∧ insInner ltInt a j d2 = insInner ltInt a i d1 ∧ Srt w wr2 g N d2) (fun v _ => (intOf v).toNat)
      case atStart => exact ⟨i, d1, Nat.le_refl _, rfl, hd1, rfl, hR⟩
      case round =>
        obtain ⟨j, d2, hj, rfl, hd2, hE2, hR2⟩ := hrel
        by_cases haj : a < j
        · obtain ⟨q, rfl⟩ : ∃ q, j = q + 1 := ⟨j - 1, by omega⟩
          have c1 := hR2.row.cell (i := q + 1) (by omega)
          have c2 := hR2.row.cell (i := q) (by omega)
          have f1 := hR2.row.free (q + 1)
          have f2 := hR2.row.free q
          have HS := Lib.hid (hR2.swap (i := q + 1) (j := q) (by omega) (by omega))
          have HE2 := Lib.hid hE2
          obtain ⟨x, hx⟩ : ∃ x, d2[q + 1]! = x := ⟨_, rfl⟩
          obtain ⟨y, hy⟩ : ∃ y, d2[q]! = y := ⟨_, rfl⟩
          have HXY := Lib.hid (And.intro hx hy)
          rw [hx] at c1
          rw [hy] at c2
          clear hx hy hE2
          have e1 : ((q : Int) + 1 - 1) = q := by omega
          have hq1 : (a : Int) < q + 1 := by omega
          have hq2 : (q : Int) + 1 < n := by omega
          by_cases hl : ltInt x y = true
          · have E := Lib.hid ((ins_go (a := a) (q := q) (d := d2) haj (by rw [HXY.out.1, HXY.out.2]; exact hl)).symm.trans HE2.out)
            go_wp2
            go_quiet (first | (go_at_call 99; exact quietOf (less_any _ _ _)))
            go_wp2
            go_region
            go_wp2
            go_roundw
            case rel => exact ⟨q, swp d2 (q + 1) q, by omega, rfl, by rw [Sort.size_swp]; exact hd2, E.out, (hR2.drewN _).swap' (by omega) (by omega) HXY.out.1 HXY.out.2⟩
            case measure => simp [intOf]
          · have hl' : ltInt x y = false := by simpa using hl
            have E := Lib.hid ((ins_stop2 (a := a) (q := q) (d := d2) (by rw [HXY.out.1, HXY.out.2]; exact hl')).symm.trans HE2.out)
            have EO := Lib.hid ((insOuter_more (a := a) (d := d1) hlt).symm.trans HE.out)
            clear hl
            go_wp2
            go_quiet (first | (go_at_call 99; exact quietOf (less_any _ _ _)))
            go_wp2
            go_roundw
            case rel => exact ⟨i + 1, d2, by omega, by omega, by go_num, hd2, by rw [E.out]; exact EO.out, hR2.drewN _⟩
            case measure => simp [intOf]; omega
        · have E := Lib.hid ((ins_stop (d := d2) (show j ≤ a by omega)).symm.trans hE2)
          have EO := Lib.hid ((insOuter_more (a := a) (d := d1) hlt).symm.trans HE.out)
          have hg : decide ((a : Int) < (j : Int)) = false := by simp; omega
          clear hE2
          go_wp2
          go_quiet (fail)
          go_wp2
          go_roundw
          case rel => exact ⟨i + 1, d2, by omega, by omega, by go_num, hd2, by rw [E.out]; exact EO.out, hR2.drewN _⟩
          case measure => simp [intOf]; omega
    · have HE := Lib.hid ((insOuter_end hlt).symm.trans hE)
      have hle : b ≤ i := by omega
      clear hE
      go_wp2
      go_end0
      exact ⟨rfl, by rw [← HE.out]; exact hR, by rw [← HE.out]; exact hd1⟩

end Go.Proofs.YtlpjbmlkpmhdlaaDoor
/- slices.Sort at uint64: siftDownOrdered, heapSortOrdered. -/
namespace Go.Proofs.YtlpjbmlkpmhdlaaDoor
set_option linter.unusedVariables false
set_option linter.unusedSimpArgs false
open Go.ChangeShapes Go.WideShapes Go.ChangeAt Go.RowKit
open Go.Sort (swp ltInt)

/-- the greater child -/
def pick (hi F root : Nat) (d : Array Int) : Nat := if 2 * root + 2 < hi ∧ ltInt d[F + (2 * root + 1)]! d[F + (2 * root + 1) + 1]! = true then 2 * root + 2 else 2 * root + 1

theorem sift_step {hi F root : Nat} {d : Array Int} (h : 2 * root + 1 < hi) : Sort.siftDown ltInt hi F root d = if ltInt d[F + root]! d[F + pick hi F root d]! = true then Sort.siftDown ltInt hi F (pick hi F root d) (swp d (F + root) (F + pick hi F root d)) else d := by
  rw [Sort.siftDown, dif_neg (by omega)]
  unfold pick
  by_cases h1 : 2 * root + 2 < hi ∧ ltInt d[F + (2 * root + 1)]! d[F + (2 * root + 1) + 1]! = true
  · have hb : (decide (2 * root + 1 + 1 < hi) && ltInt d[F + (2 * root + 1)]! d[F + (2 * root + 1) + 1]!) = true := by rw [h1.2]; simp; omega
    rw [if_pos hb, if_pos h1]
    by_cases h2 : ltInt d[F + root]! d[F + (2 * root + 2)]! = true
    · rw [h2]; simp [h1.1]
    · rw [if_neg h2]; simp [h2]
  · have hb : (decide (2 * root + 1 + 1 < hi) && ltInt d[F + (2 * root + 1)]! d[F + (2 * root + 1) + 1]!) = false := by
      by_cases h3 : 2 * root + 2 < hi
      · have : ltInt d[F + (2 * root + 1)]! d[F + (2 * root + 1) + 1]! = false := by
          cases hc : ltInt d[F + (2 * root + 1)]! d[F + (2 * root + 1) + 1]! with
          | false => rfl
          | true => exact absurd ⟨h3, hc⟩ h1
        rw [this]; simp
      · simp; intro h4; omega
    rw [hb, if_neg h1]
    by_cases h2 : ltInt d[F + root]! d[F + (2 * root + 1)]! = true
    · simp [h2]
    · simp [h2]
theorem sift_end {hi F root : Nat} {d : Array Int} (h : hi ≤ 2 * root + 1) : Sort.siftDown ltInt hi F root d = d := by
  rw [Sort.siftDown, dif_pos h]

set_option maxRecDepth 100000 in
set_option maxHeartbeats 8000000 in
theorem sift_any (w : World) (g N cap : Nat) (d : Array Int) (lo hi F : Nat) (hS : Row w g N d) (hF : F + hi ≤ d.size) (hn : d.size < 50) (hlo : lo ≤ 50) :
    Calls Tryd.prog 104 #[.slice (some ⟨g, 0, none⟩) d.size cap, .int .i64 lo, .int .i64 hi, .int .i64 F] w fun e w' => e = .returned (.tuple #[]) ∧ Srt w w' g N (Sort.siftDown ltInt hi F lo d) ∧ (Sort.siftDown ltInt hi F lo d).size = d.size := by
  obtain ⟨n, hnd⟩ : ∃ n, d.size = n := ⟨_, rfl⟩
  rw [hnd] at hF hn ⊢
  go_enter Tryd.func104, Tryd.ntmps104
  go_wp2
  go_loopw [8] (fun v wr => ∃ (root : Nat) (d1 : Array Int), d1.size = n ∧ root ≤ 50 ∧ v = .int .i64 root ∧ Sort.siftDown ltInt hi F root d1 = Sort.siftDown ltInt hi F lo d ∧ Srt w wr g N d1) (fun v _ => (50 - intOf v).toNat)
  case atStart => exact ⟨lo, d, hnd, hlo, rfl, rfl, Srt.start hS⟩
  case round =>
    obtain ⟨root, d1, hd1, hr50, rfl, hE, hR⟩ := hrel
    have HE := Lib.hid hE
    clear hE
    by_cases hch : 2 * root + 1 < hi
    · have i0 : 2 * (root : Int) + 1 < (hi : Int) := by omega
      by_cases h2 : 2 * root + 2 < hi
      · have j2 : 2 * (root : Int) + 1 + 1 < (hi : Int) := by omega
        have u1 := hR.row.cell (i := F + (2 * root + 1)) (by omega)
        have u2 := hR.row.cell (i := F + (2 * root + 1) + 1) (by omega)
        obtain ⟨C, hC0⟩ : ∃ C : Nat, F + (2 * root + 1) = C := ⟨_, rfl⟩
        rw [hC0] at u1 u2
        obtain ⟨p, hp⟩ : ∃ p, d1[C]! = p := ⟨_, rfl⟩
        obtain ⟨q, hq⟩ : ∃ q, d1[C + 1]! = q := ⟨_, rfl⟩
        rw [hp] at u1
        rw [hq] at u2
        have k1 : (F : Int) + (2 * (root : Int) + 1) = (C : Int) := by omega
        have m1 : (C : Int) < (n : Int) := by omega
        have m2 : (C : Int) + 1 < (n : Int) := by omega
        by_cases hl0 : ltInt p q = true
        · have HPK := Lib.hid (show pick hi F root d1 = 2 * root + 2 by unfold pick; rw [hC0, hp, hq, if_pos ⟨h2, hl0⟩])
          have HJ := Lib.hid (And.intro hC0 (And.intro hp hq))
          clear hC0 hp hq
          go_wp2
          go_quiet (first | (go_at_call 99; exact quietOf (less_any _ _ _)))
          go_wp2
          clear u1 u2 k1 m1 m2
          have v1 := hR.row.cell (i := F + root) (by omega)
          have v2 := hR.row.cell (i := F + (2 * root + 2)) (by omega)
          have f1 := hR.row.free (F + root)
          have f2 := hR.row.free (F + (2 * root + 2))
          obtain ⟨R, hR0⟩ : ∃ R : Nat, F + root = R := ⟨_, rfl⟩
          obtain ⟨P, hP0⟩ : ∃ P : Nat, F + (2 * root + 2) = P := ⟨_, rfl⟩
          rw [hR0] at v1 f1
          rw [hP0] at v2 f2
          obtain ⟨x, hx⟩ : ∃ x, d1[R]! = x := ⟨_, rfl⟩
          obtain ⟨y, hy⟩ : ∃ y, d1[P]! = y := ⟨_, rfl⟩
          rw [hx] at v1
          rw [hy] at v2
          have i1 : (F : Int) + (root : Int) = (R : Int) := by omega
          have i2 : (F : Int) + (2 * (root : Int) + 1 + 1) = (P : Int) := by omega
          have l1 : (R : Int) < (n : Int) := by omega
          have l2 : (P : Int) < (n : Int) := by omega
          have HXY := Lib.hid (And.intro hx hy)
          have HI := Lib.hid (And.intro hR0 hP0)
          have HB := Lib.hid (show R < n ∧ P < n by omega)
          clear hx hy hR0 hP0
          by_cases hl : ltInt x y = true
          · have E := Lib.hid (show Sort.siftDown ltInt hi F ((2 * root + 2)) (swp d1 R P) = Sort.siftDown ltInt hi F lo d by
              rw [← HE.out, sift_step hch, HPK.out, HI.out.1, HI.out.2, HXY.out.1, HXY.out.2, if_pos hl])
            go_quiet (first | (go_at_call 99; exact quietOf2 (less_any _ _ _)))
            go_wp2
            go_region
            go_wp2
            go_roundw
            case rel => exact ⟨(2 * root + 2), swp d1 R P, by rw [Sort.size_swp]; exact hd1, by omega, by go_num, E.out, (hR.drewN _).swap' (by omega) (by omega) HXY.out.1 HXY.out.2⟩
            case measure => simp [intOf]; omega
          · have hl' : ltInt x y = false := by simpa using hl
            have E := Lib.hid (show d1 = Sort.siftDown ltInt hi F lo d by
              rw [← HE.out, sift_step hch, HPK.out, HI.out.1, HI.out.2, HXY.out.1, HXY.out.2, if_neg hl])
            clear hl
            go_quiet (first | (go_at_call 99; exact quietOf2 (less_any _ _ _)))
            go_wp2
            first | go_end0 | ((try simp only [Exit.inBlock, Exit.then]); refine bodyPost_ret (results_none rfl _ _ _) rfl ?_)
            exact ⟨rfl, by rw [← E.out]; exact (hR.drewN _).drewN _, by rw [← E.out]; exact hd1⟩
        · have hl0' : ltInt p q = false := by simpa using hl0
          have HPK := Lib.hid (show pick hi F root d1 = 2 * root + 1 by unfold pick; rw [hC0, hp, hq, if_neg (fun h => hl0 h.2)])
          have HJ := Lib.hid (And.intro hC0 (And.intro hp hq))
          clear hC0 hp hq hl0
          go_wp2
          go_quiet (first | (go_at_call 99; exact quietOf (less_any _ _ _)))
          go_wp2
          clear u1 u2 k1 m1 m2
          have v1 := hR.row.cell (i := F + root) (by omega)
          have v2 := hR.row.cell (i := F + (2 * root + 1)) (by omega)
          have f1 := hR.row.free (F + root)
          have f2 := hR.row.free (F + (2 * root + 1))
          obtain ⟨R, hR0⟩ : ∃ R : Nat, F + root = R := ⟨_, rfl⟩
          obtain ⟨P, hP0⟩ : ∃ P : Nat, F + (2 * root + 1) = P := ⟨_, rfl⟩
          rw [hR0] at v1 f1
          rw [hP0] at v2 f2
          obtain ⟨x, hx⟩ : ∃ x, d1[R]! = x := ⟨_, rfl⟩
          obtain ⟨y, hy⟩ : ∃ y, d1[P]! = y := ⟨_, rfl⟩
          rw [hx] at v1
          rw [hy] at v2
          have i1 : (F : Int) + (root : Int) = (R : Int) := by omega
          have i2 : (F : Int) + (2 * (root : Int) + 1) = (P : Int) := by omega
          have l1 : (R : Int) < (n : Int) := by omega
          have l2 : (P : Int) < (n : Int) := by omega
          have HXY := Lib.hid (And.intro hx hy)
          have HI := Lib.hid (And.intro hR0 hP0)
          have HB := Lib.hid (show R < n ∧ P < n by omega)
          clear hx hy hR0 hP0
          by_cases hl : ltInt x y = true
          · have E := Lib.hid (show Sort.siftDown ltInt hi F ((2 * root + 1)) (swp d1 R P) = Sort.siftDown ltInt hi F lo d by
              rw [← HE.out, sift_step hch, HPK.out, HI.out.1, HI.out.2, HXY.out.1, HXY.out.2, if_pos hl])
            go_quiet (first | (go_at_call 99; exact quietOf2 (less_any _ _ _)))
            go_wp2
            go_region
            go_wp2
            go_roundw
            case rel => exact ⟨(2 * root + 1), swp d1 R P, by rw [Sort.size_swp]; exact hd1, by omega, by go_num, E.out, (hR.drewN _).swap' (by omega) (by omega) HXY.out.1 HXY.out.2⟩
            case measure => simp [intOf]; omega
          · have hl' : ltInt x y = false := by simpa using hl
            have E := Lib.hid (show d1 = Sort.siftDown ltInt hi F lo d by
              rw [← HE.out, sift_step hch, HPK.out, HI.out.1, HI.out.2, HXY.out.1, HXY.out.2, if_neg hl])
            clear hl
            go_quiet (first | (go_at_call 99; exact quietOf2 (less_any _ _ _)))
            go_wp2
            first | go_end0 | ((try simp only [Exit.inBlock, Exit.then]); refine bodyPost_ret (results_none rfl _ _ _) rfl ?_)
            exact ⟨rfl, by rw [← E.out]; exact (hR.drewN _).drewN _, by rw [← E.out]; exact hd1⟩
      · have j2 : decide (2 * (root : Int) + 1 + 1 < (hi : Int)) = false := by simp; omega
        have HPK := Lib.hid (show pick hi F root d1 = 2 * root + 1 by unfold pick; rw [if_neg (fun h => h2 h.1)])
        · have htrue : True := trivial
          go_wp2
          go_quiet (fail)
          go_wp2
          have v1 := hR.row.cell (i := F + root) (by omega)
          have v2 := hR.row.cell (i := F + (2 * root + 1)) (by omega)
          have f1 := hR.row.free (F + root)
          have f2 := hR.row.free (F + (2 * root + 1))
          obtain ⟨R, hR0⟩ : ∃ R : Nat, F + root = R := ⟨_, rfl⟩
          obtain ⟨P, hP0⟩ : ∃ P : Nat, F + (2 * root + 1) = P := ⟨_, rfl⟩
          rw [hR0] at v1 f1
          rw [hP0] at v2 f2
          obtain ⟨x, hx⟩ : ∃ x, d1[R]! = x := ⟨_, rfl⟩
          obtain ⟨y, hy⟩ : ∃ y, d1[P]! = y := ⟨_, rfl⟩
          rw [hx] at v1
          rw [hy] at v2
          have i1 : (F : Int) + (root : Int) = (R : Int) := by omega
          have i2 : (F : Int) + (2 * (root : Int) + 1) = (P : Int) := by omega
          have l1 : (R : Int) < (n : Int) := by omega
          have l2 : (P : Int) < (n : Int) := by omega
          have HXY := Lib.hid (And.intro hx hy)
          have HI := Lib.hid (And.intro hR0 hP0)
          have HB := Lib.hid (show R < n ∧ P < n by omega)
          clear hx hy hR0 hP0
          by_cases hl : ltInt x y = true
          · have E := Lib.hid (show Sort.siftDown ltInt hi F ((2 * root + 1)) (swp d1 R P) = Sort.siftDown ltInt hi F lo d by
              rw [← HE.out, sift_step hch, HPK.out, HI.out.1, HI.out.2, HXY.out.1, HXY.out.2, if_pos hl])
            go_quiet (first | (go_at_call 99; exact quietOf2 (less_any _ _ _)))
            go_wp2
            go_region
            go_wp2
            go_roundw
            case rel => exact ⟨(2 * root + 1), swp d1 R P, by rw [Sort.size_swp]; exact hd1, by omega, by go_num, E.out, (hR.drewN _).swap' (by omega) (by omega) HXY.out.1 HXY.out.2⟩
            case measure => simp [intOf]; omega
          · have hl' : ltInt x y = false := by simpa using hl
            have E := Lib.hid (show d1 = Sort.siftDown ltInt hi F lo d by
              rw [← HE.out, sift_step hch, HPK.out, HI.out.1, HI.out.2, HXY.out.1, HXY.out.2, if_neg hl])
            clear hl
            go_quiet (first | (go_at_call 99; exact quietOf2 (less_any _ _ _)))
            go_wp2
            first | go_end0 | ((try simp only [Exit.inBlock, Exit.then]); refine bodyPost_ret (results_none rfl _ _ _) rfl ?_)
            exact ⟨rfl, by rw [← E.out]; exact (hR.drewN _).drewN _, by rw [← E.out]; exact hd1⟩
    · have hge : (hi : Int) ≤ 2 * (root : Int) + 1 := by omega
      have E := Lib.hid ((sift_end (F := F) (d := d1) (show hi ≤ 2 * root + 1 by omega)).symm.trans HE.out)
      go_wp2
      go_end0
      exact ⟨rfl, by rw [← E.out]; exact hR, by rw [← E.out]; exact hd1⟩

theorem sift0_any (w : World) (g N cap : Nat) (d : Array Int) (hi F : Nat) (hS : Row w g N d) (hF : F + hi ≤ d.size) (hn : d.size < 50) :
    Calls Tryd.prog 104 #[.slice (some ⟨g, 0, none⟩) d.size cap, .int .i64 0, .int .i64 hi, .int .i64 F] w fun e w' => e = .returned (.tuple #[]) ∧ Srt w w' g N (Sort.siftDown ltInt hi F 0 d) ∧ (Sort.siftDown ltInt hi F 0 d).size = d.size :=
  sift_any w g N cap d 0 hi F hS hF hn (by omega)

set_option maxRecDepth 100000 in
set_option maxHeartbeats 8000000 in
theorem heap_any (w : World) (g N cap : Nat) (d : Array Int) (a b : Nat) (hS : Row w g N d) (hab : a ≤ b) (hb : b ≤ d.size) (hn : d.size < 50) :
    Calls Tryd.prog 94 #[.slice (some ⟨g, 0, none⟩) d.size cap, .int .i64 a, .int .i64 b] w fun e w' => e = .returned (.tuple #[]) ∧ Srt w w' g N (Sort.heapSort ltInt d a b) ∧ (Sort.heapSort ltInt d a b).size = d.size := by
  obtain ⟨n, hnd⟩ : ∃ n, d.size = n := ⟨_, rfl⟩
  rw [hnd] at hb hn ⊢
  obtain ⟨h, hh⟩ : ∃ h : Nat, b - a = h := ⟨_, rfl⟩
  have e1 : (b : Int) - (a : Int) = (h : Int) := by omega
  have e2 : ((h : Int) - 1).tdiv 2 = (((h - 1) / 2 : Nat) : Int) := by
    rcases h with _ | h
    · rfl
    · rw [show (((h + 1 : Nat) : Int) - 1) = (h : Int) by omega, Int.tdiv_eq_ediv_of_nonneg (by omega)]; simp
  obtain ⟨r, hr⟩ : ∃ r : Nat, (h - 1) / 2 = r := ⟨_, rfl⟩
  rw [hr] at e2
  have hr2 : r ≤ 50 := by omega
  have HD := Lib.hid (show Sort.heapSort ltInt d a b = Sort.heapPop ltInt a h (Sort.heapBuild ltInt h a (r + 1) d) by unfold Sort.heapSort; rw [hh, hr])
  have hah : a + h ≤ n := by omega
  clear hr
  go_enter Tryd.func94, Tryd.ntmps94
  go_wp2
  go_loopw [9] (fun v wr => ∃ (k : Nat) (d1 : Array Int), d1.size = n ∧ k ≤ r + 1 ∧ v = .int .i64 ((k : Int) - 1) ∧ Sort.heapBuild ltInt h a k d1 = Sort.heapBuild ltInt h a (r + 1) d ∧ Srt w wr g N d1) (fun v _ => (intOf v + 1).toNat)
  case atStart => exact ⟨r + 1, d, hnd, Nat.le_refl _, by go_num, rfl, Srt.start hS⟩
  case round =>
    obtain ⟨k, d1, hd1, hk, rfl, hE, hR⟩ := hrel
    rcases k with _ | k
    · have HE := Lib.hid (show d1 = Sort.heapBuild ltInt h a (r + 1) d from hE)
      clear hE
      rw [show ((0 : Nat) : Int) - 1 = -1 from rfl]
      go_wp2
      go_loopw [10] (fun v wr => ∃ (k : Nat) (d2 : Array Int), d2.size = n ∧ k ≤ h ∧ v = .int .i64 ((k : Int) - 1) ∧ Sort.heapPop ltInt a k d2 = Sort.heapPop ltInt a h d1 ∧ Srt w wr g N d2) (fun v _ => (intOf v + 1).toNat)
      case atStart => exact ⟨h, d1, hd1, Nat.le_refl _, by go_num, rfl, hR⟩
      case round =>
        obtain ⟨k, d2, hd2, hk2, rfl, hE2, hR2⟩ := hrel
        rcases k with _ | k
        · have E2 := Lib.hid (show d2 = Sort.heapSort ltInt d a b by rw [HD.out, ← HE.out]; exact hE2)
          clear hE2
          go_wp2
          go_end0
          exact ⟨rfl, by rw [← E2.out]; exact hR2, by rw [← E2.out]; exact hd2⟩
        · rw [show (((k + 1 : Nat) : Int) - 1) = k by omega]
          have HE2 := Lib.hid (show Sort.heapPop ltInt a k (Sort.siftDown ltInt k a 0 (swp d2 a (a + k))) = Sort.heapPop ltInt a h d1 from hE2)
          have v1 := hR2.row.cell (i := a) (by omega)
          have v2 := hR2.row.cell (i := a + k) (by omega)
          have f1 := hR2.row.free a
          have f2 := hR2.row.free (a + k)
          obtain ⟨P, hP0⟩ : ∃ P : Nat, a + k = P := ⟨_, rfl⟩
          rw [hP0] at v2 f2 HE2
          obtain ⟨x, hx⟩ : ∃ x, d2[a]! = x := ⟨_, rfl⟩
          obtain ⟨y, hy⟩ : ∃ y, d2[P]! = y := ⟨_, rfl⟩
          rw [hx] at v1
          rw [hy] at v2
          have i1 : (a : Int) + (k : Int) = (P : Int) := by omega
          have l1 : (a : Int) < (n : Int) := by omega
          have l2 : (P : Int) < (n : Int) := by omega
          have HXY := Lib.hid (And.intro hx hy)
          have HB := Lib.hid (show a < n ∧ P < n ∧ a + k ≤ n by omega)
          have HSZ := Lib.hid (show (swp d2 a P).size = n by rw [Sort.size_swp]; exact hd2)
          obtain ⟨v3, hv3⟩ : ∃ v3, (wr.setCell ⟨g, a, none⟩ (.int .u64 y)).cell? ⟨g, P, none⟩ = some v3 := ⟨_, (hR2.row.set (i := a) (by omega) y).cell (i := P) (by simp; omega)⟩
          have hR3 := hR2.swap' (i := a) (j := P) (by omega) (by omega) hx hy
          have HC := fun cap w hS => Lib.hid (sift0_any w g N cap (swp d2 a P) k a hS (by rw [Sort.size_swp]; omega) (by rw [Sort.size_swp]; omega))
          rw [HSZ.out] at HC
          clear hx hy hP0 hE2
          go_wp2
          go_region
          go_wp2_with (go_at_call 104; refine (HC _ _ hR3.drew.row).out.mono ?_; rintro e w2 ⟨rfl, hR4, hs4⟩)
          go_roundw
          case rel => exact ⟨k, _, hs4, by omega, by go_num, HE2.out, (hR3.drew).trans hR4⟩
          case measure => simp [intOf]
    · rw [show (((k + 1 : Nat) : Int) - 1) = k by omega]
      have HE := Lib.hid (show Sort.heapBuild ltInt h a k (Sort.siftDown ltInt h a k d1) = Sort.heapBuild ltInt h a (r + 1) d from hE)
      clear hE
      obtain ⟨nn, hnn⟩ : ∃ nn, d1.size = nn := ⟨_, rfl⟩
      have HC := fun cap w hS => Lib.hid (sift_any w g N cap d1 k h a hS (by omega) (by omega) (by omega))
      rw [hd1] at HC
      go_wp2_with (go_at_call 104; refine (HC _ _ hR.row).out.mono ?_; rintro e w2 ⟨rfl, hR2, hs2⟩)
      go_roundw
      case rel => exact ⟨k, _, hs2, by omega, by go_num, HE.out, hR.trans hR2⟩
      case measure => simp [intOf]

end Go.Proofs.YtlpjbmlkpmhdlaaDoor
