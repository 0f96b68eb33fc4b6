/- slices.Sort at uint64, at fewer than fifty: reverseRangeOrdered, choosePivotOrdered, partialInsertionSortOrdered. -/
import Derived.Test.YtfakfmefjfemhaaSh
import Derived.Sort.LotA
namespace Go.Proofs.Ytfakfmefjfemhaa
set_option linter.unusedVariables false
set_option linter.unusedSimpArgs false
open Go.ChangeShapes Go.WideShapes Go.ChangeAt Go.RowKit
open Go.Sort (swp ltInt SortedIn)

theorem rev_more {i j : Nat} {d : Array Int} (h : i < j) : Sort.reverseLoop i j d = Sort.reverseLoop (i + 1) (j - 1) (swp d i j) := by rw [Sort.reverseLoop, if_pos h]
theorem rev_end {i j : Nat} {d : Array Int} (h : ¬ i < j) : Sort.reverseLoop i j d = d := by rw [Sort.reverseLoop, if_neg h]

set_option maxRecDepth 100000 in
set_option maxHeartbeats 4000000 in
theorem rev_any (w : World) (g N cap : Nat) (d : Array Int) (a b : Nat) (hS : Row w g N d) (hab : a < b) (hb : b ≤ d.size) (hn : d.size < 50) :
    Calls Try.prog 67 #[.slice (some ⟨g, 0, none⟩) d.size cap, .int .i64 a, .int .i64 b] w fun e w' => e = .returned (.tuple #[]) ∧ Srt w w' g N (Sort.reverseRange d a b) ∧ (Sort.reverseRange d a b).size = d.size := by
  obtain ⟨n, hnd⟩ : ∃ n, d.size = n := ⟨_, rfl⟩
  rw [hnd] at hb hn ⊢
  go_enter Try.func67, Try.ntmps67
  go_wp2
  go_loopw [6, 7] (fun u v wr => ∃ (i j : Nat) (d1 : Array Int), d1.size = n ∧ i ≤ j + 1 ∧ j < n ∧ u = .int .i64 i ∧ v = .int .i64 j ∧ Sort.reverseLoop i j d1 = Sort.reverseRange d a b ∧ Srt w wr g N d1) (fun _ v _ => (intOf v + 1).toNat)
  case atStart => exact ⟨a, b - 1, d, hnd, by omega, by omega, rfl, by go_num, rfl, Srt.start hS⟩
  case round =>
    obtain ⟨i, j, d1, hd1, hij, hj, rfl, rfl, hE, hR⟩ := hrel
    by_cases hlt : i < j
    · have E := Lib.hid ((rev_more (d := d1) hlt).symm.trans hE)
      have v1 := hR.row.cell (i := i) (by omega)
      have v2 := hR.row.cell (i := j) (by omega)
      have f1 := hR.row.free i
      have f2 := hR.row.free j
      obtain ⟨x, hx⟩ : ∃ x, d1[i]! = x := ⟨_, rfl⟩
      obtain ⟨y, hy⟩ : ∃ y, d1[j]! = y := ⟨_, rfl⟩
      rw [hx] at v1
      rw [hy] at v2
      obtain ⟨v3, hv3⟩ : ∃ v3, (wr.setCell ⟨g, i, none⟩ (.int .u64 y)).cell? ⟨g, j, none⟩ = some v3 := ⟨_, (hR.row.set (i := i) (by omega) y).cell (i := j) (by simp; omega)⟩
      have hR3 := hR.swap' (i := i) (j := j) (by omega) (by omega) hx hy
      clear hx hy hE
      go_wp2
      go_region
      go_wp2
      go_roundw
      case rel => exact ⟨i + 1, j - 1, swp d1 i j, by rw [Sort.size_swp]; exact hd1, by omega, by omega, by go_num, by go_num, E.out, hR3.drew⟩
      case measure => simp [intOf]
    · have E := Lib.hid ((rev_end (d := d1) hlt).symm.trans hE)
      have hle : (j : Int) ≤ (i : Int) := by omega
      clear hE
      go_wp2
      go_end0
      exact ⟨rfl, by rw [← E.out]; exact hR, by rw [← E.out]; exact hd1⟩

/-- a counter in a block of its own -/
def Cnt (w : World) (s : Nat) : Prop := ∃ c : Int, w.heap[s]? = some (.cells #[.int .i64 c] 3 (0, 0))

theorem Cnt.ne {w : World} {s g N : Nat} {d : Array Int} (h : Cnt w s) (hr : Row w g N d) : s ≠ g := by
  rintro rfl
  obtain ⟨c, hc⟩ := h
  obtain ⟨c', hc', _⟩ := hr
  rw [hc] at hc'; simp at hc'
theorem Row.turn {w w' : World} {s g N : Nat} {d : Array Int} (hr : Row w g N d) (ht : Turn (fun i => i = s) w w') (hne : s ≠ g) : Row w' g N d := by
  obtain ⟨c, hc, r⟩ := hr
  exact ⟨c, (ht.block g (lt_of_block hc) (fun e => hne e.symm)).trans hc, r⟩
theorem Cnt.set {w : World} {s : Nat} (h : Cnt w s) (x : Int) : Cnt (w.setCell ⟨s, 0, none⟩ (.int .i64 x)) s := by
  obtain ⟨c, hc⟩ := h
  exact ⟨x, one_setCell hc⟩

theorem order2_any (w : World) (g N cap : Nat) (d : Array Int) (a b s l h : Nat) (hS : Row w g N d) (hs : Cnt w s) (ha : l ≤ a ∧ a < h) (hb : l ≤ b ∧ b < h) (hh : h ≤ d.size) (hn : d.size < 50) :
    Calls Try.prog 80 #[.slice (some ⟨g, 0, none⟩) d.size cap, .int .i64 a, .int .i64 b, .pointer (some ⟨s, 0, none⟩)] w fun e w' => ∃ x y : Nat, e = .returned (.tuple #[.int .i64 x, .int .i64 y]) ∧ (l ≤ x ∧ x < h) ∧ (l ≤ y ∧ y < h) ∧ Cnt w' s ∧ Turn (fun i => i = s) w w' := by
  obtain ⟨n, hnd⟩ : ∃ n, d.size = n := ⟨_, rfl⟩
  rw [hnd] at hh hn ⊢
  have v1 := hS.cell (i := a) (by omega)
  have v2 := hS.cell (i := b) (by omega)
  obtain ⟨x, hx⟩ : ∃ x, d[a]! = x := ⟨_, rfl⟩
  obtain ⟨y, hy⟩ : ∃ y, d[b]! = y := ⟨_, rfl⟩
  rw [hx] at v1
  rw [hy] at v2
  obtain ⟨c, hc⟩ := hs
  have c0 := cell_of_one hc
  have f0 := free_of_one hc
  have l1 : (a : Int) < (n : Int) := by omega
  have l2 : (b : Int) < (n : Int) := by omega
  have HC := Lib.hid hc
  clear hx hy hc
  by_cases hl : ltInt y x = true
  · go_enter Try.func80, Try.ntmps80
    go_wp2
    go_quiet (first | (go_at_call 69; exact quietOf (less_any _ _ _)))
    rw [hl]
    go_wp2
    go_ret2
    exact ⟨b, a, rfl, hb, ha, Cnt.set (w := w.drewN nq) ⟨c, HC.out⟩ _, ⟨rfl, rfl, rfl, by simp [World.setCell], fun i _ hi => (Below.heap_setCell _ _ _ _ hi)⟩⟩
  · have hl' : ltInt y x = false := by simpa using hl
    clear hl
    go_enter Try.func80, Try.ntmps80
    go_wp2
    go_quiet (first | (go_at_call 69; exact quietOf (less_any _ _ _)))
    rw [hl']
    go_wp2
    go_ret2
    exact ⟨a, b, rfl, ha, hb, ⟨c, HC.out⟩, ⟨rfl, rfl, rfl, Nat.le_refl _, fun i _ _ => rfl⟩⟩

theorem turn_turn {s : Nat} {w w1 w2 : World} (h : Turn (fun i => i = s) w w1) (k : Turn (fun i => i = s) w1 w2) : Turn (fun i => i = s) w w2 := h.trans (k.mono fun i _ hi => Or.inl hi)

theorem median_any (w : World) (g N cap : Nat) (d : Array Int) (a b c s l h : Nat) (hS : Row w g N d) (hs : Cnt w s) (ha : l ≤ a ∧ a < h) (hb : l ≤ b ∧ b < h) (hc : l ≤ c ∧ c < h) (hh : h ≤ d.size) (hn : d.size < 50) :
    Calls Try.prog 78 #[.slice (some ⟨g, 0, none⟩) d.size cap, .int .i64 a, .int .i64 b, .int .i64 c, .pointer (some ⟨s, 0, none⟩)] w fun e w' => ∃ x : Nat, e = .returned (.int .i64 x) ∧ (l ≤ x ∧ x < h) ∧ Cnt w' s ∧ Turn (fun i => i = s) w w' := by
  have hne := Lib.hid (hs.ne hS)
  have H := Lib.hid (fun cap w' a b hs' hS' ha hb => order2_any w' g N cap d a b s l h hS' hs' ha hb hh hn)
  obtain ⟨n, hnd⟩ : ∃ n, d.size = n := ⟨_, rfl⟩
  rw [hnd] at H ⊢
  go_enter Try.func78, Try.ntmps78
  go_wp2_with fail
  refine (H.out _ _ _ _ hs hS ha hb).mono ?_
  rintro e w1 ⟨x1, y1, rfl, hx1, hy1, hs1, ht1⟩
  go_wp2_with fail
  refine (H.out _ _ _ _ hs1 (hS.turn ht1 hne.out) hy1 hc).mono ?_
  rintro e w2 ⟨x2, y2, rfl, hx2, hy2, hs2, ht2⟩
  go_wp2_with fail
  refine (H.out _ _ _ _ hs2 (hS.turn (turn_turn ht1 ht2) hne.out) hx1 hx2).mono ?_
  rintro e w3 ⟨x3, y3, rfl, hx3, hy3, hs3, ht3⟩
  go_wp2
  go_ret
  exact ⟨y3, rfl, hy3, hs3, turn_turn (turn_turn ht1 ht2) ht3⟩

set_option maxRecDepth 100000 in
theorem pivot_any (w : World) (g N cap : Nat) (d : Array Int) (a b : Nat) (hS : Row w g N d) (hab : a + 12 < b) (hb : b ≤ d.size) (hn : d.size < 50) :
    Calls Try.prog 66 #[.slice (some ⟨g, 0, none⟩) d.size cap, .int .i64 a, .int .i64 b] w fun e w' => ∃ (p : Nat) (h : Int), e = .returned (.tuple #[.int .i64 p, .int .i64 h]) ∧ (a ≤ p ∧ p < b) ∧ (h = 0 ∨ h = 1 ∨ h = 2) ∧ Srt w w' g N d := by
  obtain ⟨l, hl⟩ : ∃ l : Nat, b - a = l := ⟨_, rfl⟩
  obtain ⟨q, hq⟩ : ∃ q : Nat, l / 4 = q := ⟨_, rfl⟩
  have e1 : (b : Int) - (a : Int) = (l : Int) := by omega
  have e2 : (l : Int).tdiv 4 = (q : Int) := by rw [Int.tdiv_eq_ediv_of_nonneg (by omega)]; omega
  obtain ⟨i, hi⟩ : ∃ i : Nat, a + q = i := ⟨_, rfl⟩
  obtain ⟨j, hj⟩ : ∃ j : Nat, a + q * 2 = j := ⟨_, rfl⟩
  obtain ⟨k, hk⟩ : ∃ k : Nat, a + q * 3 = k := ⟨_, rfl⟩
  have e3 : (a : Int) + (q : Int) = (i : Int) := by omega
  have e4 : (a : Int) + (q : Int) * 2 = (j : Int) := by omega
  have e5 : (a : Int) + (q : Int) * 3 = (k : Int) := by omega
  have l1 : (8 : Int) ≤ (l : Int) := by omega
  have l2 : (l : Int) < 50 := by omega
  have q12 : (q : Int) ≤ 12 := by omega
  have a50 : (a : Int) ≤ 50 := by omega
  have HC := Lib.hid (show Cnt (w.alloc (.cells #[.int .i64 0] 3)) w.heap.size from ⟨0, Deep.blk_alloc_new _ _⟩)
  have HS := Lib.hid ((Srt.start hS).alloc (.cells #[.int .i64 0] 3))
  have H := Lib.hid (fun cap => median_any (w.alloc (.cells #[.int .i64 0] 3)) g N cap d i j k w.heap.size a b HS.out.row HC.out (by omega) (by omega) (by omega) hb hn)
  have hne := Lib.hid (HC.out.ne HS.out.row)
  obtain ⟨n, hnd⟩ : ∃ n, d.size = n := ⟨_, rfl⟩
  rw [hnd] at H ⊢
  clear hi hj hk hq hl
  go_enter Try.func66, Try.ntmps66
  go_wp2_with fail
  refine (H.out _).mono ?_
  rintro e w1 ⟨x, rfl, hx, ⟨c, hc⟩, ht⟩
  have hR : Srt w w1 g N d := ⟨HS.out.turn.trans (Turn.mono ht (fun i _ hi => Or.inr (by rw [hi]; exact Nat.le_refl _))), HS.out.row.turn ht hne.out⟩
  have c0 := cell_of_one hc
  by_cases h0 : c = 0
  · subst h0
    go_wp2
    go_ret2
    exact ⟨x, 1, rfl, hx, by omega, hR⟩
  · have b0 : (c == 0) = false := by simpa using h0
    by_cases h12 : c = 12
    · subst h12
      go_wp2
      go_ret2
      exact ⟨x, 2, rfl, hx, by omega, hR⟩
    · have b12 : (c == 12) = false := by simpa using h12
      clear h0 h12
      go_wp2
      go_ret2
      exact ⟨x, 0, rfl, hx, by omega, hR⟩

theorem sorted_one (d : Array Int) (a : Nat) : SortedIn ltInt a (a + 1) d := fun i j h1 h2 h3 => by omega

set_option maxRecDepth 100000 in
set_option maxHeartbeats 4000000 in
theorem part_any (w : World) (g N cap : Nat) (d : Array Int) (a b : Nat) (hS : Row w g N d) (hab : a < b) (hb : b ≤ d.size) (hn : d.size < 50) :
    Calls Try.prog 68 #[.slice (some ⟨g, 0, none⟩) d.size cap, .int .i64 a, .int .i64 b] w fun e w' => ∃ r : Bool, e = .returned (.bool r) ∧ (r = true → SortedIn ltInt a b d) ∧ Srt w w' g N d := by
  obtain ⟨n, hnd⟩ : ∃ n, d.size = n := ⟨_, rfl⟩
  rw [hnd] at hb hn ⊢
  have hba : (b : Int) - (a : Int) < 50 := by omega
  have hba0 : (0 : Int) ≤ (b : Int) - (a : Int) := by omega
  go_enter Try.func68, Try.ntmps68
  go_wp2
  refine wp_loop_rounds 1 ?_
  rw [rounds_succ]
  go_wp2
  go_loopw [7] (fun v wr => ∃ (i m : Nat), a + 1 ≤ i ∧ i ≤ b ∧ v = .int .i64 i ∧ SortedIn ltInt a i d ∧ wr = w.drewN m) (fun v _ => (b - intOf v).toNat)
  case atStart => exact ⟨a + 1, 0, by omega, by omega, by go_num, sorted_one d a, rfl⟩
  case round =>
    obtain ⟨i, m, hi1, hi2, rfl, hs, rfl⟩ := hrel
    have HS := Lib.hid hs
    clear hs
    by_cases hlt : i < b
    · obtain ⟨q, rfl⟩ : ∃ q, i = q + 1 := ⟨i - 1, by omega⟩
      have c1 := hS.cell (i := q + 1) (by omega)
      have c2 := hS.cell (i := q) (by omega)
      obtain ⟨x, hx⟩ : ∃ x, d[q + 1]! = x := ⟨_, rfl⟩
      obtain ⟨y, hy⟩ : ∃ y, d[q]! = y := ⟨_, rfl⟩
      rw [hx] at c1
      rw [hy] at c2
      have e1 : ((q : Int) + 1 - 1) = q := by omega
      have hq1 : (q : Int) + 1 < (b : Int) := by omega
      have hq2 : (q : Int) + 1 < n := by omega
      have HXY := Lib.hid (And.intro hx hy)
      clear hx hy
      by_cases hl : ltInt x y = true
      · have hne : (((q + 1 : Nat) : Int) == (b : Int)) = false := by simp; omega
        go_wp2
        go_quiet (first | (go_at_call 69; exact quietOf2 (less_any _ _ _)))
        (try rw [hl])
        go_wp2
        go_ret
        exact ⟨false, rfl, (fun h => by cases h), (Srt.start hS).drewN _⟩
      · have hl' : ltInt x y = false := by simpa using hl
        have HN := Lib.hid (SortedIn.snoc Sort.swo_ltInt HS.out (by rw [HXY.out.1, show q + 1 - 1 = q by omega, HXY.out.2]; exact hl'))
        clear hl
        go_wp2
        go_quiet (first | (go_at_call 69; exact quietOf2 (less_any _ _ _)))
        (try rw [hl'])
        go_wp2
        go_roundw
        case rel => exact ⟨q + 1 + 1, _, by omega, by omega, by go_num, HN.out, rfl⟩
        case measure => simp [intOf]; omega
    · have e : i = b := by omega
      subst e
      have hg : decide ((i : Int) < (i : Int)) = false := by simp
      go_wp2
      go_quiet (fail)
      go_wp2
      go_ret
      exact ⟨true, rfl, fun _ => HS.out, (Srt.start hS).drewN _⟩

end Go.Proofs.Ytfakfmefjfemhaa
