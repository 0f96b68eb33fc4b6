/- Several texts of ours in one: Sb, Sk, Sq. -/
import Derived.Test.YtlpjbmlkpmhdlaaDoorGSpSePa
import Derived.Test.YtlpjbmlkpmhdlaaDoorGBvAM
import Derived.Deep.CutRange
import Derived.Deep.CutBlock
import Derived.Deep.Cut
/- slices.Sort at uint64, at fewer than fifty: bits.Len, nextPowerOfTwo, xorshift, breakPatternsOrdered. -/
namespace Go.Proofs.YtlpjbmlkpmhdlaaDoor
set_option linter.unusedVariables false
set_option linter.unusedSimpArgs false
open Go.ChangeShapes Go.WideShapes Go.ChangeAt Go.RowKit
open Go.Sort (swp ltInt SortedIn PermIn)

def lenT (l : Nat) : Nat := if l = 0 then 0 else if l < 2 then 1 else if l < 4 then 2 else if l < 8 then 3 else if l < 16 then 4 else if l < 32 then 5 else 6

set_option maxRecDepth 100000 in
set_option maxHeartbeats 16000000 in
theorem len64_any (l : Nat) (w : World) (h : l < 50) : Calls Tryd.prog 103 #[.int .u64 l] w fun e w' => e = .returned (.int .i64 (lenT l)) ∧ w = w' := by
  have : l = 0 ∨ l = 1 ∨ l = 2 ∨ l = 3 ∨ l = 4 ∨ l = 5 ∨ l = 6 ∨ l = 7 ∨ l = 8 ∨ l = 9 ∨ l = 10 ∨ l = 11 ∨ l = 12 ∨ l = 13 ∨ l = 14 ∨ l = 15 ∨ l = 16 ∨ l = 17 ∨ l = 18 ∨ l = 19 ∨ l = 20 ∨ l = 21 ∨ l = 22 ∨ l = 23 ∨ l = 24 ∨ l = 25 ∨ l = 26 ∨ l = 27 ∨ l = 28 ∨ l = 29 ∨ l = 30 ∨ l = 31 ∨ l = 32 ∨ l = 33 ∨ l = 34 ∨ l = 35 ∨ l = 36 ∨ l = 37 ∨ l = 38 ∨ l = 39 ∨ l = 40 ∨ l = 41 ∨ l = 42 ∨ l = 43 ∨ l = 44 ∨ l = 45 ∨ l = 46 ∨ l = 47 ∨ l = 48 ∨ l = 49 := by omega
  clear h
  rcases this with rfl | rfl | rfl | rfl | rfl | rfl | rfl | rfl | rfl | rfl | rfl | rfl | rfl | rfl | rfl | rfl | rfl | rfl | rfl | rfl | rfl | rfl | rfl | rfl | rfl | rfl | rfl | rfl | rfl | rfl | rfl | rfl | rfl | rfl | rfl | rfl | rfl | rfl | rfl | rfl | rfl | rfl | rfl | rfl | rfl | rfl | rfl | rfl | rfl | rfl
  all_goals
    go_enter Tryd.func103, Tryd.ntmps103
    go_wp2
    go_ret
    exact ⟨by kernel_rfl, rfl⟩

theorem len_any (l : Nat) (w : World) (h : l < 50) : Calls Tryd.prog 91 #[.int .u64 l] w fun e w' => e = .returned (.int .i64 (lenT l)) ∧ w = w' := by
  go_enter Tryd.func91, Tryd.ntmps91
  go_wp2_with (go_at_call 103; refine (len64_any l _ h).mono ?_; rintro e w' ⟨rfl, rfl⟩)
  go_ret
  exact ⟨rfl, rfl⟩

theorem pow2_any (l : Nat) (w : World) (h : l < 50) (h8 : 8 ≤ l) : Calls Tryd.prog 105 #[.int .i64 l] w fun e w' => (∃ md : Int, e = .returned (.int .u64 md) ∧ (md = 16 ∨ md = 32 ∨ md = 64) ∧ l < md ∧ md ≤ 2 * l) ∧ w = w' := by
  have hl0 : (0 : Int) ≤ (l : Int) := by omega
  have hl1 : (l : Int) < 50 := by omega
  by_cases h1 : l < 16
  · have e : (lenT l : Int) = 4 := by unfold lenT; rw [if_neg (by omega), if_neg (by omega), if_neg (by omega), if_neg (by omega), if_pos h1]; rfl
    go_enter Tryd.func105, Tryd.ntmps105
    go_wp2_with (go_at_call 91; refine (len_any l _ h).mono ?_; rw [e]; rintro e w' ⟨rfl, rfl⟩)
    go_ret
    exact ⟨⟨16, rfl, by omega, by omega, by omega⟩, rfl⟩
  · by_cases h2 : l < 32
    · have e : (lenT l : Int) = 5 := by unfold lenT; rw [if_neg (by omega), if_neg (by omega), if_neg (by omega), if_neg (by omega), if_neg h1, if_pos h2]; rfl
      go_enter Tryd.func105, Tryd.ntmps105
      go_wp2_with (go_at_call 91; refine (len_any l _ h).mono ?_; rw [e]; rintro e w' ⟨rfl, rfl⟩)
      go_ret
      exact ⟨⟨32, rfl, by omega, by omega, by omega⟩, rfl⟩
    · have e : (lenT l : Int) = 6 := by unfold lenT; rw [if_neg (by omega), if_neg (by omega), if_neg (by omega), if_neg (by omega), if_neg h1, if_neg h2]; rfl
      go_enter Tryd.func105, Tryd.ntmps105
      go_wp2_with (go_at_call 91; refine (len_any l _ h).mono ?_; rw [e]; rintro e w' ⟨rfl, rfl⟩)
      go_ret
      exact ⟨⟨64, rfl, by omega, by omega, by omega⟩, rfl⟩

/-- a generator of numbers in a block of its own -/
def Rng (w : World) (s : Nat) : Prop := ∃ c : Int, w.heap[s]? = some (.cells #[.int .u64 c] 150 (0, 0))
theorem Rng.ne {w : World} {s g N : Nat} {d : Array Int} (h : Rng w s) (hr : Row w g N d) : s ≠ g := by
  rintro rfl
  obtain ⟨c, hc⟩ := h
  obtain ⟨c', hc', _⟩ := hr
  rw [hc] at hc'; simp at hc'

theorem one_set2 {w : World} {s : Nat} {u v : Value} {t : TypeId} (h : w.heap[s]? = some (.cells #[u] t (0, 0))) : (w.setCell ⟨s, 0, none⟩ v).heap[s]? = some (.cells #[v] t (0, 0)) := one_setCell h

set_option maxRecDepth 100000 in
set_option maxHeartbeats 4000000 in
theorem sNext_any (w : World) (s : Nat) (hs : Rng w s) : Calls Tryd.prog 106 #[.pointer (some ⟨s, 0, none⟩)] w fun e w' => ∃ r : Int, e = .returned (.int .u64 r) ∧ Rng w' s ∧ Turn (fun i => i = s) w w' := by
  obtain ⟨c, hc⟩ := hs
  have c0 := cell_of_one hc
  have f0 := free_of_one hc
  have hA : ∀ x y z : Value, (((w.setCell ⟨s, 0, none⟩ x).setCell ⟨s, 0, none⟩ y).setCell ⟨s, 0, none⟩ z).cell? ⟨s, 0, none⟩ = some z := fun x y z => cell_of_one (one_setCell (one_setCell (one_setCell hc)))
  go_enter Tryd.func106, Tryd.ntmps106
  go_wp2
  go_region
  go_wp2
  go_region
  go_wp2
  go_region
  go_wp2
  go_ret
  exact ⟨_, rfl, ⟨_, one_setCell (one_setCell (one_setCell hc))⟩, ⟨rfl, rfl, rfl, by simp [World.setCell], fun i _ hi => (Below.heap_setCell _ _ _ _ hi).trans ((Below.heap_setCell _ _ _ _ hi).trans (Below.heap_setCell _ _ _ _ hi))⟩⟩

theorem and_le (r m : Int) (h0 : 0 ≤ m) (h1 : m < 18446744073709551616) : 0 ≤ bits .and .u64 r m ∧ bits .and .u64 r m ≤ m := by
  have e : bits .and .u64 r m = ((BitVec.ofInt 64 r &&& BitVec.ofInt 64 m).toNat : Int) := wrap_bv _
  rw [e, BitVec.toNat_and]
  have h2 : (BitVec.ofInt 64 m).toNat ≤ m.toNat := by
    rw [BitVec.toNat_ofInt]
    have : (m % (2 ^ 64 : Nat)) = m := Int.emod_eq_of_lt h0 (by simpa using h1)
    rw [this]; exact Nat.le_refl _
  have h3 := Nat.and_le_right (n := (BitVec.ofInt 64 r).toNat) (m := (BitVec.ofInt 64 m).toNat)
  omega

end Go.Proofs.YtlpjbmlkpmhdlaaDoor
/- slices.Sort at uint64, at fewer than fifty: breakPatternsOrdered. -/
namespace Go.Proofs.YtlpjbmlkpmhdlaaDoor
set_option linter.unusedVariables false
set_option linter.unusedSimpArgs false
open Go.ChangeShapes Go.WideShapes Go.ChangeAt Go.RowKit
open Go.Sort (swp ltInt SortedIn PermIn)

set_option maxRecDepth 100000 in
set_option maxHeartbeats 8000000 in
theorem break_any (w : World) (g N cap : Nat) (d : Array Int) (a b : Nat) (hS : Row w g N d) (hab : a + 12 < b) (hb : b ≤ d.size) (hn : d.size < 50) :
    Calls Tryd.prog 95 #[.slice (some ⟨g, 0, none⟩) d.size cap, .int .i64 a, .int .i64 b] w fun e w' => e = .returned (.tuple #[]) ∧ ∃ d' : Array Int, Srt w w' g N d' ∧ PermIn a b d d' := by
  obtain ⟨n, hnd⟩ : ∃ n, d.size = n := ⟨_, rfl⟩
  rw [hnd] at hb hn ⊢
  obtain ⟨l, hl⟩ : ∃ l : Nat, b - a = l := ⟨_, rfl⟩
  obtain ⟨q, hq⟩ : ∃ q : Nat, l / 4 = q := ⟨_, rfl⟩
  have e1 : (b : Int) - (a : Int) = (l : Int) := by omega
  have e2 : (l : Int).tdiv 4 = (q : Int) := by rw [Int.tdiv_eq_ediv_of_nonneg (by omega)]; omega
  obtain ⟨k, hk⟩ : ∃ k : Nat, a + q * 2 = k := ⟨_, rfl⟩
  have e4 : (a : Int) + (q : Int) * 2 = (k : Int) := by omega
  have l1 : (8 : Int) ≤ (l : Int) := by omega
  have l2 : (l : Int) < 50 := by omega
  have q12 : (q : Int) ≤ 12 := by omega
  have a50 : (a : Int) ≤ 50 := by omega
  have k50 : (k : Int) ≤ 50 := by omega
  have hk1 : a + 6 ≤ k := by omega
  have hk2 : k + 1 < b := by omega
  go_enter Tryd.func95, Tryd.ntmps95
  go_wp2_with fail
  refine (pow2_any l _ (by omega) (by omega)).mono ?_
  rintro e w1 ⟨⟨md, rfl, hmd, hm1, hm2⟩, rfl⟩
  have hR0 := (Srt.start hS).alloc (.cells #[.int .u64 l] 150)
  have hG0 : Rng (w.alloc (.cells #[.int .u64 l] 150)) w.heap.size := ⟨_, Deep.blk_alloc_new _ _⟩
  have hmb : 16 ≤ md ∧ md ≤ 64 := by omega
  obtain ⟨mb0, mb1⟩ := hmb
  clear hmd
  go_wp2
  go_loopw [9] (fun v wr => ∃ (i : Nat) (d1 : Array Int), k ≤ i + 1 ∧ i ≤ k + 2 ∧ v = .int .i64 i ∧ d1.size = n ∧ PermIn a b d d1 ∧ Srt w wr g N d1 ∧ Rng wr w.heap.size) (fun v _ => (k + 2 - intOf v).toNat)
  case atStart => exact ⟨k - 1, d, by omega, by omega, by go_num, hnd, Sort.permIn_refl _ _ _, hR0, hG0⟩
  case round =>
    obtain ⟨i, d1, hi1, hi2, rfl, hd1, hpm, hR, hG⟩ := hrel
    by_cases hlt : i ≤ k + 1
    · have hlt' : (i : Int) ≤ (k : Int) + 1 := by omega
      have hne := hG.ne hR.row
      go_wp2_with fail
      refine (sNext_any _ _ hG).mono ?_
      rintro e w2 ⟨r, rfl, hG2, hT2⟩
      have hR2 : Srt w w2 g N d1 := ⟨hR.turn.trans (hT2.mono fun i _ hi => Or.inr (by rw [hi]; exact Nat.le_refl _)), hR.row.turn hT2 hne⟩
      have hal := and_le r (md - 1) (by omega) (by omega)
      obtain ⟨o, ho⟩ : ∃ o : Nat, bits .and .u64 r (md - 1) = (o : Int) := ⟨(bits .and .u64 r (md - 1)).toNat, by omega⟩
      rw [ho] at hal
      obtain ⟨_, o1⟩ := hal
      clear hR hG hT2
      by_cases hol : o < l
      · have hol' : (o : Int) < (l : Int) := by omega
        obtain ⟨P, hP⟩ : ∃ P : Nat, a + o = P := ⟨_, rfl⟩
        have eP : (a : Int) + (o : Int) = (P : Int) := by omega
        have v1 := hR2.row.cell (i := i) (by omega)
        have v2 := hR2.row.cell (i := P) (by omega)
        have f1 := hR2.row.free i
        have f2 := hR2.row.free P
        obtain ⟨x, hx⟩ : ∃ x, d1[i]! = x := ⟨_, rfl⟩
        obtain ⟨y, hy⟩ : ∃ y, d1[P]! = y := ⟨_, rfl⟩
        rw [hx] at v1
        rw [hy] at v2
        obtain ⟨v3, hv3⟩ : ∃ v3, (w2.setCell ⟨g, i, none⟩ (.int .u64 y)).cell? ⟨g, P, none⟩ = some v3 := ⟨_, (hR2.row.set (i := i) (by omega) y).cell (i := P) (by simp; omega)⟩
        have hR3 := hR2.swap' (i := i) (j := P) (by omega) (by omega) hx hy
        have kk1 : (i : Int) < (n : Int) := by omega
        have kk2 : (P : Int) < (n : Int) := by omega
        have HPm := Lib.hid (Sort.permIn_trans _ _ _ a b hpm (Sort.swp_permIn d1 a b i P (by omega) (by omega) (by omega) (by omega) (by omega)))
        have HG3 : Hid (Rng ((w2.setCell ⟨g, i, none⟩ (.int .u64 y)).setCell ⟨g, P, none⟩ (.int .u64 x)) w.heap.size) := Lib.hid (by obtain ⟨c, hc⟩ := hG2; exact ⟨c, ((Below.heap_setCell _ _ _ _ hne).trans (Below.heap_setCell _ _ _ _ hne)).trans hc⟩)
        clear hx hy
        go_wp2
        go_region
        go_wp2
        go_roundw
        case rel => exact ⟨i + 1, swp d1 i P, by omega, by omega, by go_num, by rw [Sort.size_swp]; exact hd1, HPm.out, hR3.drew, HG3.out⟩
        case measure => simp [intOf]; omega
      · have hol' : (l : Int) ≤ (o : Int) := by omega
        obtain ⟨o2, ho2⟩ : ∃ o2 : Nat, o - l = o2 := ⟨_, rfl⟩
        have eo : (o : Int) - (l : Int) = (o2 : Int) := by omega
        obtain ⟨P, hP⟩ : ∃ P : Nat, a + o2 = P := ⟨_, rfl⟩
        have eP : (a : Int) + (o2 : Int) = (P : Int) := by omega
        have v1 := hR2.row.cell (i := i) (by omega)
        have v2 := hR2.row.cell (i := P) (by omega)
        have f1 := hR2.row.free i
        have f2 := hR2.row.free P
        obtain ⟨x, hx⟩ : ∃ x, d1[i]! = x := ⟨_, rfl⟩
        obtain ⟨y, hy⟩ : ∃ y, d1[P]! = y := ⟨_, rfl⟩
        rw [hx] at v1
        rw [hy] at v2
        obtain ⟨v3, hv3⟩ : ∃ v3, (w2.setCell ⟨g, i, none⟩ (.int .u64 y)).cell? ⟨g, P, none⟩ = some v3 := ⟨_, (hR2.row.set (i := i) (by omega) y).cell (i := P) (by simp; omega)⟩
        have hR3 := hR2.swap' (i := i) (j := P) (by omega) (by omega) hx hy
        have kk1 : (i : Int) < (n : Int) := by omega
        have kk2 : (P : Int) < (n : Int) := by omega
        have HPm := Lib.hid (Sort.permIn_trans _ _ _ a b hpm (Sort.swp_permIn d1 a b i P (by omega) (by omega) (by omega) (by omega) (by omega)))
        have HG3 : Hid (Rng ((w2.setCell ⟨g, i, none⟩ (.int .u64 y)).setCell ⟨g, P, none⟩ (.int .u64 x)) w.heap.size) := Lib.hid (by obtain ⟨c, hc⟩ := hG2; exact ⟨c, ((Below.heap_setCell _ _ _ _ hne).trans (Below.heap_setCell _ _ _ _ hne)).trans hc⟩)
        clear hx hy
        go_wp2
        go_region
        go_wp2
        go_roundw
        case rel => exact ⟨i + 1, swp d1 i P, by omega, by omega, by go_num, by rw [Sort.size_swp]; exact hd1, HPm.out, hR3.drew, HG3.out⟩
        case measure => simp [intOf]; omega
    · have hge : (k : Int) + 1 < (i : Int) := by omega
      go_wp2
      go_end0
      exact ⟨rfl, d1, hR, hpm⟩

end Go.Proofs.YtlpjbmlkpmhdlaaDoor
/- slices.Sort at uint64, at fewer than fifty: pdqsortOrdered. -/
namespace Go.Proofs.YtlpjbmlkpmhdlaaDoor
set_option linter.unusedVariables false
set_option linter.unusedSimpArgs false
open Go.ChangeShapes Go.WideShapes Go.ChangeAt Go.RowKit
open Go.Sort (swp ltInt SortedIn PermIn Below)

/-- what is sorted and a permutation of dk between a' and b' is so of d between a and b -/
def Done (a b : Nat) (d : Array Int) (a' b' : Nat) (dk : Array Int) : Prop := ∀ R, PermIn a' b' dk R → SortedIn ltInt a' b' R → PermIn a b d R ∧ SortedIn ltInt a b R

theorem Done.perm {a b a' b' : Nat} {d dk d1 : Array Int} (h : Done a b d a' b' dk) (hp : PermIn a' b' dk d1) : Done a b d a' b' d1 := fun R h1 h2 => h R (Sort.permIn_trans _ _ _ _ _ hp h1) h2

theorem wrap_i64 {a : Int} (h0 : 0 ≤ a) (h1 : a < 100) : IntKind.i64.wrap a = a := by
  unfold IntKind.wrap
  simp [IntKind.bits, IntKind.signed]
  omega

set_option maxRecDepth 1000000 in
set_option maxHeartbeats 16000000 in
theorem pdq_any : ∀ (K : Nat) (w : World) (g N cap : Nat) (d : Array Int) (a b limit : Nat) (_ : b - a < K) (_ : Row w g N d) (_ : a ≤ b) (_ : b ≤ d.size) (_ : d.size < 50) (_ : limit ≤ 64) (_ : Below ltInt a b d),
    Calls Tryd.prog 90 #[.slice (some ⟨g, 0, none⟩) d.size cap, .int .i64 a, .int .i64 b, .int .i64 limit] w fun e w' => e = .returned (.tuple #[]) ∧ ∃ d' : Array Int, Srt w w' g N d' ∧ PermIn a b d d' ∧ SortedIn ltInt a b d' := by
  intro K
  induction K with
  | zero => intro _ _ _ _ _ _ _ _ h; exact absurd h (Nat.not_lt_zero _)
  | succ K ih =>
    intro w g N cap d a b limit hK hS hab hb hn hlimit hBel0
    obtain ⟨n, hnd⟩ : ∃ n, d.size = n := ⟨_, rfl⟩
    rw [hnd] at hb hn ⊢
    have IH := Lib.hid ih
    clear ih
    go_enter Tryd.func90, Tryd.ntmps90
    go_wp2
    go_loopg [1, 2, 3, 8, 9] (b - a) (fun k s1 s2 s3 s8 s9 wr => ∃ (a' b' lim : Nat) (wb wp : Bool) (dk : Array Int), s1 = .int .i64 a' ∧ s2 = .int .i64 b' ∧ s3 = .int .i64 lim ∧ s8 = .bool wb ∧ s9 = .bool wp ∧
      a' ≤ b' ∧ b' ≤ n ∧ b' - a' ≤ k ∧ k ≤ b - a ∧ lim ≤ 64 ∧ dk.size = n ∧ Below ltInt a' b' dk ∧ Srt w wr g N dk ∧ Hid (Done a b d a' b' dk))
    case atStart => exact ⟨a, b, limit, true, true, d, rfl, rfl, rfl, rfl, rfl, hab, hb, Nat.le_refl _, Nat.le_refl _, hlimit, hnd, hBel0, Srt.start hS, Lib.hid (fun R h1 h2 => ⟨h1, h2⟩)⟩
    case round =>
      obtain ⟨a', b', lim, wb, wp, dk, rfl, rfl, rfl, rfl, rfl, hab', hb', hk, hkN, hlim, hds, hBel, hR, hD⟩ := hrel
      by_cases h12 : b' - a' ≤ 12
      · have h12z : (b' : Int) - (a' : Int) ≤ 12 := by omega
        have hc := ins_any wr g N cap dk a' b' hR.row hab' (by omega) (by omega)
        rw [hds] at hc
        have h2 := Lib.hid (Sort.insertionSort_holds Sort.swo_ltInt dk a' b' hab' (by omega))
        go_wp2_with (go_at_call 93; refine hc.mono ?_; rintro e w1 ⟨rfl, hw1, _⟩)
        (try simp only [Exit.inBlock, Exit.then]); refine bodyPost_ret (results_none rfl _ _ _) rfl ?_
        exact ⟨rfl, _, hR.trans hw1, hD.out _ h2.out.1 h2.out.2⟩
      · have h12z : ¬ ((b' : Int) - (a' : Int) ≤ 12) := by omega
        by_cases hl0 : lim = 0
        · subst hl0
          have hc := heap_any wr g N cap dk a' b' hR.row hab' (by omega) (by omega)
          rw [hds] at hc
          have h2 := Lib.hid (Sort.heapSort_holds Sort.swo_ltInt dk a' b' hab' (by omega))
          go_wp2_with (go_at_call 94; refine hc.mono ?_; rintro e w1 ⟨rfl, hw1, _⟩)
          (try simp only [Exit.inBlock, Exit.then]); refine bodyPost_ret (results_none rfl _ _ _) rfl ?_
          exact ⟨rfl, _, hR.trans hw1, hD.out _ h2.out.1 h2.out.2⟩
        · have hl0z : ¬ ((lim : Int) = 0) := by omega
          go_upto_if 35 with fail
          go_cut [3] from 19 (fun s3 wc => ∃ (lim1 : Nat) (d1 : Array Int), s3 = .int .i64 lim1 ∧ lim1 ≤ 64 ∧ d1.size = n ∧ PermIn a' b' dk d1 ∧ Srt w wc g N d1)
          case first =>
            cases wb
            · have hc := break_any wr g N cap dk a' b' hR.row (by omega) (by omega) (by omega)
              rw [hds] at hc
              go_wp2_with (go_at_call 95; refine hc.mono ?_; rintro e w1 ⟨rfl, d1, hw1, hp1⟩)
              go_meet
              case rel => exact ⟨lim - 1, d1, by go_num, by omega, hp1.1.trans hds, hp1, hR.trans hw1⟩
            · go_wp2_with fail
              go_meet
              case rel => exact ⟨lim, dk, rfl, hlim, hds, Sort.permIn_refl _ _ _, hR⟩
          case rest =>
            obtain ⟨lim1, d1, rfl, hlim1, hd1, hp1, hR1⟩ := hcut
            have hD1 := Lib.hid (hD.out.perm hp1)
            have hB1 := hBel.perm (by omega) hp1
            clear hR hD hBel hp1 hds hlim hl0 hl0z
            have hc17 := pivot_any wc g N cap d1 a' b' hR1.row (by omega) (by omega) (by omega)
            rw [hd1] at hc17
            go_upto_if 50 with (go_at_call 96; refine hc17.mono ?_; rintro e w2 ⟨p, h, rfl, hp, hh, hw2⟩)
            have hR2 := hR1.trans hw2
            clear hR1 hw2 hc17
            go_cut [11, 12] from 19 (fun s11 s12 wc => ∃ (p2 : Nat) (h2 : Int) (d2 : Array Int), s11 = .int .i64 p2 ∧ s12 = .int .i64 h2 ∧ (a' ≤ p2 ∧ p2 < b') ∧ (h2 = 0 ∨ h2 = 1) ∧ d2.size = n ∧ PermIn a' b' d1 d2 ∧ Srt w wc g N d2)
            case first =>
              by_cases e2 : h = 2
              · subst e2
                have hc18 := rev_any w2 g N cap d1 a' b' hR2.row (by omega) (by omega) (by omega)
                rw [hd1] at hc18
                have h2 := Lib.hid (Sort.reverseRange_holds d1 a' b' hab' (by omega))
                obtain ⟨p2, hp2⟩ : ∃ p2 : Nat, b' - 1 - (p - a') = p2 := ⟨_, rfl⟩
                have ep : (b' : Int) - 1 - ((p : Int) - (a' : Int)) = (p2 : Int) := by omega
                go_wp2_with (go_at_call 97; refine hc18.mono ?_; rintro e w3 ⟨rfl, hw3, hs3⟩)
                go_meet
                case rel => exact ⟨p2, 1, _, by go_num, rfl, by omega, by omega, hs3, h2.out, hR2.trans hw3⟩
              · have e2' : (h == 2) = false := by simpa using e2
                go_wp2_with fail
                go_meet
                case rel => exact ⟨p, h, d1, rfl, rfl, hp, by omega, hd1, Sort.permIn_refl _ _ _, hR2⟩
            case rest =>
              obtain ⟨p2, h2, d2, rfl, rfl, hp2, hh2, hd2, hpm2, hR3⟩ := hcut
              have hD2 := Lib.hid (hD1.out.perm hpm2)
              have hB2 := hB1.perm (by omega) hpm2
              clear hR2 hD1 hB1 hpm2 hd1 hp hh
              go_upto_region 15 with fail
              go_cut [68] from 19 (fun s68 wx => ∃ r : Bool, s68 = .bool r ∧ wx = wc)
              case first =>
                rcases hh2 with rfl | rfl <;> cases wb <;> cases wp <;>
                  (go_wp2_with fail
                   go_meet
                   exact ⟨_, rfl, rfl⟩)
              case rest =>
                obtain ⟨r, rfl, rfl⟩ := hcut
                go_upto_if 68 with fail
                go_cut [] from 19 (fun wx => Srt w wx g N d2)
                case first =>
                  cases r
                  · go_wp2_with fail
                    go_meet
                    case rel => exact hR3
                  · have hc19 := sPart_any wc g N cap d2 a' b' hR3.row (by omega) (by omega) (by omega)
                    rw [hd2] at hc19
                    go_wp2_with (go_at_call 98; refine hc19.mono ?_; rintro e w4 ⟨r, rfl, hs4, hw4⟩; cases r)
                    · go_meet
                      case rel => exact hR3.trans hw4
                    · (try simp only [Exit.inBlock, Exit.then]); refine bodyPost_ret (results_none rfl _ _ _) rfl ?_
                      exact ⟨rfl, d2, hR3.trans hw4, hD2.out _ (Sort.permIn_refl _ _ _) (hs4 (by trivial))⟩
                case rest =>
                  rename_i wx
                  have hR4 := hcut
                  clear hR3 hcut
                  have c2 := hR4.row.cell (i := p2) (by omega)
                  obtain ⟨y, hy⟩ : ∃ y, d2[p2]! = y := ⟨_, rfl⟩
                  rw [hy] at c2
                  have HY := Lib.hid hy
                  clear hy
                  have kp : (p2 : Int) < (n : Int) := by omega
                  go_upto_region 17 with fail
                  go_cut [87] from 19 (fun s87 wx => ∃ r : Bool, s87 = .bool r ∧ (r = true → 0 < a' ∧ ltInt d2[a' - 1]! d2[p2]! = false) ∧ Srt w wx g N d2)
                  case first =>
                    rcases Nat.eq_zero_or_pos a' with ha0 | ha0
                    · have ha0z : decide ((a' : Int) > 0) = false := decide_eq_false (by omega)
                      go_quiet (fail)
                      go_wp2_with fail
                      go_meet
                      case rel => exact ⟨false, rfl, (fun h => by cases h), hR4.drewN _⟩
                    · obtain ⟨q, rfl⟩ : ∃ q : Nat, a' = q + 1 := ⟨a' - 1, by omega⟩
                      have ha0z : (q : Int) + 1 > 0 := by omega
                      have e1 : ((q : Int) + 1 - 1) = q := by omega
                      have wq : IntKind.i64.wrap (q : Int) = q := wrap_i64 (by omega) (by omega)
                      have c1 := hR4.row.cell (i := q) (by omega)
                      obtain ⟨x, hx⟩ : ∃ x, d2[q]! = x := ⟨_, rfl⟩
                      rw [hx] at c1
                      have HX := Lib.hid hx
                      clear hx
                      have kq : (q : Int) < (n : Int) := by omega
                      go_quiet (first | (go_at_call 99; exact quietOf (less_any _ _ _)))
                      go_wp2_with fail
                      go_meet
                      case rel => exact ⟨!ltInt x y, rfl, (fun h => ⟨ha0, by rw [show q + 1 - 1 = q by omega, HX.out, HY.out]; simpa using h⟩), hR4.drewN _⟩
                  case rest =>
                    obtain ⟨r, rfl, hr, hR5⟩ := hcut
                    clear hR4 c2
                    cases r
                    · obtain ⟨mid, ap, d4, hx⟩ : ∃ mid ap d4, Sort.partition ltInt d2 a' b' p2 = (mid, ap, d4) := ⟨(Sort.partition ltInt d2 a' b' p2).1, (Sort.partition ltInt d2 a' b' p2).2.1, (Sort.partition ltInt d2 a' b' p2).2.2, rfl⟩
                      obtain ⟨r1, r2, r3, r4, r5, r6, r7⟩ := Sort.round_part Sort.swo_ltInt (Sort.partition_holds _) hp2.1 hp2.2 (show b' ≤ d2.size by omega) hB2 hx
                      have hc22 := fun wz hz => partition_any wz g N cap d2 a' b' p2 hz hp2.1 hp2.2 (by omega) (by omega)
                      rw [hd2, hx] at hc22
                      have R6 := Lib.hid r6
                      have R7 := Lib.hid r7
                      have H22 := Lib.hid hc22
                      clear hx r6 r7 hc22
                      go_upto_if 113 with (go_at_call 101; refine (H22.out _ hR5.row).mono ?_; rintro e w7 ⟨rfl, hw7, hs7⟩)
                      have hR7 := hR5.trans hw7
                      clear hR5 hw7
                      by_cases h4 : mid - a' < b' - mid
                      · have h4z : (mid : Int) - (a' : Int) < (b' : Int) - (mid : Int) := by omega
                        have hih := IH.out w7 g N cap d4 a' mid lim1 (by omega) hR7.row (by omega) (by omega) (by omega) hlim1 r4
                        rw [hs7] at hih
                        go_wp2_with (go_at_call 90; refine hih.mono ?_; rintro e w8 ⟨rfl, d8, hw8, hp8, hs8⟩)
                        go_roundg (b' - (mid + 1))
                        case measure => omega
                        case rel => exact ⟨mid + 1, b', lim1, _, ap, d8, by go_num, rfl, rfl, rfl, rfl, by omega, by omega, Nat.le_refl _, by omega, hlim1, hp8.1.trans hs7, (R6.out _ hp8 hs8).1, hR7.trans hw8, Lib.hid (fun R hx1 hx2 => by have hz := (R6.out _ hp8 hs8).2 R hx1 hx2; exact hD2.out R hz.1 hz.2)⟩
                      · have h4z : ¬ ((mid : Int) - (a' : Int) < (b' : Int) - (mid : Int)) := by omega
                        have hih := IH.out w7 g N cap d4 (mid + 1) b' lim1 (by omega) hR7.row (by omega) (by omega) (by omega) hlim1 r5
                        rw [hs7] at hih
                        go_wp2_with (go_at_call 90; refine hih.mono ?_; rintro e w8 ⟨rfl, d8, hw8, hp8, hs8⟩)
                        go_roundg (mid - a')
                        case measure => omega
                        case rel => exact ⟨a', mid, lim1, _, ap, d8, rfl, rfl, rfl, rfl, rfl, by omega, by omega, Nat.le_refl _, by omega, hlim1, hp8.1.trans hs7, (R7.out _ hp8 hs8).1, hR7.trans hw8, Lib.hid (fun R hx1 hx2 => by have hz := (R7.out _ hp8 hs8).2 R hx1 hx2; exact hD2.out R hz.1 hz.2)⟩
                    · obtain ⟨ha0, hlt⟩ := hr rfl
                      obtain ⟨mid, d4, hx⟩ : ∃ mid d4, Sort.partitionEqual ltInt d2 a' b' p2 = (mid, d4) := ⟨(Sort.partitionEqual ltInt d2 a' b' p2).1, (Sort.partitionEqual ltInt d2 a' b' p2).2, rfl⟩
                      obtain ⟨r1, r2, r3, r4, r5⟩ := Sort.round_eq Sort.swo_ltInt (Sort.partitionEqual_holds _) ha0 hp2.1 hp2.2 (show b' ≤ d2.size by omega) hB2 hlt hx
                      have hc21 := fun wz hz => partEq_any wz g N cap d2 a' b' p2 hz hp2.1 hp2.2 (by omega) (by omega)
                      rw [hd2, hx] at hc21
                      have R5 := Lib.hid r5
                      have H21 := Lib.hid hc21
                      clear hx r5 hc21 hr
                      go_wp2_with (go_at_call 100; refine (H21.out _ hR5.row).mono ?_; rintro e w7 ⟨rfl, hw7, hs7⟩)
                      go_roundg (b' - mid)
                      case measure => omega
                      case rel => exact ⟨mid, b', lim1, wb, wp, d4, rfl, rfl, rfl, rfl, rfl, r2, hb', Nat.le_refl _, by omega, hlim1, hs7, r4, hR5.trans hw7, Lib.hid (fun R hx1 hx2 => by have hz := R5.out R hx1 hx2; exact hD2.out R hz.1 hz.2)⟩

end Go.Proofs.YtlpjbmlkpmhdlaaDoor
