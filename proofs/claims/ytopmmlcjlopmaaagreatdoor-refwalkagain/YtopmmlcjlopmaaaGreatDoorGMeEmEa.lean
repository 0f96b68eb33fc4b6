/- Several texts of ours in one: Me, Em, Ea. -/
import Derived.Test.YtopmmlcjlopmaaaGreatDoorGMcWmMd
import Derived.Test.YtopmmlcjlopmaaaGreatDoorGVmRN
import Derived.Test.YtopmmlcjlopmaaaGreatDoorGVaVrFr
import Derived.BigQuiet
import Derived.Deep.DrawnRows
import Derived.OwnWalk
import Derived.Laws.Rows
/- Contracts of package mem: of a memory that is nil; of one whose blocks lie from B on; awake. -/
namespace Go.Proofs.YtopmmlcjlopmaaaGreatDoor
set_option linter.unusedVariables false
set_option linter.unusedSimpArgs false
open Go.ChangeShapes Go.WideShapes Go.ChangeAt Go.RowKit Go.Joins

section
variable {w : World} {B m : Nat} {M : Int} {f : Int → Int} {tr : List Int} {n : Nat}

theorem Mem.base (h : Mem w (From B) m M f tr n) : B ≤ w.heap.size := by
  obtain ⟨mb, v, D, h, hF⟩ := h
  have h1 : B ≤ m := hF m (Or.inl rfl)
  have h2 := h.own_lt (i := m) (Or.inl rfl)
  omega
theorem Mem.since {w' : World} (h : Mem w (From B) m M f tr n) {f' : Int → Int} {tr' : List Int} {n' : Nat} (h' : Mem w' (Since (From B) w) m M f' tr' n') : Mem w' (From B) m M f' tr' n' :=
  h'.mono (fun i hi => by rcases hi with hi | hi; exact hi; exact Nat.le_trans h.base hi)
theorem Mem.belowOf {w' : World} (h : Mem w (From B) m M f tr n) (ht : Turn (From B) w w') : Below B w w' := ht.below (fun _ hi => hi) h.base

theorem bstore (h : Mem w (From B) m M f tr n) (hn : n < 1000000) (a x : Int) (ha : W64 a) (hx : W64 x) :
    Calls Tryz.prog 26 #[.pointer (some ⟨m, 0, none⟩), .int .u64 a, .int .u64 x] w fun e w' => e = .returned (.int .i64 (errS M a)) ∧ Mem w' (From B) m M (storeS M f a x) tr (n + 1) ∧ Below B w w' :=
  (mstore_any h hn a x ha hx).mono fun _ _ ⟨e, k, t⟩ => ⟨e, h.since k, h.belowOf t⟩
end

theorem w8 : W64 8 := ⟨by decide, by decide⟩
theorem w9 : W64 9 := ⟨by decide, by decide⟩
/-- a slice of the call's own has just so many -/
theorem own_len {w : World} {base : Nat} {v : Value} {xs : List Int} (h : w.ownsRow base 23 1 v xs.length (xs.map (Value.int .u64))) : ∃ A c, v = .slice A xs.length c := by
  rcases h.2 with ⟨rfl, hn⟩ | ⟨g, cap, cur, rfl, _⟩
  · exact ⟨none, 0, by rw [hn]⟩
  · exact ⟨_, _, rfl⟩

end Go.Proofs.YtopmmlcjlopmaaaGreatDoor
/- Plain mathematics of entries: a word's table, its bits, what may not be, slots and frames. Nothing of the program. -/
namespace Go.Proofs.YtopmmlcjlopmaaaGreatDoor
set_option linter.unusedVariables false
set_option linter.unusedSimpArgs false

def tableF (x : Int) : Int := x / 4096 % 1099511627776 * 4096
def hasF (x m : Int) : Bool := bits .and .u64 x m != 0
def leafF (x l : Int) : Bool := l == 1 || ((l == 2 || l == 3) && bitF x 7)
def lowB (b : Int) : Int := if b < 12 then 12 else b
def beyondF (b : Int) : Int := maskF (lowB b) (52 - lowB b)
def resF (x l b : Int) (nxe : Bool) : Bool :=
  hasF x (beyondF b) || (bitF x 63 && !nxe) || (l == 4 && bitF x 7) || (l == 2 && bitF x 7 && hasF x (maskF 13 8)) || (l == 3 && bitF x 7 && hasF x (maskF 13 17))
def slotF (t a l : Int) : Int := tableF t + 8 * indexF a l
def frameF (x l : Int) : Int := if leafF x l then pageF (tableF x) l else tableF x
theorem table_bd (x : Int) : 0 ≤ tableF x ∧ tableF x < 4503599627370496 := by unfold tableF; omega
theorem w64_table (x : Int) : W64 (tableF x) := by have := table_bd x; unfold W64; omega
theorem table_get {x : Int} (hx : W64 x) : IntKind.u64.wrap (getF x 12 40 * 4096) = tableF x := by
  have e := get_div (a := x) (lo := 12) (n := 40) hx (by decide)
  rw [e, IntKind.wrap_u64]
  show x / 4096 % 1099511627776 * 4096 % 18446744073709551616 = x / 4096 % 1099511627776 * 4096
  omega

theorem tb_table {x : Int} (hx : W64 x) (i : Nat) : tb (tableF x) i = (decide (12 ≤ i) && decide (i < 52) && tb x i) := by
  rw [← table_get hx, show (4096 : Int) = 2 ^ 12 by decide, tb_shl (w64_get _ _ _).1, tb_get hx, show isF 12 40 = true by decide]
  by_cases h : 12 ≤ i
  · rw [show i - 12 + (12 : Int).toNat = i by simp; omega]
    by_cases h2 : i < 52
    · simp [h, h2, show i < 64 by omega]; omega
    · simp [h, h2]; omega
  · simp [h]

theorem table_and {x : Int} (hx : W64 x) : bits .and .u64 x (maskF 12 40) = tableF x := by
  apply tb_ext (w64_bits _ _ _) (w64_table _)
  intro i hi
  rw [tb_and hx.1 (w64_mask _ _).1, tb_mask, tb_table hx, show isF 12 40 = true by decide]
  cases tb x i
  · simp
  · rw [Bool.eq_iff_iff]; simp [hi]; omega

theorem mask_lits : maskF 0 1 = 1 ∧ maskF 1 1 = 2 ∧ maskF 2 1 = 4 ∧ maskF 5 1 = 32 ∧ maskF 6 1 = 64 ∧ maskF 7 1 = 128 ∧ maskF 63 1 = 9223372036854775808 := by decide +kernel

theorem has_b0 (x : Int) : hasF x 1 = bitF x 0 := by unfold hasF bitF; rw [mask_lits.1]
theorem has_b1 (x : Int) : hasF x 2 = bitF x 1 := by unfold hasF bitF; rw [mask_lits.2.1]
theorem has_b2 (x : Int) : hasF x 4 = bitF x 2 := by unfold hasF bitF; rw [mask_lits.2.2.1]
theorem has_b7 (x : Int) : hasF x 128 = bitF x 7 := by unfold hasF bitF; rw [mask_lits.2.2.2.2.2.1]
theorem has_b63 (x : Int) : hasF x 9223372036854775808 = bitF x 63 := by unfold hasF bitF; rw [mask_lits.2.2.2.2.2.2]

theorem has_yes {x m : Int} (hx : W64 x) (hm : W64 m) {i : Nat} (h1 : tb x i = true) (h2 : tb m i = true) : hasF x m = true := by
  have hi : i < 64 := by
    rcases Nat.lt_or_ge i 64 with h | h
    · exact h
    · rw [tb_ge hx h] at h1; cases h1
  unfold hasF
  rw [bne_iff_ne]
  intro hz
  have e := tb_and hx.1 hm.1 i
  rw [hz, tb_zero, h1, h2] at e
  simp [hi] at e

theorem has_no {x m : Int} (hx : W64 x) (hm : W64 m) (h : ∀ i, i < 64 → tb m i = true → tb x i = false) : hasF x m = false := by
  have hz : bits .and .u64 x m = 0 := by
    apply tb_ext (w64_bits _ _ _) w64_zero
    intro i hi
    rw [tb_and hx.1 hm.1, tb_zero]
    cases hmi : tb m i
    · simp
    · simp [h i hi hmi]
  unfold hasF; rw [hz]; rfl

theorem has_get {x lo n : Int} (hx : W64 x) (hF : isF lo n = true) (h : hasF x (maskF lo n) = false) : x / 2 ^ lo.toNat % 2 ^ n.toNat = 0 := by
  rw [← get_div hx hF]
  unfold getF
  rw [if_pos hF]
  have : bits .and .u64 x (maskF lo n) = 0 := by
    unfold hasF at h
    simpa using h
  rw [this]; simp

/-- bits one by one -/
theorem has_some {x : Int} (hx : W64 x) {lo hi : Nat} (h : lo ≤ hi + 1) (h63 : hi ≤ 63) {k : Nat} (h1 : lo ≤ k) (h2 : k ≤ hi) (hb : tb x k = true) : hasF x (maskF lo (hi + 1 - lo)) = true := by
  refine has_yes hx (w64_mask _ _) hb ?_
  rw [tb_mask]
  simp [isF]
  omega

theorem has_none {x : Int} (hx : W64 x) {lo hi : Nat} (hb : ∀ j, lo ≤ j → j < hi + 1 → tb x j = false) : hasF x (maskF lo (hi + 1 - lo)) = false := by
  refine has_no hx (w64_mask _ _) ?_
  intro i hi64 hm
  rw [tb_mask] at hm
  simp at hm
  exact hb i (by omega) (by omega)

/- ### what may not be -/
theorem leaf_two (x : Int) : leafF x 2 = bitF x 7 := by unfold leafF; simp
theorem leaf_three (x : Int) : leafF x 3 = bitF x 7 := by unfold leafF; simp
theorem leaf_else (x : Int) {l : Int} (h1 : l ≠ 1) (h2 : l ≠ 2) (h3 : l ≠ 3) : leafF x l = false := by unfold leafF; simp [h1, h2, h3]

/- ### slots and frames -/
theorem index_bd0 (a l : Int) : 0 ≤ indexF a l ∧ indexF a l < 512 := by
  unfold indexF
  split
  · omega
  · split
    · omega
    · split
      · omega
      · split
        · omega
        · omega

theorem slot_wrap (t a l : Int) : IntKind.u64.wrap (tableF t + IntKind.u64.wrap (8 * IntKind.u64.wrap (indexF a l))) = slotF t a l := by
  have h1 := table_bd t
  have h2 := index_bd0 a l
  unfold slotF
  rw [IntKind.wrap_u64, IntKind.wrap_u64, IntKind.wrap_u64]
  omega

theorem slot_bd (t a l : Int) : 0 ≤ slotF t a l ∧ slotF t a l < 4503599627374592 := by
  have h1 := table_bd t
  have h2 := index_bd0 a l
  unfold slotF; omega

theorem frame_wrap (x l : Int) (h : sizeF l ≠ 0) : IntKind.u64.wrap (tableF x - tableF x % sizeF l) = pageF (tableF x) l := by
  have h1 := table_bd x
  have e : pageF (tableF x) l = tableF x - tableF x % sizeF l := by unfold pageF lowF; rw [if_neg h]
  have h3 : 0 ≤ tableF x - tableF x % sizeF l ∧ tableF x - tableF x % sizeF l ≤ tableF x := by
    have hs : 0 < sizeF l := by unfold sizeF at *; split <;> first | omega | (split <;> first | omega | (split <;> omega))
    have := emod_le h1.1 hs
    have h4 := Int.emod_nonneg (tableF x) h
    omega
  rw [e, IntKind.wrap_u64]
  omega

theorem leaf_size {x l : Int} (h : leafF x l = true) : sizeF l ≠ 0 := by
  by_cases h1 : l = 1
  · subst h1; decide
  · by_cases h2 : l = 2
    · subst h2; decide
    · by_cases h3 : l = 3
      · subst h3; decide
      · rw [leaf_else x h1 h2 h3] at h; cases h

theorem frame_leaf {x l : Int} (h : leafF x l = true) : frameF x l = pageF (tableF x) l := by unfold frameF; rw [if_pos h]
theorem frame_else {x l : Int} (h : leafF x l = false) : frameF x l = tableF x := by unfold frameF; rw [h]; rfl

end Go.Proofs.YtopmmlcjlopmaaaGreatDoor
/- Contracts of package entry: what each call returns; Parse and Word make memory of their own, the others leave the world as it was. -/
namespace Go.Proofs.YtopmmlcjlopmaaaGreatDoor
set_option linter.unusedVariables false
set_option linter.unusedSimpArgs false
open Go.ChangeShapes Go.WideShapes Go.ChangeAt Go.RowKit Go.Joins

theorem below_drewN {n : Nat} {w w' : World} (h : Below n w w') (k : Nat) : Below n w (w'.drewN k) := h.trans ⟨rfl, rfl, rfl, Nat.le_refl _, fun _ _ => rfl⟩

theorem last_obj (w : World) (o : Obj) : (w.alloc o).heap[w.heap.size]? = some o := by
  show (w.heap.push o)[w.heap.size]? = some o
  simp

theorem has_any (x m : Int) (w : World) :
    Calls Tryz.prog 100 #[.int .u64 x, .int .u64 m] w fun e w' => e = .returned (.bool (hasF x m)) ∧ w = w' := by
  go_enter Tryz.func100, Tryz.ntmps100
  go_wp2
  go_ret
  exact ⟨rfl, rfl⟩

theorem i64_40 : I64 40 := ⟨by decide, by decide⟩
theorem i64_8 : I64 8 := ⟨by decide, by decide⟩
theorem i64_17 : I64 17 := ⟨by decide, by decide⟩

theorem table_any (x : Int) (w : World) (hx : W64 x) :
    Calls Tryz.prog 63 #[.int .u64 x] w fun e w' => e = .returned (.int .u64 (tableF x)) ∧ w = w' := by
  have e := Lib.hid (table_and hx)
  go_enter Tryz.func63, Tryz.ntmps63
  go_wp2_with (go_at_call 98; refine (mask_any _ _ _ i64_40).mono ?_; rintro e w' ⟨rfl, rfl⟩)
  go_ret
  exact ⟨ret_int e.out, rfl⟩

theorem beyond_any (b : Int) (w : World) (hb : I64 b) :
    Calls Tryz.prog 101 #[.int .i64 b] w fun e w' => e = .returned (.int .u64 (beyondF b)) ∧ w = w' := by
  obtain ⟨h1, h2⟩ := hb
  by_cases c : b < 12
  · have e : beyondF b = maskF 12 40 := by unfold beyondF lowB; rw [if_pos c]; rfl
    rw [e]
    go_enter Tryz.func101, Tryz.ntmps101
    go_wp2_with (go_at_call 98; refine (mask_any _ _ _ i64_40).mono ?_; rintro e w' ⟨rfl, rfl⟩)
    go_ret
    exact ⟨rfl, rfl⟩
  · have e : beyondF b = maskF b (52 - b) := by unfold beyondF lowB; rw [if_neg c]
    rw [e]
    have hn : I64 (52 - b) := by unfold I64; omega
    go_enter Tryz.func101, Tryz.ntmps101
    go_wp2_with (go_at_call 98; refine (mask_any _ _ _ hn).mono ?_; rintro e w' ⟨rfl, rfl⟩)
    go_ret
    exact ⟨rfl, rfl⟩

theorem leaf_any (x l : Int) (w : World) :
    Calls Tryz.prog 59 #[.int .u64 x, .int .i64 l] w fun e w' => e = .returned (.bool (leafF x l)) ∧ w = w' := by
  have b7 := Lib.hid (has_b7 x)
  by_cases h1 : l = 1
  · subst h1
    go_enter Tryz.func59, Tryz.ntmps59
    go_wp2
    go_ret
    exact ⟨rfl, rfl⟩
  · by_cases h2 : l = 2
    · subst h2
      rw [leaf_two]
      go_enter Tryz.func59, Tryz.ntmps59
      go_wp2_with (go_at_call 100; refine (has_any _ _ _).mono ?_; rintro e w' ⟨rfl, rfl⟩)
      go_ret
      exact ⟨ret_bool b7.out, rfl⟩
    · by_cases h3 : l = 3
      · subst h3
        rw [leaf_three]
        go_enter Tryz.func59, Tryz.ntmps59
        go_wp2_with (go_at_call 100; refine (has_any _ _ _).mono ?_; rintro e w' ⟨rfl, rfl⟩)
        go_ret
        exact ⟨ret_bool b7.out, rfl⟩
      · rw [leaf_else x h1 h2 h3]
        have c1 : (l == 1) = false := by simp [h1]
        have c2 : (l == 2) = false := by simp [h2]
        have c3 : (l == 3) = false := by simp [h3]
        go_enter Tryz.func59, Tryz.ntmps59
        go_wp2
        go_ret
        exact ⟨rfl, rfl⟩

theorem slot_any (t a l : Int) (w : World) (hs : Shifts w) (ht : W64 t) (ha : W64 a) :
    Calls Tryz.prog 55 #[.int .u64 t, .int .u64 a, .int .i64 l] w fun e w' => e = .returned (.int .u64 (slotF t a l)) ∧ w = w' := by
  have e := Lib.hid (slot_wrap t a l)
  go_enter Tryz.func55, Tryz.ntmps55
  go_wp2_with (first | (go_at_call 63; refine (table_any _ _ ht).mono ?_; rintro e w' ⟨rfl, rfl⟩) | (go_at_call 99; refine (index_any _ _ _ hs ha).mono ?_; rintro e w' ⟨rfl, rfl⟩))
  go_ret
  exact ⟨ret_int e.out, rfl⟩

theorem frame_any (x l : Int) (w : World) (hs : Shifts w) (hx : W64 x) :
    Calls Tryz.prog 61 #[.int .u64 x, .int .i64 l] w fun e w' => e = .returned (.int .u64 (frameF x l)) ∧ w = w' := by
  have hT := w64_table x
  cases h : leafF x l
  · rw [frame_else h]
    go_enter Tryz.func61, Tryz.ntmps61
    go_wp2_with (first | (go_at_call 63; refine (table_any _ _ hx).mono ?_; rintro e w' ⟨rfl, rfl⟩) | (go_at_call 59; refine (leaf_any _ _ _).mono ?_; rintro e w' ⟨rfl, rfl⟩) | (go_at_call 102; refine (page_any _ _ _ hs hT).mono ?_; rintro e w' ⟨rfl, rfl⟩))
    go_ret
    exact ⟨rfl, rfl⟩
  · rw [frame_leaf h]
    go_enter Tryz.func61, Tryz.ntmps61
    go_wp2_with (first | (go_at_call 63; refine (table_any _ _ hx).mono ?_; rintro e w' ⟨rfl, rfl⟩) | (go_at_call 59; refine (leaf_any _ _ _).mono ?_; rintro e w' ⟨rfl, rfl⟩) | (go_at_call 102; refine (page_any _ _ _ hs hT).mono ?_; rintro e w' ⟨rfl, rfl⟩))
    go_ret
    exact ⟨rfl, rfl⟩

theorem ret_val {v u : Value} (h : v = u) : Ending.returned v = .returned u := by rw [h]

end Go.Proofs.YtopmmlcjlopmaaaGreatDoor
