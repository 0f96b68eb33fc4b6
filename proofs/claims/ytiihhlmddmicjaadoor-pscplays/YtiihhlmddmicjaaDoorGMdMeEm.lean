/- Several texts of ours in one: Md, Me, Em. -/
import Derived.Test.YtiihhlmddmicjaaDoorGCbMcWm
import Derived.Lib.SmallJoins
import Derived.Test.YtiihhlmddmicjaaDoorGVmRN
/- Contracts of package mem: its calls. -/
namespace Go.Proofs.YtiihhlmddmicjaaDoor
set_option linter.unusedVariables false
set_option linter.unusedSimpArgs false
open Go.ChangeShapes Go.WideShapes Go.ChangeAt Go.RowKit Go.Joins
open Go.Maps (Keyed IsMap)

def peekV (M : Int) (f : Int → Int) (a : Int) : Int := if errS M a = 0 then f (a / 8) else 0
def storeS (M : Int) (f : Int → Int) (a x : Int) : Int → Int := if errS M a = 0 then updF f (a / 8) x else f
def loadT (M : Int) (tr : List Int) (a : Int) : List Int := if errS M a = 0 then tr ++ [a] else tr

theorem errS_in {M a : Int} (h : errS M a = 0) : a < sizeM M ∧ a % 8 = 0 := by
  unfold errS at h
  by_cases h1 : sizeM M ≤ a
  · rw [if_pos h1] at h; omega
  · rw [if_neg h1] at h
    by_cases h2 : a % 8 = 0
    · exact ⟨by omega, h2⟩
    · rw [if_neg h2] at h; omega

theorem Mem.mono {w : World} {F G : Nat → Prop} {m : Nat} {M : Int} {f : Int → Int} {tr : List Int} {n : Nat} (h : Mem w F m M f tr n) (hG : ∀ i, F i → G i) : Mem w G m M f tr n := by
  obtain ⟨mb, v, D, h, hF⟩ := h
  exact ⟨mb, v, D, h, fun i hi => hG i (hF i hi)⟩
theorem Mem.more {w : World} {F : Nat → Prop} {m : Nat} {M : Int} {f : Int → Int} {tr : List Int} {n n' : Nat} (h : Mem w F m M f tr n) (hn : n ≤ n') : Mem w F m M f tr n' := by
  obtain ⟨mb, v, D, h, hF⟩ := h
  exact ⟨mb, v, D, h.more hn, hF⟩
theorem Mem.bits {w : World} {F : Nat → Prop} {m : Nat} {M : Int} {f : Int → Int} {tr : List Int} {n : Nat} (h : Mem w F m M f tr n) : 14 ≤ M ∧ M ≤ 22 := by
  obtain ⟨mb, v, D, h, hF⟩ := h
  exact h.bits
theorem Mem.words {w : World} {F : Nat → Prop} {m : Nat} {M : Int} {f : Int → Int} {tr : List Int} {n : Nat} (h : Mem w F m M f tr n) (s : Int) : W64 (f s) := by
  obtain ⟨mb, v, D, h, hF⟩ := h
  exact h.words s
theorem Mem.turned {w w' : World} {F G : Nat → Prop} {m : Nat} {M : Int} {f : Int → Int} {tr : List Int} {n : Nat} (h : Mem w F m M f tr n) (ht : Turn G w w') (ha : ∀ i, i < w.heap.size → F i → ¬ G i) : Mem w' F m M f tr n := by
  obtain ⟨mb, v, D, h, hF⟩ := h
  exact ⟨mb, v, D, h.same (fun i hi => ht.block i (h.own_lt hi) (ha i (h.own_lt hi) (hF i hi))), hF⟩
theorem Mem.kept {w w' : World} {F : Nat → Prop} {m : Nat} {M : Int} {f : Int → Int} {tr : List Int} {n : Nat} (h : Mem w F m M f tr n) (ht : Below w.heap.size w w') : Mem w' F m M f tr n :=
  h.turned (Turn.of_kept (fun _ => False) ht) (fun _ _ _ h => h)

section
variable {w : World} {F : Nat → Prop} {m : Nat} {M : Int} {f : Int → Int} {tr : List Int} {n : Nat}

theorem mpeek_any (h : Mem w F m M f tr n) (a : Int) (ha : W64 a) :
    Calls Tryd.prog 80 #[.pointer (some ⟨m, 0, none⟩), .int .u64 a] w fun e w' => e = .returned (.tuple #[.int .u64 (peekV M f a), .int .i64 (errS M a)]) ∧ w = w' := by
  obtain ⟨mb, v, D, h, hF⟩ := h
  by_cases h1 : errS M a = 0
  · rw [show peekV M f a = f (a / 8) from if_pos h1, h1]
    go_enter Tryd.func80, Tryd.ntmps80
    go_wp2_with (first | (go_at_call 77; refine (slotError_any h _ ha.1).mono ?_; rintro e w' ⟨rfl, rfl⟩) | (go_at_call 94; refine (mread_any h _ ha).mono ?_; rintro e w' ⟨rfl, rfl⟩))
    go_ret2
    exact ⟨rfl, rfl⟩
  · rw [show peekV M f a = 0 from if_neg h1]
    go_enter Tryd.func80, Tryd.ntmps80
    go_wp2_with (first | (go_at_call 77; refine (slotError_any h _ ha.1).mono ?_; rintro e w' ⟨rfl, rfl⟩) | (go_at_call 94; refine (mread_any h _ ha).mono ?_; rintro e w' ⟨rfl, rfl⟩))
    go_ret2
    exact ⟨rfl, rfl⟩

theorem mstore_any (h : Mem w F m M f tr n) (hn : n < 1000000) (a x : Int) (ha : W64 a) (hx : W64 x) :
    Calls Tryd.prog 46 #[.pointer (some ⟨m, 0, none⟩), .int .u64 a, .int .u64 x] w fun e w' => e = .returned (.int .i64 (errS M a)) ∧ Mem w' (Since F w) m M (storeS M f a x) tr (n + 1) ∧ Turn F w w' := by
  have HM := h
  obtain ⟨mb, v, D, h, hF⟩ := h
  by_cases h1 : errS M a = 0
  · rw [show storeS M f a x = updF f (a / 8) x from if_pos h1, h1]
    have h2 := (errS_in h1).1
    go_enter Tryd.func46, Tryd.ntmps46
    go_wp2_with (first | (go_at_call 77; refine (slotError_any h _ ha.1).mono ?_; rintro e w' ⟨rfl, rfl⟩) | (go_at_call 78; refine (mwrite_any HM hn _ _ ha h2 hx).mono ?_; rintro e w' ⟨rfl, hM', hT'⟩))
    go_ret
    exact ⟨rfl, by assumption, by assumption⟩
  · rw [show storeS M f a x = f from if_neg h1]
    go_enter Tryd.func46, Tryd.ntmps46
    go_wp2_with (first | (go_at_call 77; refine (slotError_any h _ ha.1).mono ?_; rintro e w' ⟨rfl, rfl⟩) | (go_at_call 78; fail))
    go_ret
    exact ⟨rfl, (HM.mono (fun i hi => Or.inl hi)).more (Nat.le_succ _), Turn.refl _ _⟩

theorem mbits_any (h : Mem w F m M f tr n) :
    Calls Tryd.prog 51 #[.pointer (some ⟨m, 0, none⟩)] w fun e w' => e = .returned (.int .i64 M) ∧ w = w' := by
  obtain ⟨mb, v, D, h, hF⟩ := h
  obtain ⟨c0, c1, c2, _⟩ := h.cells
  go_enter Tryd.func51, Tryd.ntmps51
  go_wp2
  go_ret
  exact ⟨rfl, rfl⟩

theorem info64 : (Tryd.prog.info? 34).map (fun i => (i.zero, i.size, i.bytes)) = some (some (.int .u64 0), 1, 8) := by kernel_rfl

/-- the trace grows by one -/
theorem Mm.noted {w w1 : World} {m : Nat} {M : Int} {f : Int → Int} {tr : List Int} {n mb : Nat} {v v' : Value} {D : Dw} (h : Mm w m M f tr n mb v D) {a : Int} {t : TypeId} (hn : v'.ownBlock = v.ownBlock ∨ v'.ownBlock = some (w.heap.size + 1))
    (hg : (w.alloc (.cells #[.int .u64 a] t)).grownBy w1 v.ownBlock) (ho : w1.ownsRow 0 34 1 v' (tr.length + 1) (tr.map (Value.int .u64) ++ [.int .u64 a])) :
    Mm (w1.setCell ⟨m, 2, none⟩ v') m M f (tr ++ [a]) (n + 1) mb v' D ∧ (∀ i, Own m mb v' D i → Own m mb v D i ∨ w.heap.size ≤ i) ∧ w1.cell? ⟨m, 2, none⟩ = some v ∧ w1.frozen? ⟨m, 2, none⟩ = false := by
  have hlt := h.own_lt (i := m) (Or.inl rfl)
  obtain ⟨a1, a2, a3⟩ := h.apart
  have hs := hg.size
  have e1 : (w.alloc (.cells #[.int .u64 a] t)).heap.size = w.heap.size + 1 := by simp
  rw [e1] at hs
  have keep : ∀ i, i < w.heap.size → v.ownBlock ≠ some i → w1.heap[i]? = w.heap[i]? := fun i hi hne =>
    (hg.block i (by omega) (fun e => hne e.symm)).trans (Below.heap_alloc _ _ _ hi)
  have hm1 := (keep m hlt a2).trans h.here
  refine ⟨?_, ?_, ?_, ?_⟩
  · refine (h.more (Nat.le_succ n)).retrace (by have := h.few; simp; omega) (by simp [World.setCell]; omega) (fun i hi hne hv => (Below.heap_setCell _ _ _ _ hne).trans (keep i hi hv)) ?_ ?_
    · simp [World.setCell, Array.getElem?_modify, hm1]
    · have hne : v'.ownBlock ≠ some m := by
        rcases hn with e | e
        · rw [e]; exact a2
        · rw [e]; intro e2; simp at e2; omega
      have := ownsRow_setCell_other (a := ⟨m, 2, none⟩) ho hne v'
      simpa using this
  · rintro i (rfl | rfl | hv | hk)
    · exact Or.inl (Or.inl rfl)
    · exact Or.inl (Or.inr (Or.inl rfl))
    · rcases hn with e | e
      · exact Or.inl (Or.inr (Or.inr (Or.inl (e ▸ hv))))
      · rw [e] at hv; simp at hv; right; omega
    · exact Or.inl (Or.inr (Or.inr (Or.inr hk)))
  · simp [World.cell?, hm1]
  · simp [World.frozen?, hm1]

set_option maxRecDepth 100000 in
theorem mload_any (h : Mem w F m M f tr n) (hn : n < 1000000) (a : Int) (ha : W64 a) :
    Calls Tryd.prog 49 #[.pointer (some ⟨m, 0, none⟩), .int .u64 a] w fun e w' => e = .returned (.tuple #[.int .u64 (peekV M f a), .int .i64 (errS M a)]) ∧ Mem w' (Since F w) m M f (loadT M tr a) (n + 1) ∧ Turn F w w' := by
  by_cases h1 : errS M a = 0
  · rw [show loadT M tr a = tr ++ [a] from if_pos h1]
    have HM := Lib.hid h
    obtain ⟨i0, hi, hz0, hz1, hz2⟩ := info_parts info64
    have hpk := fun w' => mpeek_any (w := w') (F := F) (m := m) (M := M) (f := f) (tr := tr) (n := n)
    rw [h1]
    obtain ⟨mb, v, D, h, hF⟩ := h
    obtain ⟨c0, c1, c2, _⟩ := h.cells
    have HH := Lib.hid h
    have hfew := h.few
    have c2' : ∀ o, (w.alloc o).cell? ⟨m, 2, none⟩ = some v := fun o => by
      rw [← c2]; exact World.cell?_of_block (Below.heap_alloc _ _ _ (h.own_lt (i := m) (Or.inl rfl)))
    clear h c0 c1 
    go_enter Tryd.func49, Tryd.ntmps49
    go_wp2_with (first | (go_at_call 80; refine (hpk _ HM.out _ ha).mono ?_; rw [h1]; rintro e w' ⟨rfl, rfl⟩) | (at_builtin; refine wpList_append_own_at _ rfl _ _ 145 rfl 0 34 i0 (.int .u64 0) 1 8 Tryd.underlying145 hi hz0 hz1 hz2 rfl (by decide) v tr.length (tr.map (Value.int .u64)) rfl (World.ownsRow.alloc HH.out.trace _) ⟨w.heap.size, 0, none⟩ 1 1 [.int .u64 a] rfl rfl (cell_one_new _ _ _) (ints_oneCell .u64 [a]) (by unfold maxLen; omega) (by omega) (by simp) ?_; intro v' w1 hown' hgrow hnil hloc; have HN := Lib.hid (HH.out.noted (by simpa using hloc) hgrow hown'); obtain ⟨hc1, hf1⟩ := HN.out.2.2; obtain ⟨g, cap, rfl⟩ := ownsRow_form hown' (by omega); have HG := Lib.hid hgrow; clear hgrow hown' hnil hloc))
    go_ret2
    exact ⟨rfl, ⟨mb, _, D, HN.out.1, fun i hi => (HN.out.2.1 i hi).imp (hF i) id⟩, ((Turn.alloc F w _).trans (Turn.grown HG.out (fun i hi => Or.inl (hF i (Or.inr (Or.inr (Or.inl hi))))))).trans (Turn.setCell _ _ _ _ (Or.inl (hF m (Or.inl rfl))))⟩
  · rw [show loadT M tr a = tr from if_neg h1]
    go_enter Tryd.func49, Tryd.ntmps49
    go_wp2_with (go_at_call 80; refine (mpeek_any h _ ha).mono ?_; rintro e w' ⟨rfl, rfl⟩)
    go_ret2
    exact ⟨rfl, (h.mono (fun i hi => Or.inl hi)).more (Nat.le_succ _), Turn.refl _ _⟩

end

end Go.Proofs.YtiihhlmddmicjaaDoor
/- Contracts of package mem: of a memory that is nil; of one whose blocks lie from B on; awake. -/
namespace Go.Proofs.YtiihhlmddmicjaaDoor
set_option linter.unusedVariables false
set_option linter.unusedSimpArgs false
open Go.ChangeShapes Go.WideShapes Go.ChangeAt Go.RowKit Go.Joins

section
variable {w : World} {B m : Nat} {M : Int} {f : Int → Int} {tr : List Int} {n : Nat}

theorem Mem.base (h : Mem w (From B) m M f tr n) : B ≤ w.heap.size := by
  obtain ⟨mb, v, D, h, hF⟩ := h
  have h1 : B ≤ m := hF m (Or.inl rfl)
  have h2 := h.own_lt (i := m) (Or.inl rfl)
  omega
theorem Mem.since {w' : World} (h : Mem w (From B) m M f tr n) {f' : Int → Int} {tr' : List Int} {n' : Nat} (h' : Mem w' (Since (From B) w) m M f' tr' n') : Mem w' (From B) m M f' tr' n' :=
  h'.mono (fun i hi => by rcases hi with hi | hi; exact hi; exact Nat.le_trans h.base hi)
theorem Mem.belowOf {w' : World} (h : Mem w (From B) m M f tr n) (ht : Turn (From B) w w') : Below B w w' := ht.below (fun _ hi => hi) h.base

theorem bstore (h : Mem w (From B) m M f tr n) (hn : n < 1000000) (a x : Int) (ha : W64 a) (hx : W64 x) :
    Calls Tryd.prog 46 #[.pointer (some ⟨m, 0, none⟩), .int .u64 a, .int .u64 x] w fun e w' => e = .returned (.int .i64 (errS M a)) ∧ Mem w' (From B) m M (storeS M f a x) tr (n + 1) ∧ Below B w w' :=
  (mstore_any h hn a x ha hx).mono fun _ _ ⟨e, k, t⟩ => ⟨e, h.since k, h.belowOf t⟩
end

theorem w8 : W64 8 := ⟨by decide, by decide⟩
theorem w9 : W64 9 := ⟨by decide, by decide⟩
end Go.Proofs.YtiihhlmddmicjaaDoor
/- Plain mathematics of entries: a word's table, its bits, what may not be, slots and frames. Nothing of the program. -/
namespace Go.Proofs.YtiihhlmddmicjaaDoor
set_option linter.unusedVariables false
set_option linter.unusedSimpArgs false

def tableF (x : Int) : Int := x / 4096 % 1099511627776 * 4096
def hasF (x m : Int) : Bool := bits .and .u64 x m != 0
def leafF (x l : Int) : Bool := l == 1 || ((l == 2 || l == 3) && bitF x 7)
def lowB (b : Int) : Int := if b < 12 then 12 else b
def beyondF (b : Int) : Int := maskF (lowB b) (52 - lowB b)
def resF (x l b : Int) (nxe : Bool) : Bool :=
  hasF x (beyondF b) || (bitF x 63 && !nxe) || (l == 4 && bitF x 7) || (l == 2 && bitF x 7 && hasF x (maskF 13 8)) || (l == 3 && bitF x 7 && hasF x (maskF 13 17))
def slotF (t a l : Int) : Int := tableF t + 8 * indexF a l
def frameF (x l : Int) : Int := if leafF x l then pageF (tableF x) l else tableF x
theorem table_bd (x : Int) : 0 ≤ tableF x ∧ tableF x < 4503599627370496 := by unfold tableF; omega
theorem w64_table (x : Int) : W64 (tableF x) := by have := table_bd x; unfold W64; omega
theorem table_table (x : Int) : tableF (tableF x) = tableF x := by unfold tableF; omega
theorem table_get {x : Int} (hx : W64 x) : IntKind.u64.wrap (getF x 12 40 * 4096) = tableF x := by
  have e := get_div (a := x) (lo := 12) (n := 40) hx (by decide)
  rw [e, IntKind.wrap_u64]
  show x / 4096 % 1099511627776 * 4096 % 18446744073709551616 = x / 4096 % 1099511627776 * 4096
  omega

theorem tb_table {x : Int} (hx : W64 x) (i : Nat) : tb (tableF x) i = (decide (12 ≤ i) && decide (i < 52) && tb x i) := by
  rw [← table_get hx, show (4096 : Int) = 2 ^ 12 by decide, tb_shl (w64_get _ _ _).1, tb_get hx, show isF 12 40 = true by decide]
  by_cases h : 12 ≤ i
  · rw [show i - 12 + (12 : Int).toNat = i by simp; omega]
    by_cases h2 : i < 52
    · simp [h, h2, show i < 64 by omega]; omega
    · simp [h, h2]; omega
  · simp [h]

theorem table_and {x : Int} (hx : W64 x) : bits .and .u64 x (maskF 12 40) = tableF x := by
  apply tb_ext (w64_bits _ _ _) (w64_table _)
  intro i hi
  rw [tb_and hx.1 (w64_mask _ _).1, tb_mask, tb_table hx, show isF 12 40 = true by decide]
  cases tb x i
  · simp
  · rw [Bool.eq_iff_iff]; simp [hi]; omega

theorem mask_lits : maskF 0 1 = 1 ∧ maskF 1 1 = 2 ∧ maskF 2 1 = 4 ∧ maskF 5 1 = 32 ∧ maskF 6 1 = 64 ∧ maskF 7 1 = 128 ∧ maskF 63 1 = 9223372036854775808 := by decide +kernel

theorem has_b0 (x : Int) : hasF x 1 = bitF x 0 := by unfold hasF bitF; rw [mask_lits.1]
theorem has_b1 (x : Int) : hasF x 2 = bitF x 1 := by unfold hasF bitF; rw [mask_lits.2.1]
theorem has_b2 (x : Int) : hasF x 4 = bitF x 2 := by unfold hasF bitF; rw [mask_lits.2.2.1]
theorem has_b7 (x : Int) : hasF x 128 = bitF x 7 := by unfold hasF bitF; rw [mask_lits.2.2.2.2.2.1]
theorem has_b63 (x : Int) : hasF x 9223372036854775808 = bitF x 63 := by unfold hasF bitF; rw [mask_lits.2.2.2.2.2.2]

/- ### what may not be -/
theorem leaf_two (x : Int) : leafF x 2 = bitF x 7 := by unfold leafF; simp
theorem leaf_three (x : Int) : leafF x 3 = bitF x 7 := by unfold leafF; simp
theorem leaf_else (x : Int) {l : Int} (h1 : l ≠ 1) (h2 : l ≠ 2) (h3 : l ≠ 3) : leafF x l = false := by unfold leafF; simp [h1, h2, h3]

/- ### slots and frames -/
theorem index_bd0 (a l : Int) : 0 ≤ indexF a l ∧ indexF a l < 512 := by
  unfold indexF
  split
  · omega
  · split
    · omega
    · split
      · omega
      · split
        · omega
        · omega

theorem slot_wrap (t a l : Int) : IntKind.u64.wrap (tableF t + IntKind.u64.wrap (8 * IntKind.u64.wrap (indexF a l))) = slotF t a l := by
  have h1 := table_bd t
  have h2 := index_bd0 a l
  unfold slotF
  rw [IntKind.wrap_u64, IntKind.wrap_u64, IntKind.wrap_u64]
  omega

theorem frame_leaf {x l : Int} (h : leafF x l = true) : frameF x l = pageF (tableF x) l := by unfold frameF; rw [if_pos h]
theorem frame_else {x l : Int} (h : leafF x l = false) : frameF x l = tableF x := by unfold frameF; rw [h]; rfl

end Go.Proofs.YtiihhlmddmicjaaDoor
