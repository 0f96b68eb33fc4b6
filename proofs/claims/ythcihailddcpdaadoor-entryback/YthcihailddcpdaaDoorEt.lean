/- dormerref05.Parse: what the document's own answer says of a word. -/
import Derived.Test.YthcihailddcpdaaDoorEr
import Derived.LoopTactic
import Derived.Lib.SmallJoins
import Derived.StillTailTactics
namespace Go.Proofs.YthcihailddcpdaaDoor
set_option linter.unusedVariables false
set_option linter.unusedSimpArgs false
open Go.ChangeShapes Go.WideShapes Go.ChangeAt Go.RowKit Go.Joins

/-- of the bits of x the first k, then none -/
def partT (x : Int) (k : Nat) : Array Value := ((List.range 64).map fun j : Nat => Value.bool (decide (j < k) && bitF x (j : Int))).toArray

theorem partT_get (x : Int) (k : Nat) {j : Nat} (hj : j < 64) : (partT x k)[j]? = some (.bool (decide (j < k) && bitF x (j : Int))) := by
  simp [partT, List.getElem?_map, List.getElem?_range hj]

theorem partT_set (x : Int) {k : Nat} : (partT x k).setIfInBounds k (.bool (bitF x (k : Int))) = partT x (k + 1) := by
  apply Array.ext
  · simp [partT]
  · intro j h1 h2
    have hj : j < 64 := by simpa [partT] using h2
    rw [Array.getElem_setIfInBounds (by simpa [partT] using hj)]
    by_cases e : k = j
    · subst e; simp [partT]
    · rw [if_neg e]
      by_cases c : j < k
      · simp [partT, c, show j < k + 1 by omega]
      · simp [partT, c, show ¬ j < k + 1 by omega]

def offT : Array Value := ((List.range 64).map fun _ : Nat => Value.bool false).toArray
theorem partT_zero (x : Int) : partT x 0 = offT := by simp [partT, offT]

theorem make64 : ∀ w, (Instr.makeSlice 48 (.int .i64 64) (.int .i64 64)).run Tryd.prog w = .ok (.slice (some ⟨w.heap.size, 0, none⟩) 64 64) (w.alloc (.cells offT 4)) := fun _ => by kernel_rfl

/-- block g holds the cells cs, of bools, none frozen -/
def RowT (w : World) (g : Nat) (cs : Array Value) : Prop := w.heap[g]? = some (.cells cs 4 (0, 0))
/-- block g holds an entry -/
def RowE (w : World) (g : Nat) (cs : Array Value) : Prop := w.heap[g]? = some (.cells cs 26 (0, 0))

abbrev noE : Array Value := #[.bool false, .bool false, .bool false, .bool false, .bool false, .bool false, .bool false, .int .u64 0]

theorem rowE_other {w : World} {g h : Nat} {cs : Array Value} (hr : RowE w g cs) (hgh : g ≠ h) (i : Nat) (v : Value) : RowE (w.setCell ⟨h, i, none⟩ v) g cs := by
  unfold RowE at *
  rw [heap_setCell_other _ _ _ _ hgh]; exact hr

theorem stillOf {P : Program} {f : FuncId} {args : Array Value} {w : World} {v : Value} (h : Calls P f args w fun e w' => e = .returned v ∧ w = w') : Calls P f args w fun e w' => e = .returned v ∧ w' = w :=
  h.mono fun _ _ ⟨he, hw⟩ => ⟨he, hw.symm⟩

theorem size_alloc (v : World) (o : Obj) : (v.alloc o).heap.size = v.heap.size + 1 := by simp

theorem alloc_old (w : World) (o : Obj) {i : Nat} (h : i < w.heap.size) : (w.alloc o).heap[i]? = w.heap[i]? := by
  show (w.heap.push o)[i]? = w.heap[i]?
  rw [Array.getElem?_push_lt h, Array.getElem?_eq_getElem h]

set_option maxRecDepth 100000 in
set_option maxHeartbeats 1600000 in
theorem rparse_any (x : Int) (w : World) (hx : W64 x) :
    Calls Tryd.prog 11 #[.int .u64 x] w fun e w' => e = .returned (saysV x) ∧ Below w.heap.size w w' := by
  have hmk := make64
  have hz := Lib.hid (partT_zero x)
  go_enter Tryd.func11, Tryd.ntmps11
  go_wp2
  go_loopw [4] (fun i wr => ∃ k : Nat, k ≤ 64 ∧ i = .int .i64 k ∧ RowT wr (w.heap.size + 1) (partT x k) ∧ RowE wr w.heap.size noE ∧ Below w.heap.size w wr) (fun i _ => (64 - intOf i).toNat)
  case atStart =>
    refine ⟨0, by omega, rfl, ?_, ?_, ?_⟩
    · rw [hz.out]
      have h := last_obj (w.alloc (.cells noE 26)) (.cells offT 4)
      rw [size_alloc] at h
      exact h
    · unfold RowE
      rw [show ((w.alloc (.cells noE 26)).alloc (.cells offT 4)).heap[w.heap.size]? = (w.alloc (.cells noE 26)).heap[w.heap.size]? from alloc_old _ _ (by simp)]
      exact last_obj _ _
    · exact (below_alloc1 _ _).alloc (by simp) _
  case round =>
    obtain ⟨k, hk, rfl, hr, hE, hb⟩ := hrel
    by_cases hlt : k < 64
    · have hc := (cell_of_block hr k).trans (partT_get x k hlt)
      have hf := unfrozen_of_block hr k
      have hs := block_setCell hr (i := k) (.bool (bitF x (k : Int)))
      rw [partT_set] at hs
      have HS := Lib.hid hs
      clear hs
      have HR := Lib.hid hr
      clear hr
      have HE := Lib.hid hE
      clear hE
      go_wp2_with (first | (go_at_call 27; refine (rbit_any _ _ _ hx).mono ?_; rintro e w' ⟨rfl, rfl⟩))
      go_roundw
      case rel => exact ⟨k + 1, by omega, by go_num, HS.out, rowE_other HE.out (by omega) _ _, hb.setCell (by simp) _⟩
      case measure => simp [intOf]; omega
    · have e : k = 64 := by omega
      subst e
      have c0 := (cell_of_block hr 0).trans (partT_get x 64 (by decide))
      have c1 := (cell_of_block hr 1).trans (partT_get x 64 (by decide))
      have c2 := (cell_of_block hr 2).trans (partT_get x 64 (by decide))
      have c5 := (cell_of_block hr 5).trans (partT_get x 64 (by decide))
      have c6 := (cell_of_block hr 6).trans (partT_get x 64 (by decide))
      have c7 := (cell_of_block hr 7).trans (partT_get x 64 (by decide))
      have c63 := (cell_of_block hr 63).trans (partT_get x 64 (by decide))
      simp only [show (decide (0 < 64) && bitF x ((0 : Nat) : Int)) = bitF x 0 from rfl, show (decide (1 < 64) && bitF x ((1 : Nat) : Int)) = bitF x 1 from rfl, show (decide (2 < 64) && bitF x ((2 : Nat) : Int)) = bitF x 2 from rfl, show (decide (5 < 64) && bitF x ((5 : Nat) : Int)) = bitF x 5 from rfl, show (decide (6 < 64) && bitF x ((6 : Nat) : Int)) = bitF x 6 from rfl, show (decide (7 < 64) && bitF x ((7 : Nat) : Int)) = bitF x 7 from rfl, show (decide (63 < 64) && bitF x ((63 : Nat) : Int)) = bitF x 63 from rfl] at c0 c1 c2 c5 c6 c7 c63
      have HR := Lib.hid hr
      clear hr
      have HE := Lib.hid hE
      clear hE
      go_wp2
      refine wp_region_still_tail 24 (by kernel_rfl) (by kernel_rfl) ?_
      simp only [List.take_succ_cons, List.take_zero, List.drop_succ_cons, List.drop_zero]
      repeat still_step
      still_call (stillOf (rtable_any _ _ hx))
      repeat still_step
      refine wpStill_nil ?_
      change wpList _ _ _ _ _ wr.drew
      have HE2 : Hid (RowE wr.drew w.heap.size noE) := HE.out
      have HB : Hid (Below w.heap.size w wr.drew) := hb.drew
      clear HE hb HR c0 c1 c2 c5 c6 c7 c63
      generalize wr.drew = w2 at *
      have k0 := (cell_of_block HE2.out 0).trans (show noE[0]? = some (.bool false) from rfl)
      have k1 := (cell_of_block HE2.out 1).trans (show noE[1]? = some (.bool false) from rfl)
      have k2 := (cell_of_block HE2.out 2).trans (show noE[2]? = some (.bool false) from rfl)
      have k3 := (cell_of_block HE2.out 3).trans (show noE[3]? = some (.bool false) from rfl)
      have k4 := (cell_of_block HE2.out 4).trans (show noE[4]? = some (.bool false) from rfl)
      have k5 := (cell_of_block HE2.out 5).trans (show noE[5]? = some (.bool false) from rfl)
      have k6 := (cell_of_block HE2.out 6).trans (show noE[6]? = some (.bool false) from rfl)
      have k7 := (cell_of_block HE2.out 7).trans (show noE[7]? = some (.int .u64 0) from rfl)
      have f0 := unfrozen_of_block HE2.out 0
      have f1 := unfrozen_of_block HE2.out 1
      have f2 := unfrozen_of_block HE2.out 2
      have f3 := unfrozen_of_block HE2.out 3
      have f4 := unfrozen_of_block HE2.out 4
      have f5 := unfrozen_of_block HE2.out 5
      have f6 := unfrozen_of_block HE2.out 6
      have f7 := unfrozen_of_block HE2.out 7
      go_wp2
      have b8 := block_setCell (block_setCell (block_setCell (block_setCell (block_setCell (block_setCell (block_setCell (block_setCell HE2.out (i := 0) (.bool (bitF x 0))) (i := 1) (.bool (bitF x 1))) (i := 2) (.bool (bitF x 2))) (i := 3) (.bool (bitF x 5))) (i := 4) (.bool (bitF x 6))) (i := 5) (.bool (bitF x 7))) (i := 6) (.bool (bitF x 63))) (i := 7) (.int .u64 (tableF x))
      refine bodyPost_ret (results_cell_row rfl _ _ w.heap.size _ _ _ _ rfl b8 Tryd.underlying26 rfl rfl) rfl ⟨rfl, ?_⟩
      exact (((((((HB.out.setCell (by simp) _).setCell (by simp) _).setCell (by simp) _).setCell (by simp) _).setCell (by simp) _).setCell (by simp) _).setCell (by simp) _).setCell (by simp) _
end Go.Proofs.YthcihailddcpdaaDoor
