/- The walk of EntryBack. -/
import Derived.Test.YthcihailddcpdaaDoorL5t
namespace Go.Proofs.YthcihailddcpdaaDoor
set_option linter.unusedVariables false
set_option linter.unusedSimpArgs false
open Go.ChangeShapes Go.WideShapes Go.ChangeAt Go.RowKit Go.Joins
attribute [local go_sem ↓] Go.wp_at_zero Go.wp_at_succ

/-- block g holds an entry of the program's -/
def RowN (w : World) (g : Nat) (cs : Array Value) : Prop := w.heap[g]? = some (.cells cs 24 (0, 0))

theorem ent_of_row {w : World} {g : Nat} {p v u a d s n : Bool} {f : Int} (h : RowN w g #[.bool p, .bool v, .bool u, .bool a, .bool d, .bool s, .bool n, .int .u64 f]) : EntAt w g p v u a d s n f :=
  ⟨(cell_of_block h 0).trans rfl, (cell_of_block h 1).trans rfl, (cell_of_block h 2).trans rfl, (cell_of_block h 3).trans rfl, (cell_of_block h 4).trans rfl, (cell_of_block h 5).trans rfl, (cell_of_block h 6).trans rfl, (cell_of_block h 7).trans rfl⟩

theorem row_frame {w : World} {g : Nat} {p v u a d s n : Bool} {f : Int} (h : RowN w g #[.bool p, .bool v, .bool u, .bool a, .bool d, .bool s, .bool n, .int .u64 f]) (t : Int) : RowN (w.setCell ⟨g, 7, none⟩ (.int .u64 t)) g #[.bool p, .bool v, .bool u, .bool a, .bool d, .bool s, .bool n, .int .u64 t] :=
  block_setCell h (i := 7) (.int .u64 t)

theorem row_below {w w' : World} {B g : Nat} {cs : Array Value} (h : RowN w g cs) (hb : Below B w w') (hg : g < B) : RowN w' g cs := (hb.block g hg).trans h

theorem word_says (x : Int) (w : World) : Calls Tryd.prog 12 #[saysV x] w fun e w' => e = .returned (.int .u64 (backF x)) ∧ Below w.heap.size w w' :=
  word_any _ _ _ _ _ _ _ _ w (w64_table x)

theorem parse_word (p v u a d s n : Bool) (f : Int) (w : World) (hf : W64 f) : Calls Tryd.prog 10 #[.int .u64 (wordF p v u a d s n (tableF f))] w fun e w' => e = .returned (entV p v u a d s n (tableF f)) ∧ Below w.heap.size w w' := by
  have h := parse_any (wordF p v u a d s n (tableF f)) w (w64_word _ _ _ _ _ _ _ _)
  obtain ⟨b0, b1, b2, b5, b6, b7, b63⟩ := word_bits (w64_table f) p v u a d s n
  have e : saysV (wordF p v u a d s n (tableF f)) = entV p v u a d s n (tableF f) := by
    unfold saysV
    rw [b0, b1, b2, b5, b6, b7, b63, word_table (w64_table f), table_table]
  rw [e] at h
  exact h

theorem setCell_size (w : World) (p : Addr) (v : Value) : (w.setCell p v).heap.size = w.heap.size := by simp

set_option maxRecDepth 100000 in
set_option maxHeartbeats 1600000 in
theorem entryBack_walk (x : Int) (p v u a d s n : Bool) (f : Int) (w : World) (hs : Shifts w) (hz : 0 < w.heap.size) (hx : W64 x) (hf : W64 f) :
    Calls Tryd.prog 5 #[.int .u64 x, entV p v u a d s n f] w fun e w' => e = .returned (.bool true) ∧ Below w.heap.size w w' := by
  obtain ⟨y, hy⟩ : ∃ y, backF x = y := ⟨_, rfl⟩
  have hyW : W64 y := hy ▸ w64_back x
  have e1 := back_less hx
  have e2 := back_rest hx
  have e3 := back_back hx
  rw [hy] at e1 e2 e3
  have CX : ∀ w, Calls Tryd.prog 12 #[saysV x] w fun e w' => e = .returned (.int .u64 y) ∧ Below w.heap.size w w' := fun w => by
    have h := word_says x w; rwa [hy] at h
  have CY : ∀ w, Calls Tryd.prog 12 #[saysV y] w fun e w' => e = .returned (.int .u64 y) ∧ Below w.heap.size w w' := fun w => by
    have h := word_says y w; rwa [e3] at h
  have HX := Lib.hid CX
  have HY := Lib.hid CY
  clear CX CY hy e3
  go_enter Tryd.func5, Tryd.ntmps5
  go_wp2_with fail
  have hs1 := shifts_alloc hs hz (.cells #[.bool p, .bool v, .bool u, .bool a, .bool d, .bool s, .bool n, .int .u64 f] 24)
  refine (awake5_any _ hs1 (by simp)).mono ?_
  rintro e w1 ⟨rfl, hb1⟩
  have r1 : Hid (RowN w1 w.heap.size #[.bool p, .bool v, .bool u, .bool a, .bool d, .bool s, .bool n, .int .u64 f]) := row_below (last_obj _ _) hb1 (by simp)
  have c7 := (cell_of_block r1.out 7).trans (show (#[.bool p, .bool v, .bool u, .bool a, .bool d, .bool s, .bool n, .int .u64 f] : Array Value)[7]? = some (.int .u64 f) from rfl)
  have f7 := unfrozen_of_block r1.out 7
  have B : Hid (Below w.heap.size w w1) := (below_alloc1 _ _).trans (hb1.mono (by simp))
  have hlt : w.heap.size < w1.heap.size := by have := hb1.size; simp at this; omega
  clear hb1 hs1
  go_wp2_with (go_at_call 16; refine (table_any _ _ hf).mono ?_; rintro e w' ⟨rfl, rfl⟩)
  have r2 : Hid (RowN (w1.setCell ⟨w.heap.size, 7, none⟩ (.int .u64 (tableF f))) w.heap.size #[.bool p, .bool v, .bool u, .bool a, .bool d, .bool s, .bool n, .int .u64 (tableF f)]) := row_frame r1.out _
  have B2 : Hid (Below w.heap.size w (w1.setCell ⟨w.heap.size, 7, none⟩ (.int .u64 (tableF f)))) := B.out.setCell (by simp) _
  have hlt2 : w.heap.size < (w1.setCell ⟨w.heap.size, 7, none⟩ (.int .u64 (tableF f))).heap.size := by rw [setCell_size]; exact hlt
  clear c7 f7 r1 B hlt
  generalize w1.setCell ⟨w.heap.size, 7, none⟩ (.int .u64 (tableF f)) = w2 at *
  refine (parse_any _ _ hx).mono ?_
  rintro e w3 ⟨rfl, hb3⟩
  have r3 : Hid (RowN w3 w.heap.size #[.bool p, .bool v, .bool u, .bool a, .bool d, .bool s, .bool n, .int .u64 (tableF f)]) := row_below r2.out hb3 hlt2
  have B3 : Hid (Below w.heap.size w w3) := B2.out.trans (hb3.mono (Nat.le_of_lt hlt2))
  have hlt3 : w.heap.size < w3.heap.size := Nat.lt_of_lt_of_le hlt2 hb3.size
  clear hb3 r2 B2 hlt2
  go_wp2_with fail
  refine (HX.out _).mono ?_
  rintro e w4 ⟨rfl, hb4⟩
  have hE : Hid (EntAt w4 w.heap.size p v u a d s n (tableF f)) := ent_of_row (row_below r3.out hb4 hlt3)
  have B4 : Hid (Below w.heap.size w w4) := B3.out.trans (hb4.mono (Nat.le_of_lt hlt3))
  have hlt4 : w.heap.size < w4.heap.size := Nat.lt_of_lt_of_le hlt3 hb4.size
  clear hb4 r3 B3 hlt3
  have hT := w64_table f
  go_wp2
  go_region_held3 (fun w5 => w5.cell? ⟨w.heap.size, 0, none⟩ = some (.bool p) ∧ w5.cell? ⟨w.heap.size, 1, none⟩ = some (.bool v) ∧ w5.cell? ⟨w.heap.size, 2, none⟩ = some (.bool u) ∧ w5.cell? ⟨w.heap.size, 3, none⟩ = some (.bool a) ∧ w5.cell? ⟨w.heap.size, 4, none⟩ = some (.bool d) ∧ w5.cell? ⟨w.heap.size, 5, none⟩ = some (.bool s) ∧ w5.cell? ⟨w.heap.size, 6, none⟩ = some (.bool n) ∧ w5.cell? ⟨w.heap.size, 7, none⟩ = some (.int .u64 (tableF f)) ∧ Kept w4 w5)
    (first | assumption | exact ent_and hE.out hlt4 (Kept.drew0 _) | exact ent_step hE.out hlt4 (by assumption) (by assumption))
    (first | (go_at_call 10; first | ((with_reducible refine (calls_kept (parse_word _ _ _ _ _ _ _ _ _ hf)).mono ?_); rintro e w5 ⟨rfl, hb5⟩) | (refine (calls_kept (parse_any _ _ hyW)).mono ?_; rintro e w5 ⟨rfl, hb5⟩)) | (go_at_call 12; first | ((with_reducible refine (calls_kept (HY.out _)).mono ?_); rintro e w5 ⟨rfl, hb5⟩) | (refine (calls_kept (word_any _ _ _ _ _ _ _ _ _ hT)).mono ?_; rintro e w5 ⟨rfl, hb5⟩)))
  all_goals go_wp2
  all_goals go_ret
  all_goals (rename_i hH; exact ⟨rfl, B4.out.trans (Below.mono hH.2.2.2.2.2.2.2.2 (Nat.le_of_lt hlt4))⟩)
end Go.Proofs.YthcihailddcpdaaDoor
