/- The walk of EntryTells. -/
import Derived.Test.YthcihailddcpdaaDoorL5
import Derived.Test.YthcihailddcpdaaDoorEt
import Derived.Test.YthcihailddcpdaaDoorKp
import Derived.Deep.RegionHeld3
namespace Go.Proofs.YthcihailddcpdaaDoor
set_option linter.unusedVariables false
set_option linter.unusedSimpArgs false
open Go.ChangeShapes Go.WideShapes Go.ChangeAt Go.RowKit Go.Joins
attribute [local go_sem ↓] Go.wp_at_zero Go.wp_at_succ

/-- an entry lies in block g -/
abbrev EntAt (w : World) (g : Nat) (p w' u a d s n : Bool) (f : Int) : Prop :=
  w.cell? ⟨g, 0, none⟩ = some (.bool p) ∧ w.cell? ⟨g, 1, none⟩ = some (.bool w') ∧ w.cell? ⟨g, 2, none⟩ = some (.bool u) ∧ w.cell? ⟨g, 3, none⟩ = some (.bool a) ∧ w.cell? ⟨g, 4, none⟩ = some (.bool d) ∧ w.cell? ⟨g, 5, none⟩ = some (.bool s) ∧ w.cell? ⟨g, 6, none⟩ = some (.bool n) ∧ w.cell? ⟨g, 7, none⟩ = some (.int .u64 f)

theorem ent_keep {w1 w2 : World} {g : Nat} {p w' u a d s n : Bool} {f : Int} (h : EntAt w1 g p w' u a d s n f) (hg : g < w1.heap.size) (hk : Kept w1 w2) : EntAt w2 g p w' u a d s n f := by
  obtain ⟨h0, h1, h2, h3, h4, h5, h6, h7⟩ := h
  exact ⟨hk.cell h0 hg, hk.cell h1 hg, hk.cell h2 hg, hk.cell h3 hg, hk.cell h4 hg, hk.cell h5 hg, hk.cell h6 hg, hk.cell h7 hg⟩

theorem ent_and {w1 w2 : World} {g : Nat} {p w' u a d s n : Bool} {f : Int} (h : EntAt w1 g p w' u a d s n f) (hg : g < w1.heap.size) (hk : Kept w1 w2) :
    w2.cell? ⟨g, 0, none⟩ = some (.bool p) ∧ w2.cell? ⟨g, 1, none⟩ = some (.bool w') ∧ w2.cell? ⟨g, 2, none⟩ = some (.bool u) ∧ w2.cell? ⟨g, 3, none⟩ = some (.bool a) ∧ w2.cell? ⟨g, 4, none⟩ = some (.bool d) ∧ w2.cell? ⟨g, 5, none⟩ = some (.bool s) ∧ w2.cell? ⟨g, 6, none⟩ = some (.bool n) ∧ w2.cell? ⟨g, 7, none⟩ = some (.int .u64 f) ∧ Kept w1 w2 := by
  obtain ⟨h0, h1, h2, h3, h4, h5, h6, h7⟩ := ent_keep h hg hk
  exact ⟨h0, h1, h2, h3, h4, h5, h6, h7, hk⟩

theorem ent_step {w1 w2 w3 : World} {g : Nat} {p w' u a d s n : Bool} {f : Int} (h : EntAt w1 g p w' u a d s n f) (hg : g < w1.heap.size) (hk : Kept w2 w3)
    (hh : w2.cell? ⟨g, 0, none⟩ = some (.bool p) ∧ w2.cell? ⟨g, 1, none⟩ = some (.bool w') ∧ w2.cell? ⟨g, 2, none⟩ = some (.bool u) ∧ w2.cell? ⟨g, 3, none⟩ = some (.bool a) ∧ w2.cell? ⟨g, 4, none⟩ = some (.bool d) ∧ w2.cell? ⟨g, 5, none⟩ = some (.bool s) ∧ w2.cell? ⟨g, 6, none⟩ = some (.bool n) ∧ w2.cell? ⟨g, 7, none⟩ = some (.int .u64 f) ∧ Kept w1 w2) :
    w3.cell? ⟨g, 0, none⟩ = some (.bool p) ∧ w3.cell? ⟨g, 1, none⟩ = some (.bool w') ∧ w3.cell? ⟨g, 2, none⟩ = some (.bool u) ∧ w3.cell? ⟨g, 3, none⟩ = some (.bool a) ∧ w3.cell? ⟨g, 4, none⟩ = some (.bool d) ∧ w3.cell? ⟨g, 5, none⟩ = some (.bool s) ∧ w3.cell? ⟨g, 6, none⟩ = some (.bool n) ∧ w3.cell? ⟨g, 7, none⟩ = some (.int .u64 f) ∧ Kept w1 w3 :=
  ent_and h hg (Kept.step hk hh.2.2.2.2.2.2.2.2)

theorem kept_of {w1 w2 : World} {A B C D E F G H : Prop} (h : A ∧ B ∧ C ∧ D ∧ E ∧ F ∧ G ∧ H ∧ Kept w1 w2) : Kept w1 w2 := h.2.2.2.2.2.2.2.2
theorem shifts_kept {w1 w2 : World} (hs : Shifts w1) (hz : 0 < w1.heap.size) (hk : Kept w1 w2) : Shifts w2 := shifts_below hs hz hk

set_option maxRecDepth 100000 in
set_option maxHeartbeats 1600000 in
theorem entryTells_walk (x l : Int) (p v u a d s n : Bool) (f : Int) (w : World) (hs : Shifts w) (hz : 0 < w.heap.size) (hx : W64 x) (hf : W64 f) :
    Calls Tryd.prog 3 #[.int .u64 x, entV p v u a d s n f, .int .i64 l] w fun e w' => e = .returned (.bool true) ∧ Below w.heap.size w w' := by
  go_enter Tryd.func3, Tryd.ntmps3
  go_wp2_with fail
  have hs1 := shifts_alloc hs hz (.cells #[.bool p, .bool v, .bool u, .bool a, .bool d, .bool s, .bool n, .int .u64 f] 24)
  refine (awake5_any _ hs1 (by simp)).mono ?_
  rintro e w1 ⟨rfl, hb1⟩
  have hE : Hid (EntAt w1 w.heap.size p v u a d s n f) := by
    refine ⟨?_, ?_, ?_, ?_, ?_, ?_, ?_, ?_⟩ <;> (rw [hb1.cell (by simp)]; simp)
  have B : Hid (Below w.heap.size w w1) := (below_alloc1 _ _).trans (hb1.mono (by simp))
  have hs2 := shifts_below hs hz B.out
  have hlt : w.heap.size < w1.heap.size := by have := hb1.size; simp at this; omega
  have hz1 : 0 < w1.heap.size := by omega
  clear hb1 hs1
  go_wp2
  go_region_held3 (fun w2 => w2.cell? ⟨w.heap.size, 0, none⟩ = some (.bool p) ∧ w2.cell? ⟨w.heap.size, 1, none⟩ = some (.bool v) ∧ w2.cell? ⟨w.heap.size, 2, none⟩ = some (.bool u) ∧ w2.cell? ⟨w.heap.size, 3, none⟩ = some (.bool a) ∧ w2.cell? ⟨w.heap.size, 4, none⟩ = some (.bool d) ∧ w2.cell? ⟨w.heap.size, 5, none⟩ = some (.bool s) ∧ w2.cell? ⟨w.heap.size, 6, none⟩ = some (.bool n) ∧ w2.cell? ⟨w.heap.size, 7, none⟩ = some (.int .u64 f) ∧ Kept w1 w2)
    (first | assumption | exact ent_and hE.out hlt (Kept.drew0 _) | exact ent_step hE.out hlt (by assumption) (by assumption))
    (first | (go_at_call 10; refine (calls_kept (parse_any _ _ hx)).mono ?_; rintro e w2 ⟨rfl, hb2⟩) | (go_at_call 11; refine (calls_kept (rparse_any _ _ hx)).mono ?_; rintro e w2 ⟨rfl, hb2⟩) | (go_at_call 12; refine (calls_kept (word_any _ _ _ _ _ _ _ _ _ hf)).mono ?_; rintro e w2 ⟨rfl, hb2⟩) | (go_at_call 13; refine (calls_kept (rword_any _ _ _ _ _ _ _ _ _ hf)).mono ?_; rintro e w2 ⟨rfl, hb2⟩) | (go_at_call 14; refine (leaf_any _ _ _).mono ?_; rintro e w' ⟨rfl, rfl⟩) | (go_at_call 15; refine (rleaf_any _ _ _ hx).mono ?_; rintro e w' ⟨rfl, rfl⟩) | (go_at_call 16; refine (table_any _ _ hx).mono ?_; rintro e w' ⟨rfl, rfl⟩) | (go_at_call 17; refine (rtable_any _ _ hx).mono ?_; rintro e w' ⟨rfl, rfl⟩) | (go_at_call 18; refine (frame_any _ _ _ (shifts_kept hs2 hz1 (kept_of (by assumption))) hx).mono ?_; rintro e w' ⟨rfl, rfl⟩) | (go_at_call 19; refine (rframe_any _ _ _ hx).mono ?_; rintro e w' ⟨rfl, rfl⟩))
  all_goals go_wp2
  all_goals go_ret
  all_goals (rename_i hH; exact ⟨rfl, B.out.trans (Below.mono hH.2.2.2.2.2.2.2.2 (Nat.le_of_lt hlt))⟩)
end Go.Proofs.YthcihailddcpdaaDoor
