/- The walk of EntryMay. -/
import Derived.Test.YthcihailddcpdaaDoorL5
import Derived.Test.YthcihailddcpdaaDoorEs
namespace Go.Proofs.YthcihailddcpdaaDoor
set_option linter.unusedVariables false
set_option linter.unusedSimpArgs false
open Go.ChangeShapes Go.WideShapes Go.ChangeAt Go.RowKit Go.Joins

set_option maxRecDepth 100000 in
set_option maxHeartbeats 1600000 in
theorem entryMay_walk (x a l b : Int) (n : Bool) (w : World) (hs : Shifts w) (hz : 0 < w.heap.size) (hx : W64 x) (ha : W64 a) (hb : I64 b) :
    Calls Tryd.prog 4 #[.int .u64 x, .int .u64 a, .agg #[.int .i64 l, .int .i64 b, .bool n]] w fun e w' => e = .returned (.bool true) ∧ Below w.heap.size w w' := by
  go_enter Tryd.func4, Tryd.ntmps4
  go_wp2_with fail
  have hs1 := shifts_alloc hs hz (.cells #[.int .i64 l, .int .i64 b, .bool n] 36)
  refine (awake5_any _ hs1 (by simp)).mono ?_
  rintro e w1 ⟨rfl, hb1⟩
  have c0 : w1.cell? ⟨w.heap.size, 0, none⟩ = some (.int .i64 l) := by rw [hb1.cell (by simp)]; simp
  have c1 : w1.cell? ⟨w.heap.size, 1, none⟩ = some (.int .i64 b) := by rw [hb1.cell (by simp)]; simp
  have c2 : w1.cell? ⟨w.heap.size, 2, none⟩ = some (.bool n) := by rw [hb1.cell (by simp)]; simp
  have B : Hid (Below w.heap.size w w1) := (below_alloc1 _ _).trans (hb1.mono (by simp))
  have hs2 := shifts_below hs hz B.out
  clear hb1 hs1
  go_wp2
  go_quiet (first | (go_at_call 20; exact quietOf (res_any _ _ _ _ _ hb)) | (go_at_call 21; exact quietOf (rres_any _ _ _ _ _ hx)) | (go_at_call 22; exact quietOf (slot_any _ _ _ _ hs2 hx ha)) | (go_at_call 23; exact quietOf (rslot_any _ _ _ _ hx ha)))
  go_wp2
  go_ret
  exact ⟨rfl, below_drewN B.out _⟩
end Go.Proofs.YthcihailddcpdaaDoor
