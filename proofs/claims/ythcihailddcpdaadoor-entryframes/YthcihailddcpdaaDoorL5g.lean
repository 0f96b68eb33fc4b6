/- The walk of EntryFrames: levels 1 and 2. -/
import Derived.Test.YthcihailddcpdaaDoorL5f
namespace Go.Proofs.YthcihailddcpdaaDoor
set_option linter.unusedVariables false
set_option linter.unusedSimpArgs false
open Go.ChangeShapes Go.WideShapes Go.ChangeAt Go.RowKit Go.Joins

set_option maxRecDepth 100000 in
set_option maxHeartbeats 1600000 in
theorem frames1_res (x l : Int) (w : World) (hs : Shifts w) (hz : 0 < w.heap.size) (hx : W64 x) (l0 : 0 ≤ l) (l1 : l ≤ 255) (hk : l % 3 = 0) (hr : resF x 1 52 true = true) :
    Calls Tryd.prog 6 #[.int .u64 x, .int .u8 l] w fun e w' => e = .returned (.bool true) ∧ Below w.heap.size w w' := by
  obtain ⟨t0, t1⟩ := table_bd x
  have z1 : sizeF 1 = 4096 := rfl
  have e1 := frame_one x
  have e2 := leaf_one x
  have e3 := table_mod x
  go_enter Tryd.func6, Tryd.ntmps6
  go_wp2_with fail
  refine (awake5_any _ hs hz).mono ?_
  rintro e w1 ⟨rfl, hb1⟩
  have hs2 := shifts_below hs hz hb1
  have HB := Lib.hid hb1
  clear hb1
  go_wp2_with (first | (go_at_call 14; refine (leaf_any _ _ _).mono ?_; rintro e w' ⟨rfl, rfl⟩) | (go_at_call 18; refine (frame_any _ _ _ hs2 hx).mono ?_; rintro e w' ⟨rfl, rfl⟩) | (go_at_call 16; refine (table_any _ _ hx).mono ?_; rintro e w' ⟨rfl, rfl⟩) | (go_at_call 24; refine (size_any _ _ hs2).mono ?_; rintro e w' ⟨rfl, rfl⟩) | (go_at_call 20; refine (res_any _ _ _ _ _ i64_52).mono ?_; rintro e w' ⟨rfl, rfl⟩))
  go_ret
  exact ⟨rfl, HB.out⟩

set_option maxRecDepth 100000 in
set_option maxHeartbeats 1600000 in
theorem frames1_free (x l : Int) (w : World) (hs : Shifts w) (hz : 0 < w.heap.size) (hx : W64 x) (l0 : 0 ≤ l) (l1 : l ≤ 255) (hk : l % 3 = 0) (hr : resF x 1 52 true = false) :
    Calls Tryd.prog 6 #[.int .u64 x, .int .u8 l] w fun e w' => e = .returned (.bool true) ∧ Below w.heap.size w w' := by
  obtain ⟨t0, t1⟩ := table_bd x
  have z1 : sizeF 1 = 4096 := rfl
  have e1 := frame_one x
  have e2 := leaf_one x
  have e3 := table_mod x
  go_enter Tryd.func6, Tryd.ntmps6
  go_wp2_with fail
  refine (awake5_any _ hs hz).mono ?_
  rintro e w1 ⟨rfl, hb1⟩
  have hs2 := shifts_below hs hz hb1
  have HB := Lib.hid hb1
  clear hb1
  go_wp2_with (first | (go_at_call 14; refine (leaf_any _ _ _).mono ?_; rintro e w' ⟨rfl, rfl⟩) | (go_at_call 18; refine (frame_any _ _ _ hs2 hx).mono ?_; rintro e w' ⟨rfl, rfl⟩) | (go_at_call 16; refine (table_any _ _ hx).mono ?_; rintro e w' ⟨rfl, rfl⟩) | (go_at_call 24; refine (size_any _ _ hs2).mono ?_; rintro e w' ⟨rfl, rfl⟩) | (go_at_call 20; refine (res_any _ _ _ _ _ i64_52).mono ?_; rintro e w' ⟨rfl, rfl⟩))
  go_ret
  exact ⟨rfl, HB.out⟩

set_option maxRecDepth 100000 in
set_option maxHeartbeats 1600000 in
theorem frames2_not (x l : Int) (w : World) (hs : Shifts w) (hz : 0 < w.heap.size) (hx : W64 x) (l0 : 0 ≤ l) (l1 : l ≤ 255) (hk : l % 3 = 1) (hL : leafF x 2 = false) :
    Calls Tryd.prog 6 #[.int .u64 x, .int .u8 l] w fun e w' => e = .returned (.bool true) ∧ Below w.heap.size w w' := by
  have e1 := frame_else hL
  go_enter Tryd.func6, Tryd.ntmps6
  go_wp2_with fail
  refine (awake5_any _ hs hz).mono ?_
  rintro e w1 ⟨rfl, hb1⟩
  have hs2 := shifts_below hs hz hb1
  have HB := Lib.hid hb1
  clear hb1
  go_wp2_with (first | (go_at_call 14; refine (leaf_any _ _ _).mono ?_; rintro e w' ⟨rfl, rfl⟩) | (go_at_call 18; refine (frame_any _ _ _ hs2 hx).mono ?_; rintro e w' ⟨rfl, rfl⟩) | (go_at_call 16; refine (table_any _ _ hx).mono ?_; rintro e w' ⟨rfl, rfl⟩) | (go_at_call 24; refine (size_any _ _ hs2).mono ?_; rintro e w' ⟨rfl, rfl⟩) | (go_at_call 20; refine (res_any _ _ _ _ _ i64_52).mono ?_; rintro e w' ⟨rfl, rfl⟩))
  go_ret
  exact ⟨rfl, HB.out⟩

set_option maxRecDepth 100000 in
set_option maxHeartbeats 1600000 in
theorem frames2_res (x l : Int) (w : World) (hs : Shifts w) (hz : 0 < w.heap.size) (hx : W64 x) (l0 : 0 ≤ l) (l1 : l ≤ 255) (hk : l % 3 = 1) (hL : leafF x 2 = true) (hr : resF x 2 52 true = true) :
    Calls Tryd.prog 6 #[.int .u64 x, .int .u8 l] w fun e w' => e = .returned (.bool true) ∧ Below w.heap.size w w' := by
  obtain ⟨t0, t1⟩ := table_bd x
  have z1 : sizeF 2 = 2097152 := rfl
  obtain ⟨f0, f1, f2, f3⟩ := frame_two hL
  have f4 : ¬ 2097152 ≤ tableF x - frameF x 2 := by omega
  have f5 : ¬ tableF x < frameF x 2 := by omega
  clear f3
  go_enter Tryd.func6, Tryd.ntmps6
  go_wp2_with fail
  refine (awake5_any _ hs hz).mono ?_
  rintro e w1 ⟨rfl, hb1⟩
  have hs2 := shifts_below hs hz hb1
  have HB := Lib.hid hb1
  clear hb1
  go_wp2_with (first | (go_at_call 14; refine (leaf_any _ _ _).mono ?_; rintro e w' ⟨rfl, rfl⟩) | (go_at_call 18; refine (frame_any _ _ _ hs2 hx).mono ?_; rintro e w' ⟨rfl, rfl⟩) | (go_at_call 16; refine (table_any _ _ hx).mono ?_; rintro e w' ⟨rfl, rfl⟩) | (go_at_call 24; refine (size_any _ _ hs2).mono ?_; rintro e w' ⟨rfl, rfl⟩) | (go_at_call 20; refine (res_any _ _ _ _ _ i64_52).mono ?_; rintro e w' ⟨rfl, rfl⟩))
  go_ret
  exact ⟨rfl, HB.out⟩

set_option maxRecDepth 100000 in
set_option maxHeartbeats 1600000 in
theorem frames2_same (x l : Int) (w : World) (hs : Shifts w) (hz : 0 < w.heap.size) (hx : W64 x) (l0 : 0 ≤ l) (l1 : l ≤ 255) (hk : l % 3 = 1) (hL : leafF x 2 = true) (hr : resF x 2 52 true = false) (hE : (frameF x 2 == tableF x) = true) :
    Calls Tryd.prog 6 #[.int .u64 x, .int .u8 l] w fun e w' => e = .returned (.bool true) ∧ Below w.heap.size w w' := by
  obtain ⟨t0, t1⟩ := table_bd x
  have z1 : sizeF 2 = 2097152 := rfl
  obtain ⟨f0, f1, f2, f3⟩ := frame_two hL
  have f4 : ¬ 2097152 ≤ tableF x - frameF x 2 := by omega
  have f5 : ¬ tableF x < frameF x 2 := by omega
  clear f3
  go_enter Tryd.func6, Tryd.ntmps6
  go_wp2_with fail
  refine (awake5_any _ hs hz).mono ?_
  rintro e w1 ⟨rfl, hb1⟩
  have hs2 := shifts_below hs hz hb1
  have HB := Lib.hid hb1
  clear hb1
  go_wp2_with (first | (go_at_call 14; refine (leaf_any _ _ _).mono ?_; rintro e w' ⟨rfl, rfl⟩) | (go_at_call 18; refine (frame_any _ _ _ hs2 hx).mono ?_; rintro e w' ⟨rfl, rfl⟩) | (go_at_call 16; refine (table_any _ _ hx).mono ?_; rintro e w' ⟨rfl, rfl⟩) | (go_at_call 24; refine (size_any _ _ hs2).mono ?_; rintro e w' ⟨rfl, rfl⟩) | (go_at_call 20; refine (res_any _ _ _ _ _ i64_52).mono ?_; rintro e w' ⟨rfl, rfl⟩))
  go_ret
  exact ⟨rfl, HB.out⟩

set_option maxRecDepth 100000 in
set_option maxHeartbeats 1600000 in
theorem frames2_next (x l : Int) (w : World) (hs : Shifts w) (hz : 0 < w.heap.size) (hx : W64 x) (l0 : 0 ≤ l) (l1 : l ≤ 255) (hk : l % 3 = 1) (hL : leafF x 2 = true) (hr : resF x 2 52 true = false) (hE : (frameF x 2 == tableF x) = false) (hE2 : (frameF x 2 + 4096 == tableF x) = true) :
    Calls Tryd.prog 6 #[.int .u64 x, .int .u8 l] w fun e w' => e = .returned (.bool true) ∧ Below w.heap.size w w' := by
  obtain ⟨t0, t1⟩ := table_bd x
  have z1 : sizeF 2 = 2097152 := rfl
  obtain ⟨f0, f1, f2, f3⟩ := frame_two hL
  have f4 : ¬ 2097152 ≤ tableF x - frameF x 2 := by omega
  have f5 : ¬ tableF x < frameF x 2 := by omega
  clear f3
  go_enter Tryd.func6, Tryd.ntmps6
  go_wp2_with fail
  refine (awake5_any _ hs hz).mono ?_
  rintro e w1 ⟨rfl, hb1⟩
  have hs2 := shifts_below hs hz hb1
  have HB := Lib.hid hb1
  clear hb1
  go_wp2_with (first | (go_at_call 14; refine (leaf_any _ _ _).mono ?_; rintro e w' ⟨rfl, rfl⟩) | (go_at_call 18; refine (frame_any _ _ _ hs2 hx).mono ?_; rintro e w' ⟨rfl, rfl⟩) | (go_at_call 16; refine (table_any _ _ hx).mono ?_; rintro e w' ⟨rfl, rfl⟩) | (go_at_call 24; refine (size_any _ _ hs2).mono ?_; rintro e w' ⟨rfl, rfl⟩) | (go_at_call 20; refine (res_any _ _ _ _ _ i64_52).mono ?_; rintro e w' ⟨rfl, rfl⟩))
  go_ret
  exact ⟨rfl, HB.out⟩

theorem frames2_all (x l : Int) (w : World) (hs : Shifts w) (hz : 0 < w.heap.size) (hx : W64 x) (l0 : 0 ≤ l) (l1 : l ≤ 255) (hk : l % 3 = 1) :
    Calls Tryd.prog 6 #[.int .u64 x, .int .u8 l] w fun e w' => e = .returned (.bool true) ∧ Below w.heap.size w w' := by
  cases hL : leafF x 2
  · exact frames2_not x l w hs hz hx l0 l1 hk hL
  · cases hr : resF x 2 52 true
    · by_cases c : frameF x 2 = tableF x
      · exact frames2_same x l w hs hz hx l0 l1 hk hL hr (by simp [c])
      · exact frames2_next x l w hs hz hx l0 l1 hk hL hr (by simp [c]) (by simpa using (free_two hx hL hr).resolve_left c)
    · exact frames2_res x l w hs hz hx l0 l1 hk hL hr

end Go.Proofs.YthcihailddcpdaaDoor
