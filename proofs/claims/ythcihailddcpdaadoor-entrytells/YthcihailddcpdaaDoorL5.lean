/- Layer 5: awake; the walks of EntrySlots and EntryFrames. -/
import Derived.Test.YthcihailddcpdaaDoorEb
import Derived.Test.YthcihailddcpdaaDoorVj
namespace Go.Proofs.YthcihailddcpdaaDoor
set_option linter.unusedVariables false
set_option linter.unusedSimpArgs false
open Go.ChangeShapes Go.WideShapes Go.ChangeAt Go.RowKit Go.Joins

theorem awk5 : slotF 12288 4096 1 = 12296 ∧ leafF 128 2 = true ∧ leafF 0 2 = false ∧ resF 1073741824 1 20 true = true := by decide +kernel
theorem w64_a1 : W64 20487 := ⟨by decide, by decide⟩
theorem w64_a2 : W64 12288 := ⟨by decide, by decide⟩
theorem w64_a3 : W64 4096 := ⟨by decide, by decide⟩
theorem i64_20 : I64 20 := ⟨by decide, by decide⟩
theorem i64_30 : I64 30 := ⟨by decide, by decide⟩
theorem i64_51 : I64 51 := ⟨by decide, by decide⟩
theorem i64_52 : I64 52 := ⟨by decide, by decide⟩

theorem says_aw : saysV 20487 = entV true true true false false false false 20480 := by
  have e : bitF 20487 0 = true ∧ bitF 20487 1 = true ∧ bitF 20487 2 = true ∧ bitF 20487 5 = false ∧ bitF 20487 6 = false ∧ bitF 20487 7 = false ∧ bitF 20487 63 = false ∧ tableF 20487 = 20480 := by decide +kernel
  obtain ⟨e0, e1, e2, e5, e6, e7, e63, et⟩ := e
  unfold saysV
  rw [e0, e1, e2, e5, e6, e7, e63, et]
theorem parse_aw (w : World) : Calls Tryd.prog 10 #[.int .u64 20487] w fun e w' => e = .returned (.agg #[.bool true, .bool true, .bool true, .bool false, .bool false, .bool false, .bool false, .int .u64 20480]) ∧ Below w.heap.size w w' := by
  have h := parse_any 20487 w w64_a1
  rw [says_aw] at h
  exact h

theorem awake5_any (w : World) (hs : Shifts w) (hz : 0 < w.heap.size) :
    Calls Tryd.prog 9 #[] w fun e w' => e = .returned (.bool true) ∧ Below w.heap.size w w' := by
  obtain ⟨a1, a2, a3, a9⟩ := awk5
  go_enter Tryd.func9, Tryd.ntmps9
  go_wp2_with fail
  refine (parse_aw _).mono ?_
  rintro e w1 ⟨rfl, hb⟩
  have hz1 : 0 < w1.heap.size := Nat.lt_of_lt_of_le hz hb.size
  have hs1 := shifts_below hs hz hb
  have hB := Lib.hid hb
  have hle := Lib.hid hb.size
  clear hb
  go_wp2_with fail
  have hs2 := shifts_alloc hs1 hz1 (.cells #[.bool true, .bool true, .bool true, .bool false, .bool false, .bool false, .bool false, .int .u64 20480] 24)
  go_wp2_with (first | (go_at_call 22; refine (slot_any _ _ _ _ hs2 w64_a2 w64_a3).mono ?_; rintro e w' ⟨rfl, rfl⟩) | (go_at_call 14; refine (leaf_any _ _ _).mono ?_; rintro e w' ⟨rfl, rfl⟩) | (go_at_call 20; refine (res_any _ _ _ _ _ i64_20).mono ?_; rintro e w' ⟨rfl, rfl⟩))
  go_ret
  exact ⟨rfl, hB.out.trans (Below.mono (below_alloc1 _ _) hle.out)⟩
end Go.Proofs.YthcihailddcpdaaDoor
