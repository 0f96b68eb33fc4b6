/- Layer 7: errors.as over two errors that were joined. -/
import Derived.Test.YtngaimandbcpbaaDoorFi
namespace Go.Proofs.YtngaimandbcpbaaDoor
set_option linter.unusedVariables false
set_option linter.unusedSimpArgs false
open Go.RowKit Go.Extern.Stop Go.Stop Go.Extern

theorem unwrap_join (j b : Nat) (w : World) (h : w.cell? ⟨j, 0, none⟩ = some (.slice (some ⟨b, 0, none⟩) 2 2)) : Calls Tryd.prog 80 #[.pointer (some ⟨j, 0, none⟩)] w fun e w' => e = .returned (.slice (some ⟨b, 0, none⟩) 2 2) ∧ w' = w := by
  go_enter Tryd.func80, Tryd.ntmps80
  go_wp2
  go_ret
  exact ⟨rfl, rfl⟩

set_option maxHeartbeats 1600000 in
set_option maxRecDepth 100000 in
/-- the second one is found -/
theorem as_join2 (j b : Nat) (t0 t1 : TypeId) (x0 x1 : Value) (a p : Addr) (w : World) (R : Bool → World → Prop) (h0 : w.cell? ⟨j, 0, none⟩ = some (.slice (some ⟨b, 0, none⟩) 2 2)) (h1 : w.cell? ⟨b, 0, none⟩ = some (.iface t0 x0)) (h2 : w.cell? ⟨b, 1, none⟩ = some (.iface t1 x1))
    (c0 : ∀ w', Kept w w' → Calls Tryd.prog 35 #[.iface t0 x0, .iface 55 (.pointer (some p)), .agg #[.pointer (some ⟨4, 55, none⟩), .pointer (some a), .int .u64 150], .iface 80 (.agg #[.pointer (some ⟨4, 44, none⟩)])] w' fun r w'' => r = .returned (.bool false) ∧ Kept w' w'')
    (c1 : ∀ w', Kept w w' → Calls Tryd.prog 35 #[.iface t1 x1, .iface 55 (.pointer (some p)), .agg #[.pointer (some ⟨4, 55, none⟩), .pointer (some a), .int .u64 150], .iface 80 (.agg #[.pointer (some ⟨4, 44, none⟩)])] w' fun r w'' => r = .returned (.bool true) ∧ R true w'') :
    Calls Tryd.prog 35 #[.iface 65 (.pointer (some ⟨j, 0, none⟩)), .iface 55 (.pointer (some p)), .agg #[.pointer (some ⟨4, 55, none⟩), .pointer (some a), .int .u64 150], .iface 80 (.agg #[.pointer (some ⟨4, 44, none⟩)])] w fun r w' => r = .returned (.bool true) ∧ R true w' := by
  have k0 := xTypeOf
  have k1 := xAssignableTo
  have k2 := typeOfJ
  have k3 := assJP
  have k4 := noAsJ
  have k5 := noUnJ
  have k6 := usJ
  have k7 := mUnwrapJ
  have k8 := mAssignableTo
  have d0 := kept_cell (kept_alloc w (.cells #[.pointer (some ⟨4, 55, none⟩), .pointer (some a), .int .u64 150] 72)) h0
  have d1 := kept_cell (kept_alloc w (.cells #[.pointer (some ⟨4, 55, none⟩), .pointer (some a), .int .u64 150] 72)) h1
  have e0 := c0 _ (kept_alloc w (.cells #[.pointer (some ⟨4, 55, none⟩), .pointer (some a), .int .u64 150] 72))
  go_enter Tryd.func35, Tryd.ntmps35
  go_wp2_with fail
  refine wp_loop_rounds 1 ?_
  rw [rounds_succ]
  go_wp2_with (first | (go_at_call 80; refine (unwrap_join _ _ _ d0).mono ?_; rintro e w' ⟨rfl, rfl⟩))
  refine wp_loop_rounds 2 ?_
  rw [rounds_succ]
  go_wp2_with fail
  refine e0.mono ?_
  rintro r w2 ⟨rfl, hk⟩
  have hK := Kept.step hk (kept_alloc w (.cells #[.pointer (some ⟨4, 55, none⟩), .pointer (some a), .int .u64 150] 72))
  have d2 := kept_cell hK h2
  have e1 := c1 _ hK
  have v0 : w2.cell? ⟨w.heap.size, 0, none⟩ = some (.pointer (some ⟨4, 55, none⟩)) := kept_cell hk (by simp)
  have v1 : w2.cell? ⟨w.heap.size, 1, none⟩ = some (.pointer (some a)) := kept_cell hk (by simp)
  have v2 : w2.cell? ⟨w.heap.size, 2, none⟩ = some (.int .u64 150) := kept_cell hk (by simp)
  clear hk hK d0 d1
  go_wp2_with fail
  rw [rounds_succ]
  go_wp2_with fail
  refine e1.mono ?_
  rintro r w3 ⟨rfl, hR⟩
  go_wp2_with fail
  go_ret
  exact ⟨rfl, hR⟩

set_option maxHeartbeats 1600000 in
set_option maxRecDepth 100000 in
/-- the first one is found -/
theorem as_join1 (j b : Nat) (t0 t1 : TypeId) (x0 x1 : Value) (a p : Addr) (w : World) (R : Bool → World → Prop) (h0 : w.cell? ⟨j, 0, none⟩ = some (.slice (some ⟨b, 0, none⟩) 2 2)) (h1 : w.cell? ⟨b, 0, none⟩ = some (.iface t0 x0)) (h2 : w.cell? ⟨b, 1, none⟩ = some (.iface t1 x1))
    (c0 : ∀ w', Kept w w' → Calls Tryd.prog 35 #[.iface t0 x0, .iface 56 (.pointer (some p)), .agg #[.pointer (some ⟨4, 56, none⟩), .pointer (some a), .int .u64 150], .iface 80 (.agg #[.pointer (some ⟨4, 37, none⟩)])] w' fun r w'' => r = .returned (.bool true) ∧ R true w'') :
    Calls Tryd.prog 35 #[.iface 65 (.pointer (some ⟨j, 0, none⟩)), .iface 56 (.pointer (some p)), .agg #[.pointer (some ⟨4, 56, none⟩), .pointer (some a), .int .u64 150], .iface 80 (.agg #[.pointer (some ⟨4, 37, none⟩)])] w fun r w' => r = .returned (.bool true) ∧ R true w' := by
  have k0 := xTypeOf
  have k1 := xAssignableTo
  have k2 := typeOfJ
  have k3 := assJN
  have k4 := noAsJ
  have k5 := noUnJ
  have k6 := usJ
  have k7 := mUnwrapJ
  have k8 := mAssignableTo
  have d0 := kept_cell (kept_alloc w (.cells #[.pointer (some ⟨4, 56, none⟩), .pointer (some a), .int .u64 150] 72)) h0
  have d1 := kept_cell (kept_alloc w (.cells #[.pointer (some ⟨4, 56, none⟩), .pointer (some a), .int .u64 150] 72)) h1
  have e0 := c0 _ (kept_alloc w (.cells #[.pointer (some ⟨4, 56, none⟩), .pointer (some a), .int .u64 150] 72))
  go_enter Tryd.func35, Tryd.ntmps35
  go_wp2_with fail
  refine wp_loop_rounds 1 ?_
  rw [rounds_succ]
  go_wp2_with (first | (go_at_call 80; refine (unwrap_join _ _ _ d0).mono ?_; rintro e w' ⟨rfl, rfl⟩))
  refine wp_loop_rounds 2 ?_
  rw [rounds_succ]
  go_wp2_with fail
  refine e0.mono ?_
  rintro r w2 ⟨rfl, hR⟩
  go_wp2_with fail
  go_ret
  exact ⟨rfl, hR⟩
end Go.Proofs.YtngaimandbcpbaaDoor
