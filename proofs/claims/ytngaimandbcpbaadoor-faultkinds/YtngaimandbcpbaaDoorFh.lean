/- Layer 7: errors.As, by what errors.as answers. -/
import Derived.Test.YtngaimandbcpbaaDoorFb
import Derived.Lib.Hide
namespace Go.Proofs.YtngaimandbcpbaaDoor
set_option linter.unusedVariables false
set_option linter.unusedSimpArgs false
open Go.RowKit Go.Extern.Stop Go.Stop Go.Extern

/-- package errors' own variable: the handle of the type error -/
def ErrT (w : World) : Prop := w.cell? ⟨0, 0, none⟩ = some (.iface 80 (.agg #[.pointer (some ⟨4, 25, none⟩)]))
theorem errT_pos {w : World} (h : ErrT w) : 0 < w.heap.size := by
  rcases Nat.lt_or_ge 0 w.heap.size with h0 | h0
  · exact h0
  · simp [ErrT, World.cell?, Array.getElem?_eq_none h0] at h
theorem errT_keep {w w' : World} (h : ErrT w) (hk : Kept w w') : ErrT w' := hk.cell h (errT_pos h)

theorem as_nil (v : Value) (w : World) : Calls Tryd.prog 25 #[.nilIface, v] w fun e w' => e = .returned (.bool false) ∧ w' = w := by
  go_enter Tryd.func25, Tryd.ntmps25
  go_wp2
  go_ret
  exact ⟨rfl, rfl⟩

set_option maxHeartbeats 1600000 in
set_option maxRecDepth 100000 in
theorem As_pp (t : TypeId) (x : Value) (p : Addr) (w : World) (R : Bool → World → Prop) (hg : ErrT w)
    (has : Calls Tryd.prog 35 #[.iface t x, .iface 55 (.pointer (some p)), .agg #[.pointer (some ⟨4, 55, none⟩), .pointer (some ⟨w.heap.size, 0, none⟩), .int .u64 150], .iface 80 (.agg #[.pointer (some ⟨4, 44, none⟩)])] ((w.alloc (.cells #[.pointer (some p)] 55)).alloc (.cells #[.pointer (some ⟨4, 55, none⟩), .pointer (some ⟨w.heap.size, 0, none⟩), .int .u64 150] 72)) fun r w' => ∃ b, r = .returned (.bool b) ∧ R b w') :
    Calls Tryd.prog 25 #[.iface t x, .iface 55 (.pointer (some p))] w fun r w' => ∃ b, r = .returned (.bool b) ∧ R b w' := by
  have k0 := xValueOf
  have k1 := xType
  have k2 := xIsNil
  have k3 := xKind
  have k4 := xElem
  have k5 := xImplements
  have k6 := mKind
  have k7 := mElem
  have k8 := mImplements
  have k9 := valueOfPP
  have k10 := typePP
  have k11 := kindPP
  have k12 := kindP
  have k13 := elemPP
  have k14 := implementsP
  have n8 := isNilPP ⟨w.heap.size, 0, none⟩ p ((w.alloc (.cells #[.pointer (some p)] 55)).alloc (.cells #[.pointer (some ⟨4, 55, none⟩), .pointer (some ⟨w.heap.size, 0, none⟩), .int .u64 150] 72)) (by rw [World.cell?_alloc_lt _ _ ⟨w.heap.size, 0, none⟩ (by simp)]; simp)
  have hlt := errT_pos hg
  have hg2 : ((w.alloc (.cells #[.pointer (some p)] 55)).alloc (.cells #[.pointer (some ⟨4, 55, none⟩), .pointer (some ⟨w.heap.size, 0, none⟩), .int .u64 150] 72)).cell? ⟨0, 0, none⟩ = some (.iface 80 (.agg #[.pointer (some ⟨4, 25, none⟩)])) := by
    rw [World.cell?_alloc_lt _ _ ⟨0, 0, none⟩ (Nat.lt_of_lt_of_le hlt (by simp)), World.cell?_alloc_lt _ _ ⟨0, 0, none⟩ hlt]; exact hg
  clear hg
  go_enter Tryd.func25, Tryd.ntmps25
  go_wp2_with (first | (go_at_call 35; refine has.mono ?_; rintro r w' ⟨b, rfl, hR⟩))
  go_ret
  exact ⟨_, rfl, hR⟩

set_option maxHeartbeats 1600000 in
set_option maxRecDepth 100000 in
theorem As_nn (t : TypeId) (x : Value) (p : Addr) (w : World) (R : Bool → World → Prop) (hg : ErrT w)
    (has : Calls Tryd.prog 35 #[.iface t x, .iface 56 (.pointer (some p)), .agg #[.pointer (some ⟨4, 56, none⟩), .pointer (some ⟨w.heap.size, 0, none⟩), .int .u64 150], .iface 80 (.agg #[.pointer (some ⟨4, 37, none⟩)])] ((w.alloc (.cells #[.pointer (some p)] 56)).alloc (.cells #[.pointer (some ⟨4, 56, none⟩), .pointer (some ⟨w.heap.size, 0, none⟩), .int .u64 150] 72)) fun r w' => ∃ b, r = .returned (.bool b) ∧ R b w') :
    Calls Tryd.prog 25 #[.iface t x, .iface 56 (.pointer (some p))] w fun r w' => ∃ b, r = .returned (.bool b) ∧ R b w' := by
  have k0 := xValueOf
  have k1 := xType
  have k2 := xIsNil
  have k3 := xKind
  have k4 := xElem
  have k5 := xImplements
  have k6 := mKind
  have k7 := mElem
  have k8 := mImplements
  have k9 := valueOfNN
  have k10 := typeNN
  have k11 := kindNN
  have k12 := kindN
  have k13 := elemNN
  have k14 := implementsN
  have n8 := isNilNN ⟨w.heap.size, 0, none⟩ p ((w.alloc (.cells #[.pointer (some p)] 56)).alloc (.cells #[.pointer (some ⟨4, 56, none⟩), .pointer (some ⟨w.heap.size, 0, none⟩), .int .u64 150] 72)) (by rw [World.cell?_alloc_lt _ _ ⟨w.heap.size, 0, none⟩ (by simp)]; simp)
  have hlt := errT_pos hg
  have hg2 : ((w.alloc (.cells #[.pointer (some p)] 56)).alloc (.cells #[.pointer (some ⟨4, 56, none⟩), .pointer (some ⟨w.heap.size, 0, none⟩), .int .u64 150] 72)).cell? ⟨0, 0, none⟩ = some (.iface 80 (.agg #[.pointer (some ⟨4, 25, none⟩)])) := by
    rw [World.cell?_alloc_lt _ _ ⟨0, 0, none⟩ (Nat.lt_of_lt_of_le hlt (by simp)), World.cell?_alloc_lt _ _ ⟨0, 0, none⟩ hlt]; exact hg
  clear hg
  go_enter Tryd.func25, Tryd.ntmps25
  go_wp2_with (first | (go_at_call 35; refine has.mono ?_; rintro r w' ⟨b, rfl, hR⟩))
  go_ret
  exact ⟨_, rfl, hR⟩

end Go.Proofs.YtngaimandbcpbaaDoor
