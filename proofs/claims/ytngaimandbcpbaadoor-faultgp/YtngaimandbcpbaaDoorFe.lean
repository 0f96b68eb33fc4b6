/- Layer 7: errors.as: in an error that leads to a number by wrappings alone there is no page. -/
import Derived.Test.YtngaimandbcpbaaDoorFb
import Derived.Lib.Hide
namespace Go.Proofs.YtngaimandbcpbaaDoor
set_option linter.unusedVariables false
set_option linter.unusedSimpArgs false
open Go.RowKit Go.Extern.Stop Go.Stop Go.Extern

set_option maxHeartbeats 1600000 in
/-- no page -/
theorem as_nopage (n : Nat) (t : TypeId) (x : Value) (e : Int) (a p : Addr) (w : World) (h : Wraps w n t x 37 (.int .i64 e)) :
    Calls Tryd.prog 35 #[.iface t x, .iface 55 (.pointer (some p)), .agg #[.pointer (some ⟨4, 55, none⟩), .pointer (some a), .int .u64 150], .iface 80 (.agg #[.pointer (some ⟨4, 44, none⟩)])] w fun r w' => r = .returned (.bool false) ∧ w' = (w.alloc (.cells #[.pointer (some ⟨4, 55, none⟩), .pointer (some a), .int .u64 150] 72)) := by
  have k0 := xTypeOf
  have k1 := xAssignableTo
  have k2 := typeOfN
  have k3 := typeOfW
  have k4 := assNP
  have k5 := assWP
  have k6 := noAsW
  have k7 := noAsN
  have k8 := unW
  have k9 := noUnN
  have k10 := noUsN
  have k11 := mUnwrapW
  have k12 := mAssignableTo
  go_enter Tryd.func35, Tryd.ntmps35
  go_wp2
  go_loopg [0] n (fun k' v wr => ∃ t' x', v = .iface t' x' ∧ Wraps w k' t' x' 37 (.int .i64 e) ∧ wr = (w.alloc (.cells #[.pointer (some ⟨4, 55, none⟩), .pointer (some a), .int .u64 150] 72)))
  case atStart => exact ⟨t, x, rfl, h, rfl⟩
  case round =>
    obtain ⟨t', x', rfl, hl, rfl⟩ := hrel
    cases gk with
    | zero =>
      obtain ⟨rfl, rfl⟩ := hl
      go_wp2
      go_ret
      exact ⟨rfl, rfl⟩
    | succ gk =>
      obtain ⟨rfl, g2, t2, x2, rfl, hc, hg, hl⟩ := hl
      have HL := Lib.hid hl
      clear hl
      have hc2 : (w.alloc (.cells #[.pointer (some ⟨4, 55, none⟩), .pointer (some a), .int .u64 150] 72)).cell? ⟨g2, 1, none⟩ = some (.iface t2 x2) := by rw [World.cell?_alloc_lt _ _ ⟨g2, 1, none⟩ hg]; exact hc
      clear hc
      go_wp2_with (first | (go_at_call 71; refine (unwrapW _ _ _ _ hc2).mono ?_; rintro e w' ⟨rfl, rfl⟩))
      go_roundg gk
      case measure => omega
      case rel => exact ⟨t2, x2, rfl, HL.out, rfl⟩
end Go.Proofs.YtngaimandbcpbaaDoor
