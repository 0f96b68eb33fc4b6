/- Layer 7: errors.as: the number to which an error leads is found. -/
import Derived.Test.YtngaimandbcpbaaDoorFb
import Derived.Test.YtngaimandbcpbaaDoorFd
import Derived.Lib.Hide
namespace Go.Proofs.YtngaimandbcpbaaDoor
set_option linter.unusedVariables false
set_option linter.unusedSimpArgs false
open Go.RowKit Go.Extern.Stop Go.Stop Go.Extern

set_option maxHeartbeats 1600000 in
/-- the number is found -/
theorem as_num (n : Nat) (t : TypeId) (x : Value) (e : Int) (a p : Addr) (old : Value) (w : World) (h : Leads w n t x e)
    (ha : w.cell? a = some (.pointer (some p))) (hp : w.cell? p = some old) (hf : w.frozen? p = false) (la : a.block < w.heap.size) (lp : p.block < w.heap.size) :
    Calls Tryd.prog 35 #[.iface t x, .iface 56 (.pointer (some p)), .agg #[.pointer (some ⟨4, 56, none⟩), .pointer (some a), .int .u64 150], .iface 80 (.agg #[.pointer (some ⟨4, 37, none⟩)])] w fun r w' => r = .returned (.bool true) ∧
      w' = ((w.alloc (.cells #[.pointer (some ⟨4, 56, none⟩), .pointer (some a), .int .u64 150] 72)).alloc (.cells #[.int .i64 e] 37)).setCell p (.int .i64 e) := by
  have k0 := xTypeOf
  have k1 := xAssignableTo
  have k2 := xElemV
  have k3 := xValueOf
  have k4 := xSet
  have k5 := typeOfP
  have k6 := typeOfW
  have k7 := typeOfN
  have k8 := assNN
  have k9 := assWN
  have k10 := assPN
  have k11 := noAsW
  have k12 := noAsP
  have k13 := unW
  have k14 := unP
  have k15 := mUnwrapW
  have k16 := mUnwrapP
  have k17 := mAssignableTo
  have k18 := valueOfN
  have el := elemVNN a p (w.alloc (.cells #[.pointer (some ⟨4, 56, none⟩), .pointer (some a), .int .u64 150] 72)) (by rw [World.cell?_alloc_lt _ _ a la]; exact ha)
  have st := setN p ⟨w.heap.size + 1, 0, none⟩ e old ((w.alloc (.cells #[.pointer (some ⟨4, 56, none⟩), .pointer (some a), .int .u64 150] 72)).alloc (.cells #[.int .i64 e] 37))
    (by rw [World.cell?_alloc_at _ _ _ _ (by simp)]; rfl)
    (by rw [World.cell?_alloc_lt _ _ p (by simp; omega), World.cell?_alloc_lt _ _ p lp]; exact hp)
    (by rw [frozen_alloc_old _ _ p (by simp; omega), frozen_alloc_old _ _ p lp]; exact hf)
  go_enter Tryd.func35, Tryd.ntmps35
  go_wp2
  go_loopg [0] n (fun k' v wr => ∃ t' x', v = .iface t' x' ∧ Leads w k' t' x' e ∧ wr = (w.alloc (.cells #[.pointer (some ⟨4, 56, none⟩), .pointer (some a), .int .u64 150] 72)))
  case atStart => exact ⟨t, x, rfl, h, rfl⟩
  case round =>
    obtain ⟨t', x', rfl, hl, rfl⟩ := hrel
    cases gk with
    | zero =>
      obtain ⟨rfl, rfl⟩ := hl
      go_wp2
      go_ret
      exact ⟨rfl, rfl⟩
    | succ gk =>
     rcases hl with ⟨rfl, g2, t2, x2, rfl, hc, hg, hl⟩ | ⟨rfl, g2, rfl, hl⟩
     · skip
       have HL := Lib.hid hl
       clear hl
       have hc2 : (w.alloc (.cells #[.pointer (some ⟨4, 56, none⟩), .pointer (some a), .int .u64 150] 72)).cell? ⟨g2, 1, none⟩ = some (.iface t2 x2) := by rw [World.cell?_alloc_lt _ _ ⟨g2, 1, none⟩ hg]; exact hc
       clear hc
       go_wp2_with (first | (go_at_call 71; refine (unwrapW _ _ _ _ hc2).mono ?_; rintro e w' ⟨rfl, rfl⟩))
       go_roundg gk
       case measure => omega
       case rel => exact ⟨t2, x2, rfl, HL.out, rfl⟩
     · have HL := Lib.hid hl
       clear hl
       go_wp2_with (first | (go_at_call 20; refine (unwrapP _ _).mono ?_; rintro e w' ⟨rfl, rfl⟩))
       go_roundg gk
       case measure => omega
       case rel => exact ⟨_, _, rfl, HL.out, rfl⟩
end Go.Proofs.YtngaimandbcpbaaDoor
