/- Layer 7: errors.as over a chain of wrappings, its target a *Page or a number. -/
import Derived.Test.YtngaimandbcpbaaDoorFb
import Derived.Lib.Hide
namespace Go.Proofs.YtngaimandbcpbaaDoor
set_option linter.unusedVariables false
set_option linter.unusedSimpArgs false
open Go.RowKit Go.Extern.Stop Go.Stop Go.Extern

theorem frozen_alloc_old (w : World) (o : Obj) (p : Addr) (h : p.block < w.heap.size) : (w.alloc o).frozen? p = w.frozen? p := World.frozen?_alloc_old _ _ p (Nat.ne_of_lt h)

set_option maxHeartbeats 1600000 in
/-- the page is found -/
theorem as_page (n : Nat) (t : TypeId) (x : Value) (g : Nat) (a p : Addr) (old : Value) (w : World) (h : Wraps w n t x 44 (.pointer (some ⟨g, 0, none⟩)))
    (ha : w.cell? a = some (.pointer (some p))) (hp : w.cell? p = some old) (hf : w.frozen? p = false) (la : a.block < w.heap.size) (lp : p.block < w.heap.size) :
    Calls Tryd.prog 35 #[.iface t x, .iface 55 (.pointer (some p)), .agg #[.pointer (some ⟨4, 55, none⟩), .pointer (some a), .int .u64 150], .iface 80 (.agg #[.pointer (some ⟨4, 44, none⟩)])] w fun r w' => r = .returned (.bool true) ∧
      w' = ((w.alloc (.cells #[.pointer (some ⟨4, 55, none⟩), .pointer (some a), .int .u64 150] 72)).alloc (.cells #[.pointer (some ⟨g, 0, none⟩)] 44)).setCell p (.pointer (some ⟨g, 0, none⟩)) := by
  have x1 := xTypeOf
  have x2 := xAssignableTo
  have x3 := xElemV
  have x4 := xValueOf
  have x5 := xSet
  have o1 := typeOfP
  have o2 := typeOfW
  have s1 := assPP
  have s2 := assWP
  have i1 := noAsW
  have u4 := unW
  have m1 := mUnwrapW
  have m2 := mAssignableTo
  have v1 := valueOfP
  have el := elemVPP a p (w.alloc (.cells #[.pointer (some ⟨4, 55, none⟩), .pointer (some a), .int .u64 150] 72)) (by rw [World.cell?_alloc_lt _ _ a la]; exact ha)
  have st := setP p ⟨w.heap.size + 1, 0, none⟩ ⟨g, 0, none⟩ old ((w.alloc (.cells #[.pointer (some ⟨4, 55, none⟩), .pointer (some a), .int .u64 150] 72)).alloc (.cells #[.pointer (some ⟨g, 0, none⟩)] 44))
    (by rw [World.cell?_alloc_at _ _ _ _ (by simp)]; rfl)
    (by rw [World.cell?_alloc_lt _ _ p (by simp; omega), World.cell?_alloc_lt _ _ p lp]; exact hp)
    (by rw [frozen_alloc_old _ _ p (by simp; omega), frozen_alloc_old _ _ p lp]; exact hf)
  go_enter Tryd.func35, Tryd.ntmps35
  go_wp2
  go_loopg [0] n (fun k' v wr => ∃ t' x', v = .iface t' x' ∧ Wraps w k' t' x' 44 (.pointer (some ⟨g, 0, none⟩)) ∧ wr = (w.alloc (.cells #[.pointer (some ⟨4, 55, none⟩), .pointer (some a), .int .u64 150] 72)))
  case atStart => exact ⟨t, x, rfl, h, rfl⟩
  case round =>
    obtain ⟨t', x', rfl, hl, rfl⟩ := hrel
    cases gk with
    | zero =>
      obtain ⟨rfl, rfl⟩ := hl
      go_wp2
      go_ret
      exact ⟨rfl, rfl⟩
    | succ gk =>
      obtain ⟨rfl, g2, t2, x2, rfl, hc, hg, hl⟩ := hl
      have HL := Lib.hid hl
      clear hl
      have hc2 : (w.alloc (.cells #[.pointer (some ⟨4, 55, none⟩), .pointer (some a), .int .u64 150] 72)).cell? ⟨g2, 1, none⟩ = some (.iface t2 x2) := by rw [World.cell?_alloc_lt _ _ ⟨g2, 1, none⟩ hg]; exact hc
      clear hc
      go_wp2_with (first | (go_at_call 71; refine (unwrapW _ _ _ _ hc2).mono ?_; rintro e w' ⟨rfl, rfl⟩))
      go_roundg gk
      case measure => omega
      case rel => exact ⟨t2, x2, rfl, HL.out, rfl⟩
end Go.Proofs.YtngaimandbcpbaaDoor
