/- Several texts of ours in one: Fc, Fd, Fe. -/
import Derived.Test.YtopmmlcjlopmaaaGreatDoorGKpFbFh
import Derived.Lib.Hide
/- Layer 7: errors.Is over a chain of wrappings, its target a number. -/
namespace Go.Proofs.YtopmmlcjlopmaaaGreatDoor
set_option linter.unusedVariables false
set_option linter.unusedSimpArgs false
open Go.RowKit Go.Extern.Stop Go.Stop Go.Extern

theorem eqlN (e k : Int) (w : World) : (binOp .eql 39 (.iface 69 (.int .i64 e)) (.iface 69 (.int .i64 k))).run Tryz.prog w = .ok (.bool (e == k)) w := by kernel_rfl
theorem eqlW (x y : Value) (w : World) : (binOp .eql 39 (.iface 165 x) (.iface 69 y)).run Tryz.prog w = .ok (.bool false) w := run_eql_iface_types _ _ _ _ Tryz.underlying39 (by decide) w
theorem eqlP (x y : Value) (w : World) : (binOp .eql 39 (.iface 111 x) (.iface 69 y)).run Tryz.prog w = .ok (.bool false) w := run_eql_iface_types _ _ _ _ Tryz.underlying39 (by decide) w

set_option maxHeartbeats 1600000 in
theorem is_walk (n : Nat) (t : TypeId) (x : Value) (e k : Int) (w : World) (h : Leads w n t x e) :
    Calls Tryz.prog 90 #[.iface t x, .iface 69 (.int .i64 k), .bool true] w fun r w' => r = .returned (.bool (e == k)) ∧ w' = w := by
  have q1 := eqlN
  have q2 := eqlW
  have q3 := eqlP
  have i1 := noIsN
  have i2 := noIsP
  have i3 := noIsW
  have u1 := noUnN
  have u2 := noUsN
  have u3 := unP
  have u4 := unW
  have m1 := mUnwrapW
  have m2 := mUnwrapP
  go_enter Tryz.func90, Tryz.ntmps90
  go_wp2
  go_loopg [0] n (fun k' v wr => ∃ t' x', v = .iface t' x' ∧ Leads w k' t' x' e ∧ wr = w)
  case atStart => exact ⟨t, x, rfl, h, rfl⟩
  case round =>
    obtain ⟨t', x', rfl, hl, rfl⟩ := hrel
    cases gk with
    | zero =>
      obtain ⟨rfl, rfl⟩ := hl
      cases hb : (e == k)
      · have hh := Lib.hid hb
        go_wp2
        go_ret
        exact ⟨by rw [hh.out]; rfl, rfl⟩
      · have hh := Lib.hid hb
        go_wp2
        go_ret
        exact ⟨by rw [hh.out]; rfl, rfl⟩
    | succ gk =>
      rcases hl with ⟨rfl, g, t2, x2, rfl, hc, hg, hl⟩ | ⟨rfl, g, rfl, hl⟩
      · have HL := Lib.hid hl
        clear hl
        go_wp2_with (first | (go_at_call 167; refine (unwrapW _ _ _ _ hc).mono ?_; rintro e w' ⟨rfl, rfl⟩))
        go_roundg gk
        case measure => omega
        case rel => exact ⟨t2, x2, rfl, HL.out, rfl⟩
      · have HL := Lib.hid hl
        clear hl
        go_wp2_with (first | (go_at_call 162; refine (unwrapP _ _).mono ?_; rintro e w' ⟨rfl, rfl⟩))
        go_roundg gk
        case measure => omega
        case rel => exact ⟨_, _, rfl, HL.out, rfl⟩

set_option maxRecDepth 100000 in
theorem eis_any (n : Nat) (t : TypeId) (x : Value) (e k : Int) (w : World) (h : Leads w n t x e) :
    Calls Tryz.prog 43 #[.iface t x, .iface 69 (.int .i64 k)] w fun r w' => r = .returned (.bool (e == k)) ∧ w' = w := by
  have x1 := xTypeOf
  have x2 := xComparable
  have f1 := typeOfN
  have f2 := mComparable
  have f3 := comparableN
  go_enter Tryz.func43, Tryz.ntmps43
  go_wp2_with (first | (go_at_call 90; refine (is_walk n _ _ e _ _ h).mono ?_; rintro r w' ⟨rfl, rfl⟩))
  go_ret
  exact ⟨rfl, rfl⟩
end Go.Proofs.YtopmmlcjlopmaaaGreatDoor
/- Layer 7: errors.as over a chain of wrappings, its target a *Page or a number. -/
namespace Go.Proofs.YtopmmlcjlopmaaaGreatDoor
set_option linter.unusedVariables false
set_option linter.unusedSimpArgs false
open Go.RowKit Go.Extern.Stop Go.Stop Go.Extern

theorem frozen_alloc_old (w : World) (o : Obj) (p : Addr) (h : p.block < w.heap.size) : (w.alloc o).frozen? p = w.frozen? p := World.frozen?_alloc_old _ _ p (Nat.ne_of_lt h)

set_option maxHeartbeats 1600000 in
/-- the page is found -/
theorem as_page (n : Nat) (t : TypeId) (x : Value) (g : Nat) (a p : Addr) (old : Value) (w : World) (h : Wraps w n t x 111 (.pointer (some ⟨g, 0, none⟩)))
    (ha : w.cell? a = some (.pointer (some p))) (hp : w.cell? p = some old) (hf : w.frozen? p = false) (la : a.block < w.heap.size) (lp : p.block < w.heap.size) :
    Calls Tryz.prog 88 #[.iface t x, .iface 113 (.pointer (some p)), .agg #[.pointer (some ⟨2, 113, none⟩), .pointer (some a), .int .u64 150], .iface 178 (.agg #[.pointer (some ⟨2, 111, none⟩)])] w fun r w' => r = .returned (.bool true) ∧
      w' = ((w.alloc (.cells #[.pointer (some ⟨2, 113, none⟩), .pointer (some a), .int .u64 150] 146)).alloc (.cells #[.pointer (some ⟨g, 0, none⟩)] 111)).setCell p (.pointer (some ⟨g, 0, none⟩)) := by
  have x1 := xTypeOf
  have x2 := xAssignableTo
  have x3 := xElemV
  have x4 := xValueOf
  have x5 := xSet
  have o1 := typeOfP
  have o2 := typeOfW
  have s1 := assPP
  have s2 := assWP
  have i1 := noAsW
  have u4 := unW
  have m1 := mUnwrapW
  have m2 := mAssignableTo
  have v1 := valueOfP
  have el := elemVPP a p (w.alloc (.cells #[.pointer (some ⟨2, 113, none⟩), .pointer (some a), .int .u64 150] 146)) (by rw [World.cell?_alloc_lt _ _ a la]; exact ha)
  have st := setP p ⟨w.heap.size + 1, 0, none⟩ ⟨g, 0, none⟩ old ((w.alloc (.cells #[.pointer (some ⟨2, 113, none⟩), .pointer (some a), .int .u64 150] 146)).alloc (.cells #[.pointer (some ⟨g, 0, none⟩)] 111))
    (by rw [World.cell?_alloc_at _ _ _ _ (by simp)]; rfl)
    (by rw [World.cell?_alloc_lt _ _ p (by simp; omega), World.cell?_alloc_lt _ _ p lp]; exact hp)
    (by rw [frozen_alloc_old _ _ p (by simp; omega), frozen_alloc_old _ _ p lp]; exact hf)
  go_enter Tryz.func88, Tryz.ntmps88
  go_wp2
  go_loopg [0] n (fun k' v wr => ∃ t' x', v = .iface t' x' ∧ Wraps w k' t' x' 111 (.pointer (some ⟨g, 0, none⟩)) ∧ wr = (w.alloc (.cells #[.pointer (some ⟨2, 113, none⟩), .pointer (some a), .int .u64 150] 146)))
  case atStart => exact ⟨t, x, rfl, h, rfl⟩
  case round =>
    obtain ⟨t', x', rfl, hl, rfl⟩ := hrel
    cases gk with
    | zero =>
      obtain ⟨rfl, rfl⟩ := hl
      go_wp2
      go_ret
      exact ⟨rfl, rfl⟩
    | succ gk =>
      obtain ⟨rfl, g2, t2, x2, rfl, hc, hg, hl⟩ := hl
      have HL := Lib.hid hl
      clear hl
      have hc2 : (w.alloc (.cells #[.pointer (some ⟨2, 113, none⟩), .pointer (some a), .int .u64 150] 146)).cell? ⟨g2, 1, none⟩ = some (.iface t2 x2) := by rw [World.cell?_alloc_lt _ _ ⟨g2, 1, none⟩ hg]; exact hc
      clear hc
      go_wp2_with (first | (go_at_call 167; refine (unwrapW _ _ _ _ hc2).mono ?_; rintro e w' ⟨rfl, rfl⟩))
      go_roundg gk
      case measure => omega
      case rel => exact ⟨t2, x2, rfl, HL.out, rfl⟩
end Go.Proofs.YtopmmlcjlopmaaaGreatDoor
/- Layer 7: errors.as: in an error that leads to a number by wrappings alone there is no page. -/
namespace Go.Proofs.YtopmmlcjlopmaaaGreatDoor
set_option linter.unusedVariables false
set_option linter.unusedSimpArgs false
open Go.RowKit Go.Extern.Stop Go.Stop Go.Extern

set_option maxHeartbeats 1600000 in
/-- no page -/
theorem as_nopage (n : Nat) (t : TypeId) (x : Value) (e : Int) (a p : Addr) (w : World) (h : Wraps w n t x 69 (.int .i64 e)) :
    Calls Tryz.prog 88 #[.iface t x, .iface 113 (.pointer (some p)), .agg #[.pointer (some ⟨2, 113, none⟩), .pointer (some a), .int .u64 150], .iface 178 (.agg #[.pointer (some ⟨2, 111, none⟩)])] w fun r w' => r = .returned (.bool false) ∧ w' = (w.alloc (.cells #[.pointer (some ⟨2, 113, none⟩), .pointer (some a), .int .u64 150] 146)) := by
  have k0 := xTypeOf
  have k1 := xAssignableTo
  have k2 := typeOfN
  have k3 := typeOfW
  have k4 := assNP
  have k5 := assWP
  have k6 := noAsW
  have k7 := noAsN
  have k8 := unW
  have k9 := noUnN
  have k10 := noUsN
  have k11 := mUnwrapW
  have k12 := mAssignableTo
  go_enter Tryz.func88, Tryz.ntmps88
  go_wp2
  go_loopg [0] n (fun k' v wr => ∃ t' x', v = .iface t' x' ∧ Wraps w k' t' x' 69 (.int .i64 e) ∧ wr = (w.alloc (.cells #[.pointer (some ⟨2, 113, none⟩), .pointer (some a), .int .u64 150] 146)))
  case atStart => exact ⟨t, x, rfl, h, rfl⟩
  case round =>
    obtain ⟨t', x', rfl, hl, rfl⟩ := hrel
    cases gk with
    | zero =>
      obtain ⟨rfl, rfl⟩ := hl
      go_wp2
      go_ret
      exact ⟨rfl, rfl⟩
    | succ gk =>
      obtain ⟨rfl, g2, t2, x2, rfl, hc, hg, hl⟩ := hl
      have HL := Lib.hid hl
      clear hl
      have hc2 : (w.alloc (.cells #[.pointer (some ⟨2, 113, none⟩), .pointer (some a), .int .u64 150] 146)).cell? ⟨g2, 1, none⟩ = some (.iface t2 x2) := by rw [World.cell?_alloc_lt _ _ ⟨g2, 1, none⟩ hg]; exact hc
      clear hc
      go_wp2_with (first | (go_at_call 167; refine (unwrapW _ _ _ _ hc2).mono ?_; rintro e w' ⟨rfl, rfl⟩))
      go_roundg gk
      case measure => omega
      case rel => exact ⟨t2, x2, rfl, HL.out, rfl⟩
end Go.Proofs.YtopmmlcjlopmaaaGreatDoor
