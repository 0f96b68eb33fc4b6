/- Layer 7: errors.Is over a chain of wrappings, its target a number. -/
import Derived.Test.YtngaimandbcpbaaDoorFb
import Derived.Lib.Hide
namespace Go.Proofs.YtngaimandbcpbaaDoor
set_option linter.unusedVariables false
set_option linter.unusedSimpArgs false
open Go.RowKit Go.Extern.Stop Go.Stop Go.Extern

theorem eqlN (e k : Int) (w : World) : (binOp .eql 25 (.iface 37 (.int .i64 e)) (.iface 37 (.int .i64 k))).run Tryd.prog w = .ok (.bool (e == k)) w := by kernel_rfl
theorem eqlW (x y : Value) (w : World) : (binOp .eql 25 (.iface 51 x) (.iface 37 y)).run Tryd.prog w = .ok (.bool false) w := run_eql_iface_types _ _ _ _ Tryd.underlying25 (by decide) w
theorem eqlP (x y : Value) (w : World) : (binOp .eql 25 (.iface 44 x) (.iface 37 y)).run Tryd.prog w = .ok (.bool false) w := run_eql_iface_types _ _ _ _ Tryd.underlying25 (by decide) w

set_option maxHeartbeats 1600000 in
theorem is_walk (n : Nat) (t : TypeId) (x : Value) (e k : Int) (w : World) (h : Leads w n t x e) :
    Calls Tryd.prog 28 #[.iface t x, .iface 37 (.int .i64 k), .bool true] w fun r w' => r = .returned (.bool (e == k)) ∧ w' = w := by
  have q1 := eqlN
  have q2 := eqlW
  have q3 := eqlP
  have i1 := noIsN
  have i2 := noIsP
  have i3 := noIsW
  have u1 := noUnN
  have u2 := noUsN
  have u3 := unP
  have u4 := unW
  have m1 := mUnwrapW
  have m2 := mUnwrapP
  go_enter Tryd.func28, Tryd.ntmps28
  go_wp2
  go_loopg [0] n (fun k' v wr => ∃ t' x', v = .iface t' x' ∧ Leads w k' t' x' e ∧ wr = w)
  case atStart => exact ⟨t, x, rfl, h, rfl⟩
  case round =>
    obtain ⟨t', x', rfl, hl, rfl⟩ := hrel
    cases gk with
    | zero =>
      obtain ⟨rfl, rfl⟩ := hl
      cases hb : (e == k)
      · have hh := Lib.hid hb
        go_wp2
        go_ret
        exact ⟨by rw [hh.out]; rfl, rfl⟩
      · have hh := Lib.hid hb
        go_wp2
        go_ret
        exact ⟨by rw [hh.out]; rfl, rfl⟩
    | succ gk =>
      rcases hl with ⟨rfl, g, t2, x2, rfl, hc, hg, hl⟩ | ⟨rfl, g, rfl, hl⟩
      · have HL := Lib.hid hl
        clear hl
        go_wp2_with (first | (go_at_call 71; refine (unwrapW _ _ _ _ hc).mono ?_; rintro e w' ⟨rfl, rfl⟩))
        go_roundg gk
        case measure => omega
        case rel => exact ⟨t2, x2, rfl, HL.out, rfl⟩
      · have HL := Lib.hid hl
        clear hl
        go_wp2_with (first | (go_at_call 20; refine (unwrapP _ _).mono ?_; rintro e w' ⟨rfl, rfl⟩))
        go_roundg gk
        case measure => omega
        case rel => exact ⟨_, _, rfl, HL.out, rfl⟩

set_option maxRecDepth 100000 in
theorem is_any (n : Nat) (t : TypeId) (x : Value) (e k : Int) (w : World) (h : Leads w n t x e) :
    Calls Tryd.prog 17 #[.iface t x, .iface 37 (.int .i64 k)] w fun r w' => r = .returned (.bool (e == k)) ∧ w' = w := by
  have x1 := xTypeOf
  have x2 := xComparable
  have f1 := typeOfN
  have f2 := mComparable
  have f3 := comparableN
  go_enter Tryd.func17, Tryd.ntmps17
  go_wp2_with (first | (go_at_call 28; refine (is_walk n _ _ e _ _ h).mono ?_; rintro r w' ⟨rfl, rfl⟩))
  go_ret
  exact ⟨rfl, rfl⟩
end Go.Proofs.YtngaimandbcpbaaDoor
