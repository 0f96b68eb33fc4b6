/- Layer 7: errors in memory: what wraps what; package fault's makers; errors.is and errors.as over a chain of wrappings. -/
import Derived.Test.YtngaimandbcpbaaDoorFa
import Derived.Test.YtngaimandbcpbaaDoorKp
import Derived.Deep.LoopGhost
namespace Go.Proofs.YtngaimandbcpbaaDoor
set_option linter.unusedVariables false
set_option linter.unusedSimpArgs false
open Go.RowKit Go.Extern.Stop Go.Stop Go.Extern

/-- the error (t, x) is (tb, xb), wrapped n times -/
def Wraps (w : World) : Nat → TypeId → Value → TypeId → Value → Prop
  | 0, t, x, tb, xb => t = tb ∧ x = xb
  | n + 1, t, x, tb, xb => t = 51 ∧ ∃ (g t' : Nat) (x' : Value), x = .pointer (some ⟨g, 0, none⟩) ∧ w.cell? ⟨g, 1, none⟩ = some (.iface t' x') ∧ g < w.heap.size ∧ Wraps w n t' x' tb xb

/-- the error (t, x) leads, by what it wraps, to the number e -/
def Leads (w : World) : Nat → TypeId → Value → Int → Prop
  | 0, t, x, e => t = 37 ∧ x = .int .i64 e
  | n + 1, t, x, e => (t = 51 ∧ ∃ (g t' : Nat) (x' : Value), x = .pointer (some ⟨g, 0, none⟩) ∧ w.cell? ⟨g, 1, none⟩ = some (.iface t' x') ∧ g < w.heap.size ∧ Leads w n t' x' e) ∨
      (t = 44 ∧ ∃ g : Nat, x = .pointer (some ⟨g, 0, none⟩) ∧ Leads w n 37 (.int .i64 4) e)

theorem wraps_keep {w w' : World} (hk : Kept w w') : ∀ {n : Nat} {t tb : TypeId} {x xb : Value}, Wraps w n t x tb xb → Wraps w' n t x tb xb
  | 0, _, _, _, _, h => h
  | n + 1, _, _, _, _, h => by
    obtain ⟨h0, g, t', x', h1, h2, h3, h4⟩ := h
    exact ⟨h0, g, t', x', h1, hk.cell h2 h3, Nat.lt_of_lt_of_le h3 hk.size, wraps_keep hk h4⟩

theorem leads_keep {w w' : World} (hk : Kept w w') : ∀ {n : Nat} {t : TypeId} {x : Value} {e : Int}, Leads w n t x e → Leads w' n t x e
  | 0, _, _, _, h => h
  | n + 1, _, _, _, h => by
    rcases h with ⟨h0, g, t', x', h1, h2, h3, h4⟩ | ⟨h0, g, h1, h4⟩
    · exact Or.inl ⟨h0, g, t', x', h1, hk.cell h2 h3, Nat.lt_of_lt_of_le h3 hk.size, leads_keep hk h4⟩
    · exact Or.inr ⟨h0, g, h1, leads_keep hk h4⟩

theorem kept_alloc (w : World) (o : Obj) : Kept w (w.alloc o) := (Below.refl _ _).alloc (Nat.le_refl _) _

theorem at_any (addr code : Int) (w : World) : Calls Tryd.prog 10 #[.int .u64 addr, .int .i64 code] w fun e w' => e = .returned (.iface 44 (.pointer (some ⟨w.heap.size, 0, none⟩))) ∧ w' = w.alloc (.cells #[.int .u64 addr, .int .i64 code] 34) := by
  go_enter Tryd.func10, Tryd.ntmps10
  go_wp2
  go_ret
  exact ⟨rfl, rfl⟩

theorem wrap_any (s : ByteArray) (t : TypeId) (x : Value) (w : World) : Calls Tryd.prog 13 #[.string s, .iface t x] w fun e w' => e = .returned (.iface 51 (.pointer (some ⟨w.heap.size, 0, none⟩))) ∧ w' = w.alloc (.cells #[.string s, .iface t x] 53) := by
  go_enter Tryd.func13, Tryd.ntmps13
  go_wp2
  go_ret
  exact ⟨rfl, rfl⟩

theorem gp_any (s : ByteArray) (w : World) : Calls Tryd.prog 14 #[.string s] w fun e w' => e = .returned (.iface 51 (.pointer (some ⟨w.heap.size, 0, none⟩))) ∧ w' = w.alloc (.cells #[.string s, .iface 37 (.int .i64 5)] 53) := by
  go_enter Tryd.func14, Tryd.ntmps14
  go_wp2_with (first | (go_at_call 13; refine (wrap_any _ _ _ _).mono ?_; rintro e w' ⟨rfl, rfl⟩))
  go_ret
  exact ⟨rfl, rfl⟩

theorem unwrapW (g t : Nat) (x : Value) (w : World) (h : w.cell? ⟨g, 1, none⟩ = some (.iface t x)) : Calls Tryd.prog 71 #[.pointer (some ⟨g, 0, none⟩)] w fun e w' => e = .returned (.iface t x) ∧ w' = w := by
  go_enter Tryd.func71, Tryd.ntmps71
  go_wp2
  go_ret
  exact ⟨rfl, rfl⟩

theorem unwrapP (g : Nat) (w : World) : Calls Tryd.prog 20 #[.pointer (some ⟨g, 0, none⟩)] w fun e w' => e = .returned (.iface 37 (.int .i64 4)) ∧ w' = w := by
  go_enter Tryd.func20, Tryd.ntmps20
  go_wp2
  go_ret
  exact ⟨rfl, rfl⟩
end Go.Proofs.YtngaimandbcpbaaDoor
