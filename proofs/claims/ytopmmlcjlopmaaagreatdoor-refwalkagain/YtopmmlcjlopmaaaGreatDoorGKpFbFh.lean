/- Several texts of ours in one: Kp, Fb, Fh. -/
import Derived.WalkKit
import Derived.ProofKit
import Derived.Below
import Derived.Test.YtopmmlcjlopmaaaGreatDoorGVjTdFa
import Derived.Deep.LoopGhost
import Derived.Lib.Hide
/- What was there has not turned: Below, behind a name of its own. Nothing of the program. -/
namespace Go.Proofs.YtopmmlcjlopmaaaGreatDoor
set_option linter.unusedVariables false
set_option linter.unusedSimpArgs false
open Go.ChangeShapes Go.WideShapes Go.ChangeAt Go.RowKit

/-- nothing that was there has turned -/
def Kept (w w' : World) : Prop := Below w.heap.size w w'
theorem Kept.drew0 (w : World) : Kept w w.drew := (Below.refl _ _).drew
theorem calls_kept {P : Program} {f : FuncId} {args : Array Value} {w : World} {v : Value} (h : Calls P f args w fun e w' => e = .returned v ∧ Below w.heap.size w w') : Calls P f args w fun e w' => e = .returned v ∧ Kept w w' := h
theorem Kept.step {w w' w2 : World} (hb : Kept w' w2) (h : Kept w w') : Kept w w2 := Below.trans h (Below.mono hb h.size)
theorem Kept.cell {w w' : World} (h : Kept w w') {p : Addr} {v : Value} (hc : w.cell? p = some v) (hp : p.block < w.heap.size) : w'.cell? p = some v := (Below.cell h hp).trans hc
theorem Kept.size {w w' : World} (h : Kept w w') : w.heap.size ≤ w'.heap.size := Below.size h

end Go.Proofs.YtopmmlcjlopmaaaGreatDoor
/- Layer 7: errors in memory: what wraps what; package fault's makers; errors.is and errors.as over a chain of wrappings. -/
namespace Go.Proofs.YtopmmlcjlopmaaaGreatDoor
set_option linter.unusedVariables false
set_option linter.unusedSimpArgs false
open Go.RowKit Go.Extern.Stop Go.Stop Go.Extern

/-- the error (t, x) is (tb, xb), wrapped n times -/
def Wraps (w : World) : Nat → TypeId → Value → TypeId → Value → Prop
  | 0, t, x, tb, xb => t = tb ∧ x = xb
  | n + 1, t, x, tb, xb => t = 165 ∧ ∃ (g t' : Nat) (x' : Value), x = .pointer (some ⟨g, 0, none⟩) ∧ w.cell? ⟨g, 1, none⟩ = some (.iface t' x') ∧ g < w.heap.size ∧ Wraps w n t' x' tb xb

/-- the error (t, x) leads, by what it wraps, to the number e -/
def Leads (w : World) : Nat → TypeId → Value → Int → Prop
  | 0, t, x, e => t = 69 ∧ x = .int .i64 e
  | n + 1, t, x, e => (t = 165 ∧ ∃ (g t' : Nat) (x' : Value), x = .pointer (some ⟨g, 0, none⟩) ∧ w.cell? ⟨g, 1, none⟩ = some (.iface t' x') ∧ g < w.heap.size ∧ Leads w n t' x' e) ∨
      (t = 111 ∧ ∃ g : Nat, x = .pointer (some ⟨g, 0, none⟩) ∧ Leads w n 69 (.int .i64 4) e)

theorem wraps_keep {w w' : World} (hk : Kept w w') : ∀ {n : Nat} {t tb : TypeId} {x xb : Value}, Wraps w n t x tb xb → Wraps w' n t x tb xb
  | 0, _, _, _, _, h => h
  | n + 1, _, _, _, _, h => by
    obtain ⟨h0, g, t', x', h1, h2, h3, h4⟩ := h
    exact ⟨h0, g, t', x', h1, hk.cell h2 h3, Nat.lt_of_lt_of_le h3 hk.size, wraps_keep hk h4⟩

theorem leads_keep {w w' : World} (hk : Kept w w') : ∀ {n : Nat} {t : TypeId} {x : Value} {e : Int}, Leads w n t x e → Leads w' n t x e
  | 0, _, _, _, h => h
  | n + 1, _, _, _, h => by
    rcases h with ⟨h0, g, t', x', h1, h2, h3, h4⟩ | ⟨h0, g, h1, h4⟩
    · exact Or.inl ⟨h0, g, t', x', h1, hk.cell h2 h3, Nat.lt_of_lt_of_le h3 hk.size, leads_keep hk h4⟩
    · exact Or.inr ⟨h0, g, h1, leads_keep hk h4⟩

theorem kept_allocF (w : World) (o : Obj) : Kept w (w.alloc o) := (Below.refl _ _).alloc (Nat.le_refl _) _

theorem fat_any (addr code : Int) (w : World) : Calls Tryz.prog 67 #[.int .u64 addr, .int .i64 code] w fun e w' => e = .returned (.iface 111 (.pointer (some ⟨w.heap.size, 0, none⟩))) ∧ w' = w.alloc (.cells #[.int .u64 addr, .int .i64 code] 64) := by
  go_enter Tryz.func67, Tryz.ntmps67
  go_wp2
  go_ret
  exact ⟨rfl, rfl⟩

theorem wrap_any (s : ByteArray) (t : TypeId) (x : Value) (w : World) : Calls Tryz.prog 53 #[.string s, .iface t x] w fun e w' => e = .returned (.iface 165 (.pointer (some ⟨w.heap.size, 0, none⟩))) ∧ w' = w.alloc (.cells #[.string s, .iface t x] 167) := by
  go_enter Tryz.func53, Tryz.ntmps53
  go_wp2
  go_ret
  exact ⟨rfl, rfl⟩

theorem gp_any (s : ByteArray) (w : World) : Calls Tryz.prog 28 #[.string s] w fun e w' => e = .returned (.iface 165 (.pointer (some ⟨w.heap.size, 0, none⟩))) ∧ w' = w.alloc (.cells #[.string s, .iface 69 (.int .i64 5)] 167) := by
  go_enter Tryz.func28, Tryz.ntmps28
  go_wp2_with (first | (go_at_call 53; refine (wrap_any _ _ _ _).mono ?_; rintro e w' ⟨rfl, rfl⟩))
  go_ret
  exact ⟨rfl, rfl⟩

theorem unwrapW (g t : Nat) (x : Value) (w : World) (h : w.cell? ⟨g, 1, none⟩ = some (.iface t x)) : Calls Tryz.prog 167 #[.pointer (some ⟨g, 0, none⟩)] w fun e w' => e = .returned (.iface t x) ∧ w' = w := by
  go_enter Tryz.func167, Tryz.ntmps167
  go_wp2
  go_ret
  exact ⟨rfl, rfl⟩

theorem unwrapP (g : Nat) (w : World) : Calls Tryz.prog 162 #[.pointer (some ⟨g, 0, none⟩)] w fun e w' => e = .returned (.iface 69 (.int .i64 4)) ∧ w' = w := by
  go_enter Tryz.func162, Tryz.ntmps162
  go_wp2
  go_ret
  exact ⟨rfl, rfl⟩
end Go.Proofs.YtopmmlcjlopmaaaGreatDoor
/- Layer 7: errors.As, by what errors.as answers. -/
namespace Go.Proofs.YtopmmlcjlopmaaaGreatDoor
set_option linter.unusedVariables false
set_option linter.unusedSimpArgs false
open Go.RowKit Go.Extern.Stop Go.Stop Go.Extern

/-- package errors' own variable: the handle of the type error -/
def ErrT (w : World) : Prop := w.cell? ⟨0, 0, none⟩ = some (.iface 178 (.agg #[.pointer (some ⟨2, 39, none⟩)]))
theorem errT_pos {w : World} (h : ErrT w) : 0 < w.heap.size := by
  rcases Nat.lt_or_ge 0 w.heap.size with h0 | h0
  · exact h0
  · simp [ErrT, World.cell?, Array.getElem?_eq_none h0] at h
theorem errT_keep {w w' : World} (h : ErrT w) (hk : Kept w w') : ErrT w' := hk.cell h (errT_pos h)

set_option maxHeartbeats 1600000 in
set_option maxRecDepth 100000 in
theorem As_pp (t : TypeId) (x : Value) (p : Addr) (w : World) (R : Bool → World → Prop) (hg : ErrT w)
    (has : Calls Tryz.prog 88 #[.iface t x, .iface 113 (.pointer (some p)), .agg #[.pointer (some ⟨2, 113, none⟩), .pointer (some ⟨w.heap.size, 0, none⟩), .int .u64 150], .iface 178 (.agg #[.pointer (some ⟨2, 111, none⟩)])] ((w.alloc (.cells #[.pointer (some p)] 113)).alloc (.cells #[.pointer (some ⟨2, 113, none⟩), .pointer (some ⟨w.heap.size, 0, none⟩), .int .u64 150] 146)) fun r w' => ∃ b, r = .returned (.bool b) ∧ R b w') :
    Calls Tryz.prog 42 #[.iface t x, .iface 113 (.pointer (some p))] w fun r w' => ∃ b, r = .returned (.bool b) ∧ R b w' := by
  have k0 := xValueOf
  have k1 := xType
  have k2 := xIsNil
  have k3 := xKind
  have k4 := xElem
  have k5 := xImplements
  have k6 := mKind
  have k7 := mElem
  have k8 := mImplements
  have k9 := valueOfPP
  have k10 := typePP
  have k11 := kindPP
  have k12 := kindP
  have k13 := elemPP
  have k14 := implementsP
  have n8 := isNilPP ⟨w.heap.size, 0, none⟩ p ((w.alloc (.cells #[.pointer (some p)] 113)).alloc (.cells #[.pointer (some ⟨2, 113, none⟩), .pointer (some ⟨w.heap.size, 0, none⟩), .int .u64 150] 146)) (by rw [World.cell?_alloc_lt _ _ ⟨w.heap.size, 0, none⟩ (by simp)]; simp)
  have hlt := errT_pos hg
  have hg2 : ((w.alloc (.cells #[.pointer (some p)] 113)).alloc (.cells #[.pointer (some ⟨2, 113, none⟩), .pointer (some ⟨w.heap.size, 0, none⟩), .int .u64 150] 146)).cell? ⟨0, 0, none⟩ = some (.iface 178 (.agg #[.pointer (some ⟨2, 39, none⟩)])) := by
    rw [World.cell?_alloc_lt _ _ ⟨0, 0, none⟩ (Nat.lt_of_lt_of_le hlt (by simp)), World.cell?_alloc_lt _ _ ⟨0, 0, none⟩ hlt]; exact hg
  clear hg
  go_enter Tryz.func42, Tryz.ntmps42
  go_wp2_with (first | (go_at_call 88; refine has.mono ?_; rintro r w' ⟨b, rfl, hR⟩))
  go_ret
  exact ⟨_, rfl, hR⟩

set_option maxHeartbeats 1600000 in
set_option maxRecDepth 100000 in
theorem As_nn (t : TypeId) (x : Value) (p : Addr) (w : World) (R : Bool → World → Prop) (hg : ErrT w)
    (has : Calls Tryz.prog 88 #[.iface t x, .iface 117 (.pointer (some p)), .agg #[.pointer (some ⟨2, 117, none⟩), .pointer (some ⟨w.heap.size, 0, none⟩), .int .u64 150], .iface 178 (.agg #[.pointer (some ⟨2, 69, none⟩)])] ((w.alloc (.cells #[.pointer (some p)] 117)).alloc (.cells #[.pointer (some ⟨2, 117, none⟩), .pointer (some ⟨w.heap.size, 0, none⟩), .int .u64 150] 146)) fun r w' => ∃ b, r = .returned (.bool b) ∧ R b w') :
    Calls Tryz.prog 42 #[.iface t x, .iface 117 (.pointer (some p))] w fun r w' => ∃ b, r = .returned (.bool b) ∧ R b w' := by
  have k0 := xValueOf
  have k1 := xType
  have k2 := xIsNil
  have k3 := xKind
  have k4 := xElem
  have k5 := xImplements
  have k6 := mKind
  have k7 := mElem
  have k8 := mImplements
  have k9 := valueOfNN
  have k10 := typeNN
  have k11 := kindNN
  have k12 := kindN
  have k13 := elemNN
  have k14 := implementsN
  have n8 := isNilNN ⟨w.heap.size, 0, none⟩ p ((w.alloc (.cells #[.pointer (some p)] 117)).alloc (.cells #[.pointer (some ⟨2, 117, none⟩), .pointer (some ⟨w.heap.size, 0, none⟩), .int .u64 150] 146)) (by rw [World.cell?_alloc_lt _ _ ⟨w.heap.size, 0, none⟩ (by simp)]; simp)
  have hlt := errT_pos hg
  have hg2 : ((w.alloc (.cells #[.pointer (some p)] 117)).alloc (.cells #[.pointer (some ⟨2, 117, none⟩), .pointer (some ⟨w.heap.size, 0, none⟩), .int .u64 150] 146)).cell? ⟨0, 0, none⟩ = some (.iface 178 (.agg #[.pointer (some ⟨2, 39, none⟩)])) := by
    rw [World.cell?_alloc_lt _ _ ⟨0, 0, none⟩ (Nat.lt_of_lt_of_le hlt (by simp)), World.cell?_alloc_lt _ _ ⟨0, 0, none⟩ hlt]; exact hg
  clear hg
  go_enter Tryz.func42, Tryz.ntmps42
  go_wp2_with (first | (go_at_call 88; refine has.mono ?_; rintro r w' ⟨b, rfl, hR⟩))
  go_ret
  exact ⟨_, rfl, hR⟩

end Go.Proofs.YtopmmlcjlopmaaaGreatDoor
