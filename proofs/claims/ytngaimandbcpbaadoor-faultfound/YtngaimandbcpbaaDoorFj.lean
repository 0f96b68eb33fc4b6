/- Layer 7: fault.Kind and fault.Of. -/
import Derived.Test.YtngaimandbcpbaaDoorFi
namespace Go.Proofs.YtngaimandbcpbaaDoor
set_option linter.unusedVariables false
set_option linter.unusedSimpArgs false
open Go.RowKit Go.Extern.Stop Go.Stop Go.Extern

theorem kept_set {w u : World} (h : Kept w u) {p : Addr} (hp : w.heap.size ≤ p.block) (v : Value) : Kept w (u.setCell p v) := Below.setCell h hp v

/-- Kind(nil) -/
theorem kind_nil (w : World) : Calls Tryd.prog 16 #[.nilIface] w fun e w' => e = .returned (.int .i64 0) ∧ Kept w w' := by
  have hmf : ∀ (fn : Fn) (first cap : Array Value) (w : World), (Instr.makeFunc fn first cap).run Tryd.prog w = .ok (.func fn first cap) w := fun _ _ _ _ => rfl
  go_enter_defers Tryd.func16, Tryd.ntmps16
  go_wp2
  refine leaves_cons (f := 26) (args := #[.pointer (some ⟨w.heap.size, 0, none⟩)]) (by simp) (by simp [go_sem]) ?_
  refine (kind_idle ⟨w.heap.size, 0, none⟩ _).mono ?_
  rintro e u' w'' ⟨rfl, rfl, rfl⟩
  simp [Leaves, settle, results, Tryd.results16, go_sem]
  exact kept_alloc _ _

/-- Kind, by what errors.As answers: a number that is found -/
theorem kind_via (t : TypeId) (x : Value) (e : Int) (w : World)
    (has : ∀ (w0 : World) (p : Addr) (old : Value), Kept w w0 → w0.cell? p = some old → w0.frozen? p = false → Calls Tryd.prog 25 #[.iface t x, .iface 56 (.pointer (some p))] w0 fun r w' => ∃ b, r = .returned (.bool b) ∧ (b = true ∧ Put w0 p (.int .i64 e) w')) :
    Calls Tryd.prog 16 #[.iface t x] w fun r w' => r = .returned (.int .i64 e) ∧ Kept w w' := by
  have hmf : ∀ (fn : Fn) (first cap : Array Value) (w : World), (Instr.makeFunc fn first cap).run Tryd.prog w = .ok (.func fn first cap) w := fun _ _ _ _ => rfl
  have has2 := has ((w.alloc (.cells #[.int .i64 0] 37)).alloc (.cells #[.int .i64 0] 37)) ⟨w.heap.size + 1, 0, none⟩ (.int .i64 0) (kept2 _ _ _) (by simp) (by simp)
  clear has
  go_enter_defers Tryd.func16, Tryd.ntmps16
  go_wp2_with fail
  refine has2.mono ?_
  rintro r w1 ⟨b, rfl, rfl, u, hk, rfl⟩
  have HK : Hid (Kept w (u.setCell ⟨w.heap.size + 1, 0, none⟩ (.int .i64 e))) := kept_set (Kept.step hk (kept2 _ _ _)) (by simp) _
  have c0 : (u.setCell ⟨w.heap.size + 1, 0, none⟩ (.int .i64 e)).cell? ⟨w.heap.size + 1, 0, none⟩ = some (.int .i64 e) := put_same (old := .int .i64 0) hk (by simp)
  have c1 : (u.setCell ⟨w.heap.size + 1, 0, none⟩ (.int .i64 e)).cell? ⟨w.heap.size, 0, none⟩ = some (.int .i64 0) := put_far hk (by simp) (by simp)
  have c2 : (u.setCell ⟨w.heap.size + 1, 0, none⟩ (.int .i64 e)).frozen? ⟨w.heap.size, 0, none⟩ = false := put_frozen hk (by simp; omega) (by simp)
  generalize u.setCell ⟨w.heap.size + 1, 0, none⟩ (.int .i64 e) = w2 at *
  clear hk
  go_wp2_with fail
  refine leaves_cons (f := 26) (args := #[.pointer (some ⟨w.heap.size, 0, none⟩)]) (by simp) (by simp [go_sem]) ?_
  refine (kind_idle ⟨w.heap.size, 0, none⟩ _).mono ?_
  rintro e u' w'' ⟨rfl, rfl, rfl⟩
  simp [Leaves, settle, results, Tryd.results16, go_sem, c1]
  exact kept_set HK.out (Nat.le_refl _) _

/-- none that is found -/
theorem kind_not (t : TypeId) (x : Value) (w : World)
    (has : ∀ (w0 : World) (p : Addr), Kept w w0 → Calls Tryd.prog 25 #[.iface t x, .iface 56 (.pointer (some p))] w0 fun r w' => ∃ b, r = .returned (.bool b) ∧ (b = false ∧ Kept w0 w')) :
    Calls Tryd.prog 16 #[.iface t x] w fun r w' => r = .returned (.int .i64 1) ∧ Kept w w' := by
  have hmf : ∀ (fn : Fn) (first cap : Array Value) (w : World), (Instr.makeFunc fn first cap).run Tryd.prog w = .ok (.func fn first cap) w := fun _ _ _ _ => rfl
  have has2 := has ((w.alloc (.cells #[.int .i64 0] 37)).alloc (.cells #[.int .i64 0] 37)) ⟨w.heap.size + 1, 0, none⟩ (kept2 _ _ _)
  clear has
  go_enter_defers Tryd.func16, Tryd.ntmps16
  go_wp2_with fail
  refine has2.mono ?_
  rintro r w1 ⟨b, rfl, rfl, hk⟩
  have HK : Hid (Kept w w1) := Kept.step hk (kept2 _ _ _)
  have c1 : w1.cell? ⟨w.heap.size, 0, none⟩ = some (.int .i64 0) := kept_cell hk (by simp)
  have c2 : w1.frozen? ⟨w.heap.size, 0, none⟩ = false := by rw [kept_frozen hk (by simp; omega)]; simp
  clear hk
  go_wp2_with fail
  refine leaves_cons (f := 26) (args := #[.pointer (some ⟨w.heap.size, 0, none⟩)]) (by simp) (by simp [go_sem]) ?_
  refine (kind_idle ⟨w.heap.size, 0, none⟩ _).mono ?_
  rintro e u' w'' ⟨rfl, rfl, rfl⟩
  simp [Leaves, settle, results, Tryd.results16, go_sem, c1]
  exact kept_set HK.out (Nat.le_refl _) _

theorem kind_num (n : Nat) (t : TypeId) (x : Value) (e : Int) (w : World) (hg : ErrT w) (h : Leads w n t x e) :
    Calls Tryd.prog 16 #[.iface t x] w fun r w' => r = .returned (.int .i64 e) ∧ Kept w w' :=
  kind_via t x e w fun w0 p old hk hp hf => As_num n t x e p old w0 (errT_keep hg hk) (leads_keep hk h) hp hf

theorem kind_text (n : Nat) (t : TypeId) (x v0 : Value) (w : World) (hg : ErrT w) (h : Wraps w n t x 61 v0) :
    Calls Tryd.prog 16 #[.iface t x] w fun r w' => r = .returned (.int .i64 1) ∧ Kept w w' :=
  kind_not t x w fun w0 p hk => As_nonum n t x v0 p w0 (errT_keep hg hk) (wraps_keep hk h)
end Go.Proofs.YtngaimandbcpbaaDoor
