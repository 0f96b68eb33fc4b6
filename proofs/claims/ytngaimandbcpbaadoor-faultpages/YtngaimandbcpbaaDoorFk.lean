/- Layer 7: fault.Of. -/
import Derived.Test.YtngaimandbcpbaaDoorFj
namespace Go.Proofs.YtngaimandbcpbaaDoor
set_option linter.unusedVariables false
set_option linter.unusedSimpArgs false
open Go.RowKit Go.Extern.Stop Go.Stop Go.Extern

/-- three new blocks -/
theorem new3_a {w : World} {A B C : Array Value} {ta tb tc : TypeId} (i : Nat) (v : Value) (h : A[i]? = some v) : (((w.alloc (.cells A ta)).alloc (.cells B tb)).alloc (.cells C tc)).cell? ⟨w.heap.size, i, none⟩ = some v := by
  rw [World.cell?_alloc_lt _ _ ⟨w.heap.size, i, none⟩ (by simp; omega), World.cell?_alloc_lt _ _ ⟨w.heap.size, i, none⟩ (by simp), World.cell?_alloc_at _ _ _ _ rfl]; exact h
theorem new3_b {w : World} {A B C : Array Value} {ta tb tc : TypeId} (i : Nat) (v : Value) (h : B[i]? = some v) : (((w.alloc (.cells A ta)).alloc (.cells B tb)).alloc (.cells C tc)).cell? ⟨w.heap.size + 1, i, none⟩ = some v := by
  rw [World.cell?_alloc_lt _ _ ⟨w.heap.size + 1, i, none⟩ (by simp), World.cell?_alloc_at _ _ _ _ (by simp)]; exact h
theorem new3_c {w : World} {A B C : Array Value} {ta tb tc : TypeId} (i : Nat) (v : Value) (h : C[i]? = some v) : (((w.alloc (.cells A ta)).alloc (.cells B tb)).alloc (.cells C tc)).cell? ⟨w.heap.size + 1 + 1, i, none⟩ = some v := by
  rw [World.cell?_alloc_at _ _ _ _ (by simp)]; exact h
theorem new3_fa {w : World} {A B C : Array Value} {ta tb tc : TypeId} (i : Nat) : (((w.alloc (.cells A ta)).alloc (.cells B tb)).alloc (.cells C tc)).frozen? ⟨w.heap.size, i, none⟩ = false := by
  rw [frozen_alloc_old _ _ ⟨w.heap.size, i, none⟩ (by simp; omega), frozen_alloc_old _ _ ⟨w.heap.size, i, none⟩ (by simp)]; exact World.frozen?_alloc_at _ _ _ _ rfl
theorem new3_fb {w : World} {A B C : Array Value} {ta tb tc : TypeId} (i : Nat) : (((w.alloc (.cells A ta)).alloc (.cells B tb)).alloc (.cells C tc)).frozen? ⟨w.heap.size + 1, i, none⟩ = false := by
  rw [frozen_alloc_old _ _ ⟨w.heap.size + 1, i, none⟩ (by simp)]; exact World.frozen?_alloc_at _ _ _ _ (by simp)
theorem new3_fc {w : World} {A B C : Array Value} {ta tb tc : TypeId} (i : Nat) : (((w.alloc (.cells A ta)).alloc (.cells B tb)).alloc (.cells C tc)).frozen? ⟨w.heap.size + 1 + 1, i, none⟩ = false :=
  World.frozen?_alloc_at _ _ _ _ (by simp)

/-- Of, by what errors.As answers: a page that is found -/
theorem of_via (t : TypeId) (x : Value) (g : Nat) (addr code : Int) (w : World) (h0 : w.cell? ⟨g, 0, none⟩ = some (.int .u64 addr)) (h1 : w.cell? ⟨g, 1, none⟩ = some (.int .i64 code))
    (has : ∀ (w0 : World) (p : Addr) (old : Value), Kept w w0 → w0.cell? p = some old → w0.frozen? p = false → Calls Tryd.prog 25 #[.iface t x, .iface 55 (.pointer (some p))] w0 fun r w' => ∃ b, r = .returned (.bool b) ∧ (b = true ∧ Put w0 p (.pointer (some ⟨g, 0, none⟩)) w')) :
    Calls Tryd.prog 15 #[.iface t x] w fun r w' => r = .returned (.tuple #[.agg #[.int .u64 addr, .int .i64 code], .bool true]) ∧ Kept w w' := by
  have hmf : ∀ (fn : Fn) (first cap : Array Value) (w : World), (Instr.makeFunc fn first cap).run Tryd.prog w = .ok (.func fn first cap) w := fun _ _ _ _ => rfl
  have has2 := has (((w.alloc (.cells #[.int .u64 0, .int .i64 0] 34)).alloc (.cells #[.bool false] 4)).alloc (.cells #[.pointer none] 44)) ⟨w.heap.size + 1 + 1, 0, none⟩ (.pointer none) (kept3 _ _ _ _) (new3_c 0 _ rfl) (new3_fc 0)
  have lg := lt_of_cell h0
  simp only at lg
  clear has
  go_enter_defers Tryd.func15, Tryd.ntmps15
  go_wp2_with fail
  refine has2.mono ?_
  rintro r w1 ⟨b, rfl, rfl, u, hk, rfl⟩
  have HK : Hid (Kept w (u.setCell ⟨w.heap.size + 1 + 1, 0, none⟩ (.pointer (some ⟨g, 0, none⟩)))) := kept_set (Kept.step hk (kept3 _ _ _ _)) (by simp; omega) _
  have c0 : (u.setCell ⟨w.heap.size + 1 + 1, 0, none⟩ (.pointer (some ⟨g, 0, none⟩))).cell? ⟨w.heap.size + 1 + 1, 0, none⟩ = some (.pointer (some ⟨g, 0, none⟩)) := put_same (old := .pointer none) hk (new3_c 0 _ rfl)
  have c1 : (u.setCell ⟨w.heap.size + 1 + 1, 0, none⟩ (.pointer (some ⟨g, 0, none⟩))).cell? ⟨w.heap.size, 0, none⟩ = some (.int .u64 0) := put_far hk (new3_a 0 _ rfl) (by simp; omega)
  have c2 : (u.setCell ⟨w.heap.size + 1 + 1, 0, none⟩ (.pointer (some ⟨g, 0, none⟩))).cell? ⟨w.heap.size, 1, none⟩ = some (.int .i64 0) := put_far hk (new3_a 1 _ rfl) (by simp; omega)
  have c3 : (u.setCell ⟨w.heap.size + 1 + 1, 0, none⟩ (.pointer (some ⟨g, 0, none⟩))).cell? ⟨w.heap.size + 1, 0, none⟩ = some (.bool false) := put_far hk (new3_b 0 _ rfl) (by simp)
  have c4 : (u.setCell ⟨w.heap.size + 1 + 1, 0, none⟩ (.pointer (some ⟨g, 0, none⟩))).cell? ⟨g, 0, none⟩ = some (.int .u64 addr) := kept_cell HK.out h0
  have c5 : (u.setCell ⟨w.heap.size + 1 + 1, 0, none⟩ (.pointer (some ⟨g, 0, none⟩))).cell? ⟨g, 1, none⟩ = some (.int .i64 code) := kept_cell HK.out h1
  have f1 : (u.setCell ⟨w.heap.size + 1 + 1, 0, none⟩ (.pointer (some ⟨g, 0, none⟩))).frozen? ⟨w.heap.size, 0, none⟩ = false := put_frozen hk (by simp; omega) (new3_fa 0)
  have f2 : (u.setCell ⟨w.heap.size + 1 + 1, 0, none⟩ (.pointer (some ⟨g, 0, none⟩))).frozen? ⟨w.heap.size, 1, none⟩ = false := put_frozen hk (by simp; omega) (new3_fa 1)
  have f3 : (u.setCell ⟨w.heap.size + 1 + 1, 0, none⟩ (.pointer (some ⟨g, 0, none⟩))).frozen? ⟨w.heap.size + 1, 0, none⟩ = false := put_frozen hk (by simp) (new3_fb 0)
  generalize u.setCell ⟨w.heap.size + 1 + 1, 0, none⟩ (.pointer (some ⟨g, 0, none⟩)) = w2 at *
  clear hk h0 h1
  go_wp2_with (first | (go_at_call 17; refine (is_any 1 _ _ 4 _ _ (Or.inr ⟨rfl, _, rfl, rfl, rfl⟩)).mono ?_; rintro r w' ⟨rfl, rfl⟩))
  refine leaves_cons (f := 24) (args := #[.pointer (some ⟨w.heap.size, 0, none⟩), .pointer (some ⟨w.heap.size + 1, 0, none⟩)]) (by simp) (by simp [go_sem]) ?_
  refine (of_idle ⟨w.heap.size, 0, none⟩ ⟨w.heap.size + 1, 0, none⟩ _).mono ?_
  rintro e u' w'' ⟨rfl, rfl, rfl⟩
  have KK := kept_set (kept_set (kept_set HK.out (p := ⟨w.heap.size, 0, none⟩) (Nat.le_refl _) (.int .u64 addr)) (p := ⟨w.heap.size, 1, none⟩) (Nat.le_refl _) (.int .i64 code)) (p := ⟨w.heap.size + 1, 0, none⟩) (by simp) (.bool true)
  simp [Leaves, settle, results, Tryd.results15, go_sem, c1, c2, c3]
  exact KK

/-- none that is found -/
theorem of_not (t : TypeId) (x : Value) (w : World)
    (has : ∀ (w0 : World) (p : Addr), Kept w w0 → Calls Tryd.prog 25 #[.iface t x, .iface 55 (.pointer (some p))] w0 fun r w' => ∃ b, r = .returned (.bool b) ∧ (b = false ∧ Kept w0 w')) :
    Calls Tryd.prog 15 #[.iface t x] w fun r w' => r = .returned (.tuple #[.agg #[.int .u64 0, .int .i64 0], .bool false]) ∧ Kept w w' := by
  have hmf : ∀ (fn : Fn) (first cap : Array Value) (w : World), (Instr.makeFunc fn first cap).run Tryd.prog w = .ok (.func fn first cap) w := fun _ _ _ _ => rfl
  have has2 := has (((w.alloc (.cells #[.int .u64 0, .int .i64 0] 34)).alloc (.cells #[.bool false] 4)).alloc (.cells #[.pointer none] 44)) ⟨w.heap.size + 1 + 1, 0, none⟩ (kept3 _ _ _ _)
  clear has
  go_enter_defers Tryd.func15, Tryd.ntmps15
  go_wp2_with fail
  refine has2.mono ?_
  rintro r w1 ⟨b, rfl, rfl, hk⟩
  have HK : Hid (Kept w w1) := Kept.step hk (kept3 _ _ _ _)
  have c1 : w1.cell? ⟨w.heap.size, 0, none⟩ = some (.int .u64 0) := kept_cell hk (new3_a 0 _ rfl)
  have c2 : w1.cell? ⟨w.heap.size, 1, none⟩ = some (.int .i64 0) := kept_cell hk (new3_a 1 _ rfl)
  have c3 : w1.cell? ⟨w.heap.size + 1, 0, none⟩ = some (.bool false) := kept_cell hk (new3_b 0 _ rfl)
  have f1 : w1.frozen? ⟨w.heap.size, 0, none⟩ = false := by rw [kept_frozen hk (by simp; omega)]; exact new3_fa 0
  have f2 : w1.frozen? ⟨w.heap.size, 1, none⟩ = false := by rw [kept_frozen hk (by simp; omega)]; exact new3_fa 1
  have f3 : w1.frozen? ⟨w.heap.size + 1, 0, none⟩ = false := by rw [kept_frozen hk (by simp)]; exact new3_fb 0
  clear hk has2
  go_wp2_with fail
  refine leaves_cons (f := 24) (args := #[.pointer (some ⟨w.heap.size, 0, none⟩), .pointer (some ⟨w.heap.size + 1, 0, none⟩)]) (by simp) (by simp [go_sem]) ?_
  refine (of_idle ⟨w.heap.size, 0, none⟩ ⟨w.heap.size + 1, 0, none⟩ _).mono ?_
  rintro e u' w'' ⟨rfl, rfl, rfl⟩
  have KK := kept_set (kept_set (kept_set HK.out (p := ⟨w.heap.size, 0, none⟩) (Nat.le_refl _) (.int .u64 0)) (p := ⟨w.heap.size, 1, none⟩) (Nat.le_refl _) (.int .i64 0)) (p := ⟨w.heap.size + 1, 0, none⟩) (by simp) (.bool false)
  simp [Leaves, settle, results, Tryd.results15, go_sem, c1, c2, c3]
  exact KK

theorem of_page (n : Nat) (t : TypeId) (x : Value) (g : Nat) (addr code : Int) (w : World) (hg : ErrT w) (h : Wraps w n t x 44 (.pointer (some ⟨g, 0, none⟩)))
    (h0 : w.cell? ⟨g, 0, none⟩ = some (.int .u64 addr)) (h1 : w.cell? ⟨g, 1, none⟩ = some (.int .i64 code)) :
    Calls Tryd.prog 15 #[.iface t x] w fun r w' => r = .returned (.tuple #[.agg #[.int .u64 addr, .int .i64 code], .bool true]) ∧ Kept w w' :=
  of_via t x g addr code w h0 h1 fun w0 p old hk hp hf => As_page n t x g p old w0 (errT_keep hg hk) (wraps_keep hk h) hp hf

theorem of_none (n : Nat) (t : TypeId) (x : Value) (e : Int) (w : World) (hg : ErrT w) (h : Wraps w n t x 37 (.int .i64 e)) :
    Calls Tryd.prog 15 #[.iface t x] w fun r w' => r = .returned (.tuple #[.agg #[.int .u64 0, .int .i64 0], .bool false]) ∧ Kept w w' :=
  of_not t x w fun w0 p hk => As_nopage n t x e p w0 (errT_keep hg hk) (wraps_keep hk h)
end Go.Proofs.YtngaimandbcpbaaDoor
