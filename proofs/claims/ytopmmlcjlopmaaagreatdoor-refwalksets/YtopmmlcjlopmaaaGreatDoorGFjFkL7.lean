/- Several texts of ours in one: Fj, Fk, L7. -/
import Derived.Test.YtopmmlcjlopmaaaGreatDoorGFfFgFi
/- Layer 7: fault.Kind and fault.Of. -/
namespace Go.Proofs.YtopmmlcjlopmaaaGreatDoor
set_option linter.unusedVariables false
set_option linter.unusedSimpArgs false
open Go.RowKit Go.Extern.Stop Go.Stop Go.Extern

theorem kept_set {w u : World} (h : Kept w u) {p : Addr} (hp : w.heap.size ≤ p.block) (v : Value) : Kept w (u.setCell p v) := Below.setCell h hp v

/-- Kind, by what errors.As answers: a number that is found -/
theorem kind_via (t : TypeId) (x : Value) (e : Int) (w : World)
    (has : ∀ (w0 : World) (p : Addr) (old : Value), Kept w w0 → w0.cell? p = some old → w0.frozen? p = false → Calls Tryz.prog 42 #[.iface t x, .iface 117 (.pointer (some p))] w0 fun r w' => ∃ b, r = .returned (.bool b) ∧ (b = true ∧ Put w0 p (.int .i64 e) w')) :
    Calls Tryz.prog 21 #[.iface t x] w fun r w' => r = .returned (.int .i64 e) ∧ Kept w w' := by
  have hmf : ∀ (fn : Fn) (first cap : Array Value) (w : World), (Instr.makeFunc fn first cap).run Tryz.prog w = .ok (.func fn first cap) w := fun _ _ _ _ => rfl
  have has2 := has ((w.alloc (.cells #[.int .i64 0] 69)).alloc (.cells #[.int .i64 0] 69)) ⟨w.heap.size + 1, 0, none⟩ (.int .i64 0) (kept2 _ _ _) (by simp) (by simp)
  clear has
  go_enter_defers Tryz.func21, Tryz.ntmps21
  go_wp2_with fail
  refine has2.mono ?_
  rintro r w1 ⟨b, rfl, rfl, u, hk, rfl⟩
  have HK : Hid (Kept w (u.setCell ⟨w.heap.size + 1, 0, none⟩ (.int .i64 e))) := kept_set (Kept.step hk (kept2 _ _ _)) (by simp) _
  have c0 : (u.setCell ⟨w.heap.size + 1, 0, none⟩ (.int .i64 e)).cell? ⟨w.heap.size + 1, 0, none⟩ = some (.int .i64 e) := put_same (old := .int .i64 0) hk (by simp)
  have c1 : (u.setCell ⟨w.heap.size + 1, 0, none⟩ (.int .i64 e)).cell? ⟨w.heap.size, 0, none⟩ = some (.int .i64 0) := put_far hk (by simp) (by simp)
  have c2 : (u.setCell ⟨w.heap.size + 1, 0, none⟩ (.int .i64 e)).frozen? ⟨w.heap.size, 0, none⟩ = false := put_frozen hk (by simp; omega) (by simp)
  generalize u.setCell ⟨w.heap.size + 1, 0, none⟩ (.int .i64 e) = w2 at *
  clear hk
  go_wp2_with fail
  refine leaves_cons (f := 47) (args := #[.pointer (some ⟨w.heap.size, 0, none⟩)]) (by simp) (by simp [go_sem]) ?_
  refine (kind_idle ⟨w.heap.size, 0, none⟩ _).mono ?_
  rintro e u' w'' ⟨rfl, rfl, rfl⟩
  simp [Leaves, settle, results, Tryz.results21, go_sem, c1]
  exact kept_set HK.out (Nat.le_refl _) _

theorem kind_num (n : Nat) (t : TypeId) (x : Value) (e : Int) (w : World) (hg : ErrT w) (h : Leads w n t x e) :
    Calls Tryz.prog 21 #[.iface t x] w fun r w' => r = .returned (.int .i64 e) ∧ Kept w w' :=
  kind_via t x e w fun w0 p old hk hp hf => As_num n t x e p old w0 (errT_keep hg hk) (leads_keep hk h) hp hf

end Go.Proofs.YtopmmlcjlopmaaaGreatDoor
/- Layer 7: fault.Of. -/
namespace Go.Proofs.YtopmmlcjlopmaaaGreatDoor
set_option linter.unusedVariables false
set_option linter.unusedSimpArgs false
open Go.RowKit Go.Extern.Stop Go.Stop Go.Extern

/-- three new blocks -/
theorem new3_a {w : World} {A B C : Array Value} {ta tb tc : TypeId} (i : Nat) (v : Value) (h : A[i]? = some v) : (((w.alloc (.cells A ta)).alloc (.cells B tb)).alloc (.cells C tc)).cell? ⟨w.heap.size, i, none⟩ = some v := by
  rw [World.cell?_alloc_lt _ _ ⟨w.heap.size, i, none⟩ (by simp; omega), World.cell?_alloc_lt _ _ ⟨w.heap.size, i, none⟩ (by simp), World.cell?_alloc_at _ _ _ _ rfl]; exact h
theorem new3_b {w : World} {A B C : Array Value} {ta tb tc : TypeId} (i : Nat) (v : Value) (h : B[i]? = some v) : (((w.alloc (.cells A ta)).alloc (.cells B tb)).alloc (.cells C tc)).cell? ⟨w.heap.size + 1, i, none⟩ = some v := by
  rw [World.cell?_alloc_lt _ _ ⟨w.heap.size + 1, i, none⟩ (by simp), World.cell?_alloc_at _ _ _ _ (by simp)]; exact h
theorem new3_c {w : World} {A B C : Array Value} {ta tb tc : TypeId} (i : Nat) (v : Value) (h : C[i]? = some v) : (((w.alloc (.cells A ta)).alloc (.cells B tb)).alloc (.cells C tc)).cell? ⟨w.heap.size + 1 + 1, i, none⟩ = some v := by
  rw [World.cell?_alloc_at _ _ _ _ (by simp)]; exact h
theorem new3_fa {w : World} {A B C : Array Value} {ta tb tc : TypeId} (i : Nat) : (((w.alloc (.cells A ta)).alloc (.cells B tb)).alloc (.cells C tc)).frozen? ⟨w.heap.size, i, none⟩ = false := by
  rw [frozen_alloc_old _ _ ⟨w.heap.size, i, none⟩ (by simp; omega), frozen_alloc_old _ _ ⟨w.heap.size, i, none⟩ (by simp)]; exact World.frozen?_alloc_at _ _ _ _ rfl
theorem new3_fb {w : World} {A B C : Array Value} {ta tb tc : TypeId} (i : Nat) : (((w.alloc (.cells A ta)).alloc (.cells B tb)).alloc (.cells C tc)).frozen? ⟨w.heap.size + 1, i, none⟩ = false := by
  rw [frozen_alloc_old _ _ ⟨w.heap.size + 1, i, none⟩ (by simp)]; exact World.frozen?_alloc_at _ _ _ _ (by simp)
theorem new3_fc {w : World} {A B C : Array Value} {ta tb tc : TypeId} (i : Nat) : (((w.alloc (.cells A ta)).alloc (.cells B tb)).alloc (.cells C tc)).frozen? ⟨w.heap.size + 1 + 1, i, none⟩ = false :=
  World.frozen?_alloc_at _ _ _ _ (by simp)

/-- Of, by what errors.As answers: a page that is found -/
theorem of_via (t : TypeId) (x : Value) (g : Nat) (addr code : Int) (w : World) (h0 : w.cell? ⟨g, 0, none⟩ = some (.int .u64 addr)) (h1 : w.cell? ⟨g, 1, none⟩ = some (.int .i64 code))
    (has : ∀ (w0 : World) (p : Addr) (old : Value), Kept w w0 → w0.cell? p = some old → w0.frozen? p = false → Calls Tryz.prog 42 #[.iface t x, .iface 113 (.pointer (some p))] w0 fun r w' => ∃ b, r = .returned (.bool b) ∧ (b = true ∧ Put w0 p (.pointer (some ⟨g, 0, none⟩)) w')) :
    Calls Tryz.prog 18 #[.iface t x] w fun r w' => r = .returned (.tuple #[.agg #[.int .u64 addr, .int .i64 code], .bool true]) ∧ Kept w w' := by
  have hmf : ∀ (fn : Fn) (first cap : Array Value) (w : World), (Instr.makeFunc fn first cap).run Tryz.prog w = .ok (.func fn first cap) w := fun _ _ _ _ => rfl
  have has2 := has (((w.alloc (.cells #[.int .u64 0, .int .i64 0] 64)).alloc (.cells #[.bool false] 4)).alloc (.cells #[.pointer none] 111)) ⟨w.heap.size + 1 + 1, 0, none⟩ (.pointer none) (kept3 _ _ _ _) (new3_c 0 _ rfl) (new3_fc 0)
  have lg := lt_of_cell h0
  simp only at lg
  clear has
  go_enter_defers Tryz.func18, Tryz.ntmps18
  go_wp2_with fail
  refine has2.mono ?_
  rintro r w1 ⟨b, rfl, rfl, u, hk, rfl⟩
  have HK : Hid (Kept w (u.setCell ⟨w.heap.size + 1 + 1, 0, none⟩ (.pointer (some ⟨g, 0, none⟩)))) := kept_set (Kept.step hk (kept3 _ _ _ _)) (by simp; omega) _
  have c0 : (u.setCell ⟨w.heap.size + 1 + 1, 0, none⟩ (.pointer (some ⟨g, 0, none⟩))).cell? ⟨w.heap.size + 1 + 1, 0, none⟩ = some (.pointer (some ⟨g, 0, none⟩)) := put_same (old := .pointer none) hk (new3_c 0 _ rfl)
  have c1 : (u.setCell ⟨w.heap.size + 1 + 1, 0, none⟩ (.pointer (some ⟨g, 0, none⟩))).cell? ⟨w.heap.size, 0, none⟩ = some (.int .u64 0) := put_far hk (new3_a 0 _ rfl) (by simp; omega)
  have c2 : (u.setCell ⟨w.heap.size + 1 + 1, 0, none⟩ (.pointer (some ⟨g, 0, none⟩))).cell? ⟨w.heap.size, 1, none⟩ = some (.int .i64 0) := put_far hk (new3_a 1 _ rfl) (by simp; omega)
  have c3 : (u.setCell ⟨w.heap.size + 1 + 1, 0, none⟩ (.pointer (some ⟨g, 0, none⟩))).cell? ⟨w.heap.size + 1, 0, none⟩ = some (.bool false) := put_far hk (new3_b 0 _ rfl) (by simp)
  have c4 : (u.setCell ⟨w.heap.size + 1 + 1, 0, none⟩ (.pointer (some ⟨g, 0, none⟩))).cell? ⟨g, 0, none⟩ = some (.int .u64 addr) := kept_cell HK.out h0
  have c5 : (u.setCell ⟨w.heap.size + 1 + 1, 0, none⟩ (.pointer (some ⟨g, 0, none⟩))).cell? ⟨g, 1, none⟩ = some (.int .i64 code) := kept_cell HK.out h1
  have f1 : (u.setCell ⟨w.heap.size + 1 + 1, 0, none⟩ (.pointer (some ⟨g, 0, none⟩))).frozen? ⟨w.heap.size, 0, none⟩ = false := put_frozen hk (by simp; omega) (new3_fa 0)
  have f2 : (u.setCell ⟨w.heap.size + 1 + 1, 0, none⟩ (.pointer (some ⟨g, 0, none⟩))).frozen? ⟨w.heap.size, 1, none⟩ = false := put_frozen hk (by simp; omega) (new3_fa 1)
  have f3 : (u.setCell ⟨w.heap.size + 1 + 1, 0, none⟩ (.pointer (some ⟨g, 0, none⟩))).frozen? ⟨w.heap.size + 1, 0, none⟩ = false := put_frozen hk (by simp) (new3_fb 0)
  generalize u.setCell ⟨w.heap.size + 1 + 1, 0, none⟩ (.pointer (some ⟨g, 0, none⟩)) = w2 at *
  clear hk h0 h1
  go_wp2_with (first | (go_at_call 43; refine (eis_any 1 _ _ 4 _ _ (Or.inr ⟨rfl, _, rfl, rfl, rfl⟩)).mono ?_; rintro r w' ⟨rfl, rfl⟩))
  refine leaves_cons (f := 41) (args := #[.pointer (some ⟨w.heap.size, 0, none⟩), .pointer (some ⟨w.heap.size + 1, 0, none⟩)]) (by simp) (by simp [go_sem]) ?_
  refine (of_idle ⟨w.heap.size, 0, none⟩ ⟨w.heap.size + 1, 0, none⟩ _).mono ?_
  rintro e u' w'' ⟨rfl, rfl, rfl⟩
  have KK := kept_set (kept_set (kept_set HK.out (p := ⟨w.heap.size, 0, none⟩) (Nat.le_refl _) (.int .u64 addr)) (p := ⟨w.heap.size, 1, none⟩) (Nat.le_refl _) (.int .i64 code)) (p := ⟨w.heap.size + 1, 0, none⟩) (by simp) (.bool true)
  simp [Leaves, settle, results, Tryz.results18, go_sem, c1, c2, c3]
  exact KK

/-- none that is found -/
theorem of_not (t : TypeId) (x : Value) (w : World)
    (has : ∀ (w0 : World) (p : Addr), Kept w w0 → Calls Tryz.prog 42 #[.iface t x, .iface 113 (.pointer (some p))] w0 fun r w' => ∃ b, r = .returned (.bool b) ∧ (b = false ∧ Kept w0 w')) :
    Calls Tryz.prog 18 #[.iface t x] w fun r w' => r = .returned (.tuple #[.agg #[.int .u64 0, .int .i64 0], .bool false]) ∧ Kept w w' := by
  have hmf : ∀ (fn : Fn) (first cap : Array Value) (w : World), (Instr.makeFunc fn first cap).run Tryz.prog w = .ok (.func fn first cap) w := fun _ _ _ _ => rfl
  have has2 := has (((w.alloc (.cells #[.int .u64 0, .int .i64 0] 64)).alloc (.cells #[.bool false] 4)).alloc (.cells #[.pointer none] 111)) ⟨w.heap.size + 1 + 1, 0, none⟩ (kept3 _ _ _ _)
  clear has
  go_enter_defers Tryz.func18, Tryz.ntmps18
  go_wp2_with fail
  refine has2.mono ?_
  rintro r w1 ⟨b, rfl, rfl, hk⟩
  have HK : Hid (Kept w w1) := Kept.step hk (kept3 _ _ _ _)
  have c1 : w1.cell? ⟨w.heap.size, 0, none⟩ = some (.int .u64 0) := kept_cell hk (new3_a 0 _ rfl)
  have c2 : w1.cell? ⟨w.heap.size, 1, none⟩ = some (.int .i64 0) := kept_cell hk (new3_a 1 _ rfl)
  have c3 : w1.cell? ⟨w.heap.size + 1, 0, none⟩ = some (.bool false) := kept_cell hk (new3_b 0 _ rfl)
  have f1 : w1.frozen? ⟨w.heap.size, 0, none⟩ = false := by rw [kept_frozen hk (by simp; omega)]; exact new3_fa 0
  have f2 : w1.frozen? ⟨w.heap.size, 1, none⟩ = false := by rw [kept_frozen hk (by simp; omega)]; exact new3_fa 1
  have f3 : w1.frozen? ⟨w.heap.size + 1, 0, none⟩ = false := by rw [kept_frozen hk (by simp)]; exact new3_fb 0
  clear hk has2
  go_wp2_with fail
  refine leaves_cons (f := 41) (args := #[.pointer (some ⟨w.heap.size, 0, none⟩), .pointer (some ⟨w.heap.size + 1, 0, none⟩)]) (by simp) (by simp [go_sem]) ?_
  refine (of_idle ⟨w.heap.size, 0, none⟩ ⟨w.heap.size + 1, 0, none⟩ _).mono ?_
  rintro e u' w'' ⟨rfl, rfl, rfl⟩
  have KK := kept_set (kept_set (kept_set HK.out (p := ⟨w.heap.size, 0, none⟩) (Nat.le_refl _) (.int .u64 0)) (p := ⟨w.heap.size, 1, none⟩) (Nat.le_refl _) (.int .i64 0)) (p := ⟨w.heap.size + 1, 0, none⟩) (by simp) (.bool false)
  simp [Leaves, settle, results, Tryz.results18, go_sem, c1, c2, c3]
  exact KK

theorem of_page (n : Nat) (t : TypeId) (x : Value) (g : Nat) (addr code : Int) (w : World) (hg : ErrT w) (h : Wraps w n t x 111 (.pointer (some ⟨g, 0, none⟩)))
    (h0 : w.cell? ⟨g, 0, none⟩ = some (.int .u64 addr)) (h1 : w.cell? ⟨g, 1, none⟩ = some (.int .i64 code)) :
    Calls Tryz.prog 18 #[.iface t x] w fun r w' => r = .returned (.tuple #[.agg #[.int .u64 addr, .int .i64 code], .bool true]) ∧ Kept w w' :=
  of_via t x g addr code w h0 h1 fun w0 p old hk hp hf => As_page n t x g p old w0 (errT_keep hg hk) (wraps_keep hk h) hp hf

theorem of_none (n : Nat) (t : TypeId) (x : Value) (e : Int) (w : World) (hg : ErrT w) (h : Wraps w n t x 69 (.int .i64 e)) :
    Calls Tryz.prog 18 #[.iface t x] w fun r w' => r = .returned (.tuple #[.agg #[.int .u64 0, .int .i64 0], .bool false]) ∧ Kept w w' :=
  of_not t x w fun w0 p hk => As_nopage n t x e p w0 (errT_keep hg hk) (wraps_keep hk h)
end Go.Proofs.YtopmmlcjlopmaaaGreatDoor
/- Layer 7: awake. -/
namespace Go.Proofs.YtopmmlcjlopmaaaGreatDoor
set_option linter.unusedVariables false
set_option linter.unusedSimpArgs false
open Go.RowKit Go.Extern.Stop Go.Stop Go.Extern

theorem wraps_step {w : World} {n : Nat} {t tb : TypeId} {x xb : Value} (s : ByteArray) (h : Wraps w n t x tb xb) : Wraps (w.alloc (.cells #[.string s, .iface t x] 167)) (n + 1) 165 (.pointer (some ⟨w.heap.size, 0, none⟩)) tb xb :=
  ⟨rfl, _, _, _, rfl, by simp, by simp, wraps_keep (kept_allocF _ _) h⟩
theorem leads_step {w : World} {n : Nat} {t : TypeId} {x : Value} {e : Int} (s : ByteArray) (h : Leads w n t x e) : Leads (w.alloc (.cells #[.string s, .iface t x] 167)) (n + 1) 165 (.pointer (some ⟨w.heap.size, 0, none⟩)) e :=
  Or.inl ⟨rfl, _, _, _, rfl, by simp, by simp, leads_keep (kept_allocF _ _) h⟩
theorem leads_page (w : World) (g : Nat) : Leads w 1 111 (.pointer (some ⟨g, 0, none⟩)) 4 := Or.inr ⟨rfl, g, rfl, rfl, rfl⟩
/-- a page fault that lies in memory, wrapped n times: what is found, and where it leads -/
def PageIn (w : World) (n : Nat) (t : TypeId) (x : Value) (addr code : Int) : Prop :=
  ∃ g : Nat, Wraps w n t x 111 (.pointer (some ⟨g, 0, none⟩)) ∧ Leads w (n + 1) t x 4 ∧ w.cell? ⟨g, 0, none⟩ = some (.int .u64 addr) ∧ w.cell? ⟨g, 1, none⟩ = some (.int .i64 code)
theorem page_new (w : World) (addr code : Int) : PageIn (w.alloc (.cells #[.int .u64 addr, .int .i64 code] 64)) 0 111 (.pointer (some ⟨w.heap.size, 0, none⟩)) addr code :=
  ⟨_, ⟨rfl, rfl⟩, leads_page _ _, by simp, by simp⟩
theorem page_keep {w w' : World} {n : Nat} {t : TypeId} {x : Value} {addr code : Int} (h : PageIn w n t x addr code) (hk : Kept w w') : PageIn w' n t x addr code := by
  obtain ⟨g, h1, h2, h3, h4⟩ := h
  exact ⟨g, wraps_keep hk h1, leads_keep hk h2, kept_cell hk h3, kept_cell hk h4⟩

theorem of_pageIn (n : Nat) (t : TypeId) (x : Value) (addr code : Int) (w : World) (hg : ErrT w) (h : PageIn w n t x addr code) :
    Calls Tryz.prog 18 #[.iface t x] w fun r w' => r = .returned (.tuple #[.agg #[.int .u64 addr, .int .i64 code], .bool true]) ∧ Kept w w' := by
  obtain ⟨g, h1, h2, h3, h4⟩ := h
  exact of_page n t x g addr code w hg h1 h3 h4
theorem kind_pageIn (n : Nat) (t : TypeId) (x : Value) (addr code : Int) (w : World) (hg : ErrT w) (h : PageIn w n t x addr code) :
    Calls Tryz.prog 21 #[.iface t x] w fun r w' => r = .returned (.int .i64 4) ∧ Kept w w' := by
  obtain ⟨g, h1, h2, h3, h4⟩ := h
  exact kind_num (n + 1) t x 4 w hg h2
/-- a number, wrapped n times -/
def NumIn (w : World) (n : Nat) (t : TypeId) (x : Value) (e : Int) : Prop := Wraps w n t x 69 (.int .i64 e) ∧ Leads w n t x e
theorem num_new (w : World) (e : Int) : NumIn w 0 69 (.int .i64 e) e := ⟨⟨rfl, rfl⟩, ⟨rfl, rfl⟩⟩
theorem num_step {w : World} {n : Nat} {t : TypeId} {x : Value} {e : Int} (s : ByteArray) (h : NumIn w n t x e) : NumIn (w.alloc (.cells #[.string s, .iface t x] 167)) (n + 1) 165 (.pointer (some ⟨w.heap.size, 0, none⟩)) e :=
  ⟨wraps_step s h.1, leads_step s h.2⟩
theorem num_keep {w w' : World} {n : Nat} {t : TypeId} {x : Value} {e : Int} (h : NumIn w n t x e) (hk : Kept w w') : NumIn w' n t x e := ⟨wraps_keep hk h.1, leads_keep hk h.2⟩

theorem at_page (addr code : Int) (w : World) : Calls Tryz.prog 67 #[.int .u64 addr, .int .i64 code] w fun e w' => ∃ g : Nat, e = .returned (.iface 111 (.pointer (some ⟨g, 0, none⟩))) ∧ PageIn w' 0 111 (.pointer (some ⟨g, 0, none⟩)) addr code ∧ Kept w w' :=
  (fat_any addr code w).mono fun _ _ ⟨he, hw⟩ => ⟨w.heap.size, he, hw ▸ page_new _ _ _, hw ▸ kept_allocF _ _⟩
theorem gp_num (s : ByteArray) (w : World) : Calls Tryz.prog 28 #[.string s] w fun r w' => ∃ g : Nat, r = .returned (.iface 165 (.pointer (some ⟨g, 0, none⟩))) ∧ NumIn w' 1 165 (.pointer (some ⟨g, 0, none⟩)) 5 ∧ Kept w w' :=
  (gp_any s w).mono fun _ _ ⟨he, hw⟩ => ⟨w.heap.size, he, hw ▸ num_step s (num_new _ _), hw ▸ kept_allocF _ _⟩
theorem kind_numIn (n : Nat) (t : TypeId) (x : Value) (e : Int) (w : World) (hg : ErrT w) (h : NumIn w n t x e) :
    Calls Tryz.prog 21 #[.iface t x] w fun r w' => r = .returned (.int .i64 e) ∧ Kept w w' := kind_num n t x e w hg h.2
theorem of_numIn (n : Nat) (t : TypeId) (x : Value) (e : Int) (w : World) (hg : ErrT w) (h : NumIn w n t x e) :
    Calls Tryz.prog 18 #[.iface t x] w fun r w' => r = .returned (.tuple #[.agg #[.int .u64 0, .int .i64 0], .bool false]) ∧ Kept w w' := of_none n t x e w hg h.1
end Go.Proofs.YtopmmlcjlopmaaaGreatDoor
