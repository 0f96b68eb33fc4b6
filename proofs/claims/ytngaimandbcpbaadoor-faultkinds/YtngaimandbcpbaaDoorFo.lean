/- Layer 7: fault.Of and fault.Kind over two errors that were joined. -/
import Derived.Test.YtngaimandbcpbaaDoorL7
import Derived.Test.YtngaimandbcpbaaDoorFl
import Derived.Test.YtngaimandbcpbaaDoorFn
namespace Go.Proofs.YtngaimandbcpbaaDoor
set_option linter.unusedVariables false
set_option linter.unusedSimpArgs false
open Go.RowKit Go.Extern.Stop Go.Stop Go.Extern

/-- a number and a page fault, joined -/
def JoinIn (w : World) (j : Nat) (e addr code : Int) : Prop := ∃ (b t0 t1 : Nat) (x0 x1 : Value) (m n : Nat), w.cell? ⟨j, 0, none⟩ = some (.slice (some ⟨b, 0, none⟩) 2 2) ∧ w.cell? ⟨b, 0, none⟩ = some (.iface t0 x0) ∧ w.cell? ⟨b, 1, none⟩ = some (.iface t1 x1) ∧ NumIn w m t0 x0 e ∧ PageIn w n t1 x1 addr code
theorem join_keep {w w' : World} {j : Nat} {e addr code : Int} (h : JoinIn w j e addr code) (hk : Kept w w') : JoinIn w' j e addr code := by
  obtain ⟨b, t0, t1, x0, x1, m, n, h0, h1, h2, h3, h4⟩ := h
  exact ⟨b, t0, t1, x0, x1, m, n, kept_cell hk h0, kept_cell hk h1, kept_cell hk h2, num_keep h3 hk, page_keep h4 hk⟩

theorem put_more {w w0 w1 : World} {p : Addr} {v : Value} (hk : Kept w w0) (h : Put w0 p v w1) : Put w p v w1 := by
  obtain ⟨u, h1, h2⟩ := h
  exact ⟨u, Kept.step h1 hk, h2⟩

theorem of_join (j : Nat) (e addr code : Int) (w : World) (hg : ErrT w) (h : JoinIn w j e addr code) :
    Calls Tryd.prog 15 #[.iface 65 (.pointer (some ⟨j, 0, none⟩))] w fun r w' => r = .returned (.tuple #[.agg #[.int .u64 addr, .int .i64 code], .bool true]) ∧ Kept w w' := by
  obtain ⟨b, t0, t1, x0, x1, m, n, h0, h1, h2, ⟨h3, _⟩, g, h4, _, h5, h6⟩ := h
  refine of_via _ _ g addr code w h5 h6 fun w0 p old hk hp hf => ?_
  have lp := lt_of_cell hp
  refine As_pp _ _ p w0 (fun b w' => b = true ∧ Put w0 p (.pointer (some ⟨g, 0, none⟩)) w') (errT_keep hg hk) ?_
  have k2 := kept2 w0 (.cells #[.pointer (some p)] 55) (.cells #[.pointer (some ⟨4, 55, none⟩), .pointer (some ⟨w0.heap.size, 0, none⟩), .int .u64 150] 72)
  have ca : ((w0.alloc (.cells #[.pointer (some p)] 55)).alloc (.cells #[.pointer (some ⟨4, 55, none⟩), .pointer (some ⟨w0.heap.size, 0, none⟩), .int .u64 150] 72)).cell? ⟨w0.heap.size, 0, none⟩ = some (.pointer (some p)) := by
    rw [World.cell?_alloc_lt _ _ ⟨w0.heap.size, 0, none⟩ (by simp)]; simp
  have k3 := Kept.step k2 hk
  refine (as_join2 j b t0 t1 x0 x1 ⟨w0.heap.size, 0, none⟩ p _ (fun b w' => b = true ∧ Put w0 p (.pointer (some ⟨g, 0, none⟩)) w') (kept_cell k3 h0) (kept_cell k3 h1) (kept_cell k3 h2) ?_ ?_).mono ?_
  · intro w' hk'
    exact (as_nopage m t0 x0 e _ p w' (wraps_keep (Kept.step hk' k3) h3)).mono fun _ _ ⟨he, hw⟩ => ⟨he, hw ▸ kept_alloc _ _⟩
  · intro w' hk'
    have k4 := Kept.step hk' k2
    refine (as_page n t1 x1 g _ p old w' (wraps_keep (Kept.step hk' k3) h4) (kept_cell hk' ca) (kept_cell k4 hp) ?_ ?_ ?_).mono fun _ _ ⟨he, hw⟩ => ⟨he, rfl, _, Kept.step (kept2 _ _ _) k4, hw⟩
    · rw [kept_frozen k4 lp]; exact hf
    · exact lt_of_cell (kept_cell hk' ca)
    · exact lt_of_cell (kept_cell k4 hp)
  · rintro r w' ⟨rfl, hR⟩
    exact ⟨true, rfl, hR⟩

theorem kind_join (j : Nat) (e addr code : Int) (w : World) (hg : ErrT w) (h : JoinIn w j e addr code) :
    Calls Tryd.prog 16 #[.iface 65 (.pointer (some ⟨j, 0, none⟩))] w fun r w' => r = .returned (.int .i64 e) ∧ Kept w w' := by
  obtain ⟨b, t0, t1, x0, x1, m, n, h0, h1, h2, ⟨_, h3⟩, _⟩ := h
  refine kind_via _ _ e w fun w0 p old hk hp hf => ?_
  have lp := lt_of_cell hp
  refine As_nn _ _ p w0 (fun b w' => b = true ∧ Put w0 p (.int .i64 e) w') (errT_keep hg hk) ?_
  have k2 := kept2 w0 (.cells #[.pointer (some p)] 56) (.cells #[.pointer (some ⟨4, 56, none⟩), .pointer (some ⟨w0.heap.size, 0, none⟩), .int .u64 150] 72)
  have ca : ((w0.alloc (.cells #[.pointer (some p)] 56)).alloc (.cells #[.pointer (some ⟨4, 56, none⟩), .pointer (some ⟨w0.heap.size, 0, none⟩), .int .u64 150] 72)).cell? ⟨w0.heap.size, 0, none⟩ = some (.pointer (some p)) := by
    rw [World.cell?_alloc_lt _ _ ⟨w0.heap.size, 0, none⟩ (by simp)]; simp
  have k3 := Kept.step k2 hk
  refine (as_join1 j b t0 t1 x0 x1 ⟨w0.heap.size, 0, none⟩ p _ (fun b w' => b = true ∧ Put w0 p (.int .i64 e) w') (kept_cell k3 h0) (kept_cell k3 h1) (kept_cell k3 h2) ?_).mono ?_
  · intro w' hk'
    have k4 := Kept.step hk' k2
    refine (as_num m t0 x0 e _ p old w' (leads_keep (Kept.step hk' k3) h3) (kept_cell hk' ca) (kept_cell k4 hp) ?_ ?_ ?_).mono fun _ _ ⟨he, hw⟩ => ⟨he, rfl, _, Kept.step (kept2 _ _ _) k4, hw⟩
    · rw [kept_frozen k4 lp]; exact hf
    · exact lt_of_cell (kept_cell hk' ca)
    · exact lt_of_cell (kept_cell k4 hp)
  · rintro r w' ⟨rfl, hR⟩
    exact ⟨true, rfl, hR⟩

/-- an error of a text -/
def TextIn (w : World) (n : Nat) (t : TypeId) (x : Value) : Prop := ∃ v0, Wraps w n t x 61 v0
theorem text_keep {w w' : World} {n : Nat} {t : TypeId} {x : Value} (h : TextIn w n t x) (hk : Kept w w') : TextIn w' n t x := by
  obtain ⟨v0, h⟩ := h
  exact ⟨v0, wraps_keep hk h⟩
theorem new_text (s : ByteArray) (w : World) : Calls Tryd.prog 18 #[.string s] w fun r w' => ∃ g : Nat, r = .returned (.iface 61 (.pointer (some ⟨g, 0, none⟩))) ∧ TextIn w' 0 61 (.pointer (some ⟨g, 0, none⟩)) ∧ Kept w w' := by
  go_enter Tryd.func18, Tryd.ntmps18
  go_wp2
  go_ret
  exact ⟨_, rfl, ⟨_, rfl, rfl⟩, kept_alloc _ _⟩
theorem wrap_text (n : Nat) (s : ByteArray) (t : TypeId) (x : Value) (w : World) (h : TextIn w n t x) : Calls Tryd.prog 13 #[.string s, .iface t x] w fun r w' => ∃ g : Nat, r = .returned (.iface 51 (.pointer (some ⟨g, 0, none⟩))) ∧ TextIn w' (n + 1) 51 (.pointer (some ⟨g, 0, none⟩)) ∧ Kept w w' := by
  obtain ⟨v0, h⟩ := h
  exact (wrap_any s t x w).mono fun _ _ ⟨he, hw⟩ => ⟨w.heap.size, he, ⟨v0, hw ▸ wraps_step s h⟩, hw ▸ kept_alloc _ _⟩
theorem kind_textIn (n : Nat) (t : TypeId) (x : Value) (w : World) (hg : ErrT w) (h : TextIn w n t x) :
    Calls Tryd.prog 16 #[.iface t x] w fun r w' => r = .returned (.int .i64 1) ∧ Kept w w' := by
  obtain ⟨v0, h⟩ := h
  exact kind_text n t x v0 w hg h
theorem join_in (B : Nat) (t0 t1 : TypeId) (x0 x1 : Value) (m n : Nat) (e addr code : Int) (w : World) (h0 : w.cell? ⟨B, 0, none⟩ = some (.iface t0 x0)) (h1 : w.cell? ⟨B, 1, none⟩ = some (.iface t1 x1)) (hn : NumIn w m t0 x0 e) (hp : PageIn w n t1 x1 addr code) :
    Calls Tryd.prog 19 #[.slice (some ⟨B, 0, none⟩) 2 2] w fun r w' => ∃ j : Nat, r = .returned (.iface 65 (.pointer (some ⟨j, 0, none⟩))) ∧ JoinIn w' j e addr code ∧ Kept w w' :=
  (join_any B t0 t1 x0 x1 w h0 h1).mono fun _ _ ⟨j, b, he, g1, g2, g3, hk⟩ => ⟨j, he, ⟨b, t0, t1, x0, x1, m, n, g1, g2, g3, num_keep hn hk, page_keep hp hk⟩, hk⟩
end Go.Proofs.YtngaimandbcpbaaDoor
