/- Layer 7: awake. -/
import Derived.Test.YtngaimandbcpbaaDoorFk
namespace Go.Proofs.YtngaimandbcpbaaDoor
set_option linter.unusedVariables false
set_option linter.unusedSimpArgs false
open Go.RowKit Go.Extern.Stop Go.Stop Go.Extern

theorem wraps_step {w : World} {n : Nat} {t tb : TypeId} {x xb : Value} (s : ByteArray) (h : Wraps w n t x tb xb) : Wraps (w.alloc (.cells #[.string s, .iface t x] 53)) (n + 1) 51 (.pointer (some ⟨w.heap.size, 0, none⟩)) tb xb :=
  ⟨rfl, _, _, _, rfl, by simp, by simp, wraps_keep (kept_alloc _ _) h⟩
theorem leads_step {w : World} {n : Nat} {t : TypeId} {x : Value} {e : Int} (s : ByteArray) (h : Leads w n t x e) : Leads (w.alloc (.cells #[.string s, .iface t x] 53)) (n + 1) 51 (.pointer (some ⟨w.heap.size, 0, none⟩)) e :=
  Or.inl ⟨rfl, _, _, _, rfl, by simp, by simp, leads_keep (kept_alloc _ _) h⟩
theorem leads_page (w : World) (g : Nat) : Leads w 1 44 (.pointer (some ⟨g, 0, none⟩)) 4 := Or.inr ⟨rfl, g, rfl, rfl, rfl⟩
theorem leads_num (w : World) (e : Int) : Leads w 0 37 (.int .i64 e) e := ⟨rfl, rfl⟩

/-- a page fault that lies in memory, wrapped n times: what is found, and where it leads -/
def PageIn (w : World) (n : Nat) (t : TypeId) (x : Value) (addr code : Int) : Prop :=
  ∃ g : Nat, Wraps w n t x 44 (.pointer (some ⟨g, 0, none⟩)) ∧ Leads w (n + 1) t x 4 ∧ w.cell? ⟨g, 0, none⟩ = some (.int .u64 addr) ∧ w.cell? ⟨g, 1, none⟩ = some (.int .i64 code)
theorem page_new (w : World) (addr code : Int) : PageIn (w.alloc (.cells #[.int .u64 addr, .int .i64 code] 34)) 0 44 (.pointer (some ⟨w.heap.size, 0, none⟩)) addr code :=
  ⟨_, ⟨rfl, rfl⟩, leads_page _ _, by simp, by simp⟩
theorem page_step {w : World} {n : Nat} {t : TypeId} {x : Value} {addr code : Int} (s : ByteArray) (h : PageIn w n t x addr code) : PageIn (w.alloc (.cells #[.string s, .iface t x] 53)) (n + 1) 51 (.pointer (some ⟨w.heap.size, 0, none⟩)) addr code := by
  obtain ⟨g, h1, h2, h3, h4⟩ := h
  exact ⟨g, wraps_step s h1, leads_step s h2, kept_cell (kept_alloc _ _) h3, kept_cell (kept_alloc _ _) h4⟩
theorem page_keep {w w' : World} {n : Nat} {t : TypeId} {x : Value} {addr code : Int} (h : PageIn w n t x addr code) (hk : Kept w w') : PageIn w' n t x addr code := by
  obtain ⟨g, h1, h2, h3, h4⟩ := h
  exact ⟨g, wraps_keep hk h1, leads_keep hk h2, kept_cell hk h3, kept_cell hk h4⟩

theorem of_pageIn (n : Nat) (t : TypeId) (x : Value) (addr code : Int) (w : World) (hg : ErrT w) (h : PageIn w n t x addr code) :
    Calls Tryd.prog 15 #[.iface t x] w fun r w' => r = .returned (.tuple #[.agg #[.int .u64 addr, .int .i64 code], .bool true]) ∧ Kept w w' := by
  obtain ⟨g, h1, h2, h3, h4⟩ := h
  exact of_page n t x g addr code w hg h1 h3 h4
theorem kind_pageIn (n : Nat) (t : TypeId) (x : Value) (addr code : Int) (w : World) (hg : ErrT w) (h : PageIn w n t x addr code) :
    Calls Tryd.prog 16 #[.iface t x] w fun r w' => r = .returned (.int .i64 4) ∧ Kept w w' := by
  obtain ⟨g, h1, h2, h3, h4⟩ := h
  exact kind_num (n + 1) t x 4 w hg h2
theorem is_pageIn (n : Nat) (t : TypeId) (x : Value) (addr code k : Int) (w : World) (h : PageIn w n t x addr code) :
    Calls Tryd.prog 17 #[.iface t x, .iface 37 (.int .i64 k)] w fun r w' => r = .returned (.bool ((4 : Int) == k)) ∧ w' = w := by
  obtain ⟨g, h1, h2, h3, h4⟩ := h
  exact is_any (n + 1) t x 4 k w h2

/-- a number, wrapped n times -/
def NumIn (w : World) (n : Nat) (t : TypeId) (x : Value) (e : Int) : Prop := Wraps w n t x 37 (.int .i64 e) ∧ Leads w n t x e
theorem num_new (w : World) (e : Int) : NumIn w 0 37 (.int .i64 e) e := ⟨⟨rfl, rfl⟩, ⟨rfl, rfl⟩⟩
theorem num_step {w : World} {n : Nat} {t : TypeId} {x : Value} {e : Int} (s : ByteArray) (h : NumIn w n t x e) : NumIn (w.alloc (.cells #[.string s, .iface t x] 53)) (n + 1) 51 (.pointer (some ⟨w.heap.size, 0, none⟩)) e :=
  ⟨wraps_step s h.1, leads_step s h.2⟩
theorem num_keep {w w' : World} {n : Nat} {t : TypeId} {x : Value} {e : Int} (h : NumIn w n t x e) (hk : Kept w w') : NumIn w' n t x e := ⟨wraps_keep hk h.1, leads_keep hk h.2⟩

theorem at_page (addr code : Int) (w : World) : Calls Tryd.prog 10 #[.int .u64 addr, .int .i64 code] w fun e w' => ∃ g : Nat, e = .returned (.iface 44 (.pointer (some ⟨g, 0, none⟩))) ∧ PageIn w' 0 44 (.pointer (some ⟨g, 0, none⟩)) addr code ∧ Kept w w' :=
  (at_any addr code w).mono fun _ _ ⟨he, hw⟩ => ⟨w.heap.size, he, hw ▸ page_new _ _ _, hw ▸ kept_alloc _ _⟩
theorem wrap_page (n : Nat) (s : ByteArray) (t : TypeId) (x : Value) (addr code : Int) (w : World) (h : PageIn w n t x addr code) : Calls Tryd.prog 13 #[.string s, .iface t x] w fun e w' => ∃ g : Nat, e = .returned (.iface 51 (.pointer (some ⟨g, 0, none⟩))) ∧ PageIn w' (n + 1) 51 (.pointer (some ⟨g, 0, none⟩)) addr code ∧ Kept w w' :=
  (wrap_any s t x w).mono fun _ _ ⟨he, hw⟩ => ⟨w.heap.size, he, hw ▸ page_step s h, hw ▸ kept_alloc _ _⟩
theorem wrap_num (n : Nat) (s : ByteArray) (t : TypeId) (x : Value) (e : Int) (w : World) (h : NumIn w n t x e) : Calls Tryd.prog 13 #[.string s, .iface t x] w fun r w' => ∃ g : Nat, r = .returned (.iface 51 (.pointer (some ⟨g, 0, none⟩))) ∧ NumIn w' (n + 1) 51 (.pointer (some ⟨g, 0, none⟩)) e ∧ Kept w w' :=
  (wrap_any s t x w).mono fun _ _ ⟨he, hw⟩ => ⟨w.heap.size, he, hw ▸ num_step s h, hw ▸ kept_alloc _ _⟩
theorem gp_num (s : ByteArray) (w : World) : Calls Tryd.prog 14 #[.string s] w fun r w' => ∃ g : Nat, r = .returned (.iface 51 (.pointer (some ⟨g, 0, none⟩))) ∧ NumIn w' 1 51 (.pointer (some ⟨g, 0, none⟩)) 5 ∧ Kept w w' :=
  (gp_any s w).mono fun _ _ ⟨he, hw⟩ => ⟨w.heap.size, he, hw ▸ num_step s (num_new _ _), hw ▸ kept_alloc _ _⟩
theorem kind_numIn (n : Nat) (t : TypeId) (x : Value) (e : Int) (w : World) (hg : ErrT w) (h : NumIn w n t x e) :
    Calls Tryd.prog 16 #[.iface t x] w fun r w' => r = .returned (.int .i64 e) ∧ Kept w w' := kind_num n t x e w hg h.2
theorem of_numIn (n : Nat) (t : TypeId) (x : Value) (e : Int) (w : World) (hg : ErrT w) (h : NumIn w n t x e) :
    Calls Tryd.prog 15 #[.iface t x] w fun r w' => r = .returned (.tuple #[.agg #[.int .u64 0, .int .i64 0], .bool false]) ∧ Kept w w' := of_none n t x e w hg h.1
theorem is_numIn (n : Nat) (t : TypeId) (x : Value) (e k : Int) (w : World) (h : NumIn w n t x e) :
    Calls Tryd.prog 17 #[.iface t x, .iface 37 (.int .i64 k)] w fun r w' => r = .returned (.bool (e == k)) ∧ w' = w := is_any n t x e k w h.2
theorem is_yes (n : Nat) (t : TypeId) (x : Value) (addr code : Int) (w : World) (h : PageIn w n t x addr code) :
    Calls Tryd.prog 17 #[.iface t x, .iface 37 (.int .i64 4)] w fun r w' => r = .returned (.bool true) ∧ w' = w := is_pageIn n t x addr code 4 w h
theorem is_no (n : Nat) (t : TypeId) (x : Value) (addr code : Int) (w : World) (h : PageIn w n t x addr code) :
    Calls Tryd.prog 17 #[.iface t x, .iface 37 (.int .i64 5)] w fun r w' => r = .returned (.bool false) ∧ w' = w := is_pageIn n t x addr code 5 w h

set_option maxHeartbeats 1600000 in
theorem awake7_any (w : World) (hg : ErrT w) :
    Calls Tryd.prog 9 #[] w fun e w' => e = .returned (.bool true) ∧ Kept w w' := by
  have HG := Lib.hid hg
  clear hg
  go_enter Tryd.func9, Tryd.ntmps9
  go_wp2_with fail
  refine (at_page _ _ _).mono ?_
  rintro e w1 ⟨g, rfl, hp, hk⟩
  have hP := Lib.hid hp
  have hK := Lib.hid hk
  clear hp hk
  go_wp2_with fail
  refine (wrap_page _ _ _ _ _ _ _ hP.out).mono ?_
  rintro e w2 ⟨g2, rfl, hp, hk⟩
  have hP2 := Lib.hid hp
  have hK2 := Lib.hid (Kept.step hk hK.out)
  clear hp hk hP hK
  go_wp2_with fail
  refine (of_pageIn _ _ _ _ _ _ (errT_keep HG.out hK2.out) hP2.out).mono ?_
  rintro e w3 ⟨rfl, hk⟩
  have hP3 := Lib.hid (page_keep (page_keep hP2.out hk) (kept_alloc w3 (.cells #[.int .u64 4096, .int .i64 2] 34)))
  have hK3 := Lib.hid (Kept.step (kept_alloc w3 (.cells #[.int .u64 4096, .int .i64 2] 34)) (Kept.step hk hK2.out))
  clear hk hP2 hK2
  go_wp2_with fail
  refine (kind_pageIn _ _ _ _ _ _ (errT_keep HG.out hK3.out) hP3.out).mono ?_
  rintro e w4 ⟨rfl, hk⟩
  have hP4 := Lib.hid (page_keep hP3.out hk)
  have hK4 := Lib.hid (Kept.step hk hK3.out)
  clear hk hP3 hK3
  go_wp2_with fail
  refine (is_yes _ _ _ _ _ _ hP4.out).mono ?_
  rintro e w5 ⟨rfl, rfl⟩
  go_wp2_with fail
  refine (kind_nil _).mono ?_
  rintro e w6 ⟨rfl, hk⟩
  have hK6 := Lib.hid (Kept.step hk hK4.out)
  clear hk hP4 hK4
  go_wp2_with fail
  refine (gp_num _ _).mono ?_
  rintro e w7 ⟨g7, rfl, hp, hk⟩
  have hP7 := Lib.hid hp
  have hK7 := Lib.hid (Kept.step hk hK6.out)
  clear hp hk hK6
  go_wp2_with fail
  refine (kind_numIn _ _ _ _ _ (errT_keep HG.out hK7.out) hP7.out).mono ?_
  rintro e w8 ⟨rfl, hk⟩
  have hK8 := Lib.hid (Kept.step hk hK7.out)
  clear hk hK7 hP7
  go_wp2_with fail
  go_ret
  exact ⟨rfl, hK8.out⟩
end Go.Proofs.YtngaimandbcpbaaDoor
