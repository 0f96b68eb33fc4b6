/- Layer 7: the walk of FaultPages. -/
import Derived.Test.YtngaimandbcpbaaDoorL7f
import Derived.Test.YtngaimandbcpbaaDoorFv
namespace Go.Proofs.YtngaimandbcpbaaDoor
set_option linter.unusedVariables false
set_option linter.unusedSimpArgs false
open Go.RowKit Go.Extern.Stop Go.Stop Go.Extern

/-- a page's two fields lie in block g -/
def PgAt (w : World) (g : Nat) (a c : Int) : Prop := w.cell? ⟨g, 0, none⟩ = some (.int .u64 a) ∧ w.cell? ⟨g, 1, none⟩ = some (.int .i64 c)
theorem pg_new (w : World) (a c : Int) : PgAt (w.alloc (.cells #[.int .u64 a, .int .i64 c] 34)) w.heap.size a c := ⟨by simp, by simp⟩
theorem pg_keep {w w' : World} {g : Nat} {a c : Int} (h : PgAt w g a c) (hk : Kept w w') : PgAt w' g a c := ⟨kept_cell hk h.1, kept_cell hk h.2⟩

theorem eqlPage_two (a b c : Int) (w : World) : (Op.equalIn 10000 34 (.agg #[.int .u64 a, .int .i64 c]) (.agg #[.int .u64 b, .int .i64 c])).run Tryd.prog w = .ok (a == b) w := by
  rw [eqlPage]; simp

theorem is_four (w : World) : Calls Tryd.prog 17 #[.iface 37 (.int .i64 4), .iface 37 (.int .i64 4)] w fun r w' => r = .returned (.bool true) ∧ w' = w := is_any 0 _ _ 4 4 w ⟨rfl, rfl⟩

set_option maxHeartbeats 1600000 in
set_option maxRecDepth 100000 in
theorem faultPages_walk (a b code : Int) (w : World) (hg : ErrT w) (hz : Tz w) (hp : Pow2 w) (a0 : 0 ≤ a) (a1 : a ≤ 18446744073709551615) (h2 : 0 ≤ code) (h3 : code ≤ 255) :
    Calls Tryd.prog 8 #[.int .u64 a, .int .u64 b, .int .u8 code] w fun e w' => e = .returned (.bool true) ∧ Kept w w' := by
  have HG := Lib.hid hg
  have hc1 := fun g w' (hk : Kept w w') (h : PgAt w' g a code) => error_any g a code w' a0 a1 h2 h3 (tz_keep hz hk) (kept_cell hk hp) h.1 h.2
  have hc2 := fun w' => page_words a code w' a0 a1 h2 h3
  have H1 := Lib.hid hc1
  have H2 := Lib.hid hc2
  clear hg hc1 hc2 hz hp a0 a1
  have q1 := eqlPage_self
  have q2 := eqlPage_two
  go_enter Tryd.func8, Tryd.ntmps8
  go_wp2_with fail
  refine (awake7_any _ HG.out).mono ?_
  rintro e w1 ⟨rfl, hk⟩
  have hK1 := Lib.hid (Kept.step (kept_alloc w1 (.cells #[.int .u64 a, .int .i64 code] 34)) hk)
  have hP1 := Lib.hid (pg_new w1 a code)
  clear hk
  go_wp2_with fail
  refine (at_page _ _ _).mono ?_
  rintro e w2 ⟨g2, rfl, hp, hk⟩
  have hA2 := Lib.hid hp
  have hP2 := Lib.hid (pg_keep hP1.out hk)
  have hK2 := Lib.hid (Kept.step hk hK1.out)
  clear hp hk hP1 hK1
  go_wp2_with fail
  refine (of_pageIn _ _ _ _ _ _ (errT_keep HG.out hK2.out) hA2.out).mono ?_
  rintro e w3 ⟨rfl, hk⟩
  have k3 := Kept.step (kept_alloc w3 (.cells #[.int .u64 a, .int .i64 code] 34)) hk
  have hX3 := Lib.hid (pg_new w3 a code)
  have hP3 := Lib.hid (pg_keep hP2.out k3)
  have hK3 := Lib.hid (Kept.step k3 hK2.out)
  clear hk k3 hA2 hP2 hK2
  go_wp2_with fail
  refine (at_page _ _ _).mono ?_
  rintro e w4 ⟨g4, rfl, hp, hk⟩
  have hA4 := Lib.hid hp
  have hX4 := Lib.hid (pg_keep hX3.out hk)
  have hP4 := Lib.hid (pg_keep hP3.out hk)
  have hK4 := Lib.hid (Kept.step hk hK3.out)
  clear hp hk hX3 hP3 hK3
  go_wp2_with fail
  refine (of_pageIn _ _ _ _ _ _ (errT_keep HG.out hK4.out) hA4.out).mono ?_
  rintro e w5 ⟨rfl, hk⟩
  have k5 := Kept.step (kept_alloc w5 (.cells #[.int .u64 b, .int .i64 code] 34)) hk
  have hX5 := pg_keep hX4.out k5
  have hP5 := pg_keep hP4.out k5
  have hK5 := Lib.hid (Kept.step k5 hK4.out)
  have HP5 := Lib.hid hP5
  obtain ⟨x0, x1⟩ := hX5
  obtain ⟨p0, p1⟩ := hP5
  clear hk k5 hA4 hX4 hP4 hK4
  go_wp2_with (first | (go_at_call 20; refine (unwrapP _ _).mono ?_; rintro e w' ⟨rfl, rfl⟩) | (go_at_call 17; refine (is_four _).mono ?_; rintro e w' ⟨rfl, rfl⟩))
  refine (H1.out _ _ hK5.out HP5.out).mono ?_
  rintro e w6 ⟨rfl, hk⟩
  have hK6 := Lib.hid (Kept.step hk hK5.out)
  clear hk hK5 HP5 x0 x1 p0 p1
  go_wp2_with fail
  refine (H2.out _).mono ?_
  rintro e w7 ⟨rfl, hk⟩
  have hK7 := Lib.hid (Kept.step hk hK6.out)
  clear hk hK6
  go_wp2_with fail
  go_ret
  exact ⟨rfl, hK7.out⟩
end Go.Proofs.YtngaimandbcpbaaDoor
