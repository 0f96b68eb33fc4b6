/- Layer 7: the walks of FaultFound and FaultGP. -/
import Derived.Test.YtngaimandbcpbaaDoorL7
namespace Go.Proofs.YtngaimandbcpbaaDoor
set_option linter.unusedVariables false
set_option linter.unusedSimpArgs false
open Go.RowKit Go.Extern.Stop Go.Stop Go.Extern

/-- n strings lie from A on -/
def StrsIn (w : World) (A : Option Addr) (n : Nat) : Prop := ∀ k, k < n → ∃ (b off : Nat) (s : ByteArray), A = some ⟨b, off, none⟩ ∧ w.cell? ⟨b, off + k, none⟩ = some (.string s)
theorem strs_keep {w w' : World} {A : Option Addr} {n : Nat} (h : StrsIn w A n) (hk : Kept w w') : StrsIn w' A n := fun k hkn => by
  obtain ⟨b, off, s, h1, h2⟩ := h k hkn
  exact ⟨b, off, s, h1, kept_cell hk h2⟩

set_option maxRecDepth 100000 in
theorem eqlPage (a b c d : Int) (w : World) : (Op.equalIn 10000 34 (.agg #[.int .u64 a, .int .i64 c]) (.agg #[.int .u64 b, .int .i64 d])).run Tryd.prog w = .ok (a == b && c == d) w := by
  have u3 := Tryd.underlying3
  have u22 := Tryd.underlying22
  have hS : Tryd.prog.underlying 34 = some (.struct (Tryd.prog.fieldsOf 34)) := by kernel_rfl
  have hp : Tryd.prog.stoodInHeld 34 = false := by kernel_rfl
  rw [show (10000 : Nat) = 9999 + 1 from rfl, run_equalIn_agg w 9999 34 _ _ hS hp]
  simp only [Program.fieldsOf, Tryd.underlying34]
  go_simp
  by_cases h1 : a = b <;> by_cases h2 : c = d <;> simp [h1, h2]

theorem eqlPage_self (a c : Int) (w : World) : (Op.equalIn 10000 34 (.agg #[.int .u64 a, .int .i64 c]) (.agg #[.int .u64 a, .int .i64 c])).run Tryd.prog w = .ok true w := by
  rw [eqlPage]; simp

theorem is_gp (n : Nat) (t : TypeId) (x : Value) (w : World) (h : NumIn w n t x 5) :
    Calls Tryd.prog 17 #[.iface t x, .iface 37 (.int .i64 5)] w fun r w' => r = .returned (.bool true) ∧ w' = w := is_numIn n t x 5 5 w h
theorem is_nogp (n : Nat) (t : TypeId) (x : Value) (w : World) (h : NumIn w n t x 5) :
    Calls Tryd.prog 17 #[.iface t x, .iface 37 (.int .i64 4)] w fun r w' => r = .returned (.bool false) ∧ w' = w := is_numIn n t x 5 4 w h

set_option maxHeartbeats 1600000 in
theorem faultFound_walk (addr code : Int) (A : Option Addr) (n c : Nat) (w : World) (hg : ErrT w) (hS : StrsIn w A n) (hn : n ≤ maxLen) :
    Calls Tryd.prog 4 #[.int .u64 addr, .int .i64 code, .slice A n c] w fun e w' => e = .returned (.bool true) ∧ Kept w w' := by
  have HG := Lib.hid hg
  have HS := Lib.hid hS
  clear hg hS
  have q := eqlPage_self
  go_enter Tryd.func4, Tryd.ntmps4
  go_wp2_with fail
  refine (awake7_any _ HG.out).mono ?_
  rintro e w1 ⟨rfl, hk⟩
  have hK1 := Lib.hid hk
  clear hk
  go_wp2_with fail
  refine (at_page _ _ _).mono ?_
  rintro e w2 ⟨g, rfl, hp, hk⟩
  have hP2 := Lib.hid hp
  have hK2 := Lib.hid (Kept.step hk hK1.out)
  clear hp hk hK1
  go_wp2_with fail
  go_loopg [8, 9] n (fun g1 s8 s9 wr => ∃ (k m : Nat) (t : TypeId) (x : Value), k ≤ n ∧ k ≤ 30 ∧ n - k ≤ g1 ∧ s8 = .iface t x ∧ s9 = .int .i64 k ∧ PageIn wr m t x addr code ∧ Kept w wr)
  case atStart => exact ⟨0, 0, _, _, Nat.zero_le _, Nat.zero_le _, by omega, rfl, rfl, hP2.out, hK2.out⟩
  case round =>
    obtain ⟨k, m, t, x, hkn, hk30, hgk, rfl, rfl, hp, hk⟩ := hrel
    have hP := Lib.hid hp
    have hK := Lib.hid hk
    clear hp hk hP2 hK2
    rcases (by omega : (k < n ∧ k < 30) ∨ (¬ k < n) ∨ (k < n ∧ ¬ k < 30)) with ⟨h1, h2⟩ | h1 | ⟨h1, h2⟩
    · obtain ⟨b, off, s, rfl, hs⟩ := strs_keep HS.out hK.out k h1
      go_wp2_with fail
      refine (wrap_page _ _ _ _ _ _ _ hP.out).mono ?_
      rintro e w3 ⟨g3, rfl, hp, hk⟩
      have hP3 := Lib.hid hp
      have hK3 := Lib.hid (Kept.step hk hK.out)
      clear hp hk hs
      go_wp2_with fail
      go_roundg (n - (k + 1))
      case measure => omega
      case rel => exact ⟨k + 1, _, _, _, by omega, by omega, Nat.le_refl _, rfl, by go_num, hP3.out, hK3.out⟩
    all_goals
      go_wp2_with fail
      refine (of_pageIn _ _ _ _ _ _ (errT_keep HG.out hK.out) hP.out).mono ?_
      rintro e w3 ⟨rfl, hk⟩
      have hP3 := Lib.hid (page_keep (page_keep hP.out hk) (kept_alloc w3 (.cells #[.int .u64 addr, .int .i64 code] 34)))
      have hK3 := Lib.hid (Kept.step (kept_alloc w3 (.cells #[.int .u64 addr, .int .i64 code] 34)) (Kept.step hk hK.out))
      clear hk hP hK
      go_wp2_with fail
      refine (kind_pageIn _ _ _ _ _ _ (errT_keep HG.out hK3.out) hP3.out).mono ?_
      rintro e w4 ⟨rfl, hk⟩
      have hP4 := Lib.hid (page_keep hP3.out hk)
      have hK4 := Lib.hid (Kept.step hk hK3.out)
      clear hk hP3 hK3
      go_wp2_with fail
      refine (is_yes _ _ _ _ _ _ hP4.out).mono ?_
      rintro e w5 ⟨rfl, rfl⟩
      go_wp2_with fail
      refine (is_no _ _ _ _ _ _ hP4.out).mono ?_
      rintro e w6 ⟨rfl, rfl⟩
      go_wp2_with fail
      go_ret
      exact ⟨rfl, hK4.out⟩

set_option maxHeartbeats 1600000 in
theorem faultGP_walk (s0 : ByteArray) (A : Option Addr) (n c : Nat) (w : World) (hg : ErrT w) (hS : StrsIn w A n) (hn : n ≤ maxLen) :
    Calls Tryd.prog 5 #[.string s0, .slice A n c] w fun e w' => e = .returned (.bool true) ∧ Kept w w' := by
  have HG := Lib.hid hg
  have HS := Lib.hid hS
  clear hg hS
  go_enter Tryd.func5, Tryd.ntmps5
  go_wp2_with fail
  refine (awake7_any _ HG.out).mono ?_
  rintro e w1 ⟨rfl, hk⟩
  have hK1 := Lib.hid hk
  clear hk
  go_wp2_with fail
  refine (gp_num _ _).mono ?_
  rintro e w2 ⟨g, rfl, hp, hk⟩
  have hP2 := Lib.hid hp
  have hK2 := Lib.hid (Kept.step hk hK1.out)
  clear hp hk hK1
  go_wp2_with fail
  go_loopg [6, 7] n (fun g1 s8 s9 wr => ∃ (k m : Nat) (t : TypeId) (x : Value), k ≤ n ∧ k ≤ 30 ∧ n - k ≤ g1 ∧ s8 = .iface t x ∧ s9 = .int .i64 k ∧ NumIn wr m t x 5 ∧ Kept w wr)
  case atStart => exact ⟨0, 1, _, _, Nat.zero_le _, Nat.zero_le _, by omega, rfl, rfl, hP2.out, hK2.out⟩
  case round =>
    obtain ⟨k, m, t, x, hkn, hk30, hgk, rfl, rfl, hp, hk⟩ := hrel
    have hP := Lib.hid hp
    have hK := Lib.hid hk
    clear hp hk hP2 hK2
    rcases (by omega : (k < n ∧ k < 30) ∨ (¬ k < n) ∨ (k < n ∧ ¬ k < 30)) with ⟨h1, h2⟩ | h1 | ⟨h1, h2⟩
    · obtain ⟨b, off, s, rfl, hs⟩ := strs_keep HS.out hK.out k h1
      go_wp2_with fail
      refine (wrap_num _ _ _ _ _ _ hP.out).mono ?_
      rintro e w3 ⟨g3, rfl, hp, hk⟩
      have hP3 := Lib.hid hp
      have hK3 := Lib.hid (Kept.step hk hK.out)
      clear hp hk hs
      go_wp2_with fail
      go_roundg (n - (k + 1))
      case measure => omega
      case rel => exact ⟨k + 1, _, _, _, by omega, by omega, Nat.le_refl _, rfl, by go_num, hP3.out, hK3.out⟩
    all_goals
      go_wp2_with fail
      refine (of_numIn _ _ _ _ _ (errT_keep HG.out hK.out) hP.out).mono ?_
      rintro e w3 ⟨rfl, hk⟩
      have hP3 := Lib.hid (num_keep (num_keep hP.out hk) (kept_alloc w3 (.cells #[.int .u64 0, .int .i64 0] 34)))
      have hK3 := Lib.hid (Kept.step (kept_alloc w3 (.cells #[.int .u64 0, .int .i64 0] 34)) (Kept.step hk hK.out))
      clear hk hP hK
      go_wp2_with fail
      refine (kind_numIn _ _ _ _ _ (errT_keep HG.out hK3.out) hP3.out).mono ?_
      rintro e w4 ⟨rfl, hk⟩
      have hP4 := Lib.hid (num_keep hP3.out hk)
      have hK4 := Lib.hid (Kept.step hk hK3.out)
      clear hk hP3 hK3
      go_wp2_with fail
      refine (is_gp _ _ _ _ hP4.out).mono ?_
      rintro e w5 ⟨rfl, rfl⟩
      go_wp2_with fail
      refine (is_nogp _ _ _ _ hP4.out).mono ?_
      rintro e w6 ⟨rfl, rfl⟩
      go_wp2_with fail
      go_ret
      exact ⟨rfl, hK4.out⟩
end Go.Proofs.YtngaimandbcpbaaDoor
