/- The walk of RightUsers. -/
import Derived.Test.YtdkpahlkgdkloaaL6
import Derived.Deep.Cut
namespace Go.Proofs.Ytdkpahlkgdkloaa
set_option linter.unusedVariables false
set_option linter.unusedSimpArgs false
open Go.ChangeShapes Go.WideShapes Go.ChangeAt Go.RowKit Go.Joins

/-- two rights lie in blocks g, g + 1, a user's access and another one's in h, h + 1; nothing that was there has turned -/
def Users (w wr : World) (h : Nat) (a b c a' b' c' : Bool) (k : Int) : Prop :=
  RgtAt wr w.heap.size a b c ∧ RgtAt wr (w.heap.size + 1) a' b' c' ∧ AccAt wr h k true false ∧ AccAt wr (h + 1) k false false ∧ w.heap.size + 1 < wr.heap.size ∧ h + 1 < wr.heap.size ∧ Kept w wr
theorem users_keep {w w1 w2 : World} {h : Nat} {a b c a' b' c' : Bool} {k : Int} (H : Users w w1 h a b c a' b' c' k) (hk : Kept w1 w2) : Users w w2 h a b c a' b' c' k := by
  obtain ⟨h1, h2, h3, h4, h5, h6, h7⟩ := H
  have hs := hk.size
  exact ⟨rgt_keep h1 (by omega) hk, rgt_keep h2 (by omega) hk, acc_keep h3 (by omega) hk, acc_keep h4 (by omega) hk, by omega, by omega, Kept.step hk h7⟩
theorem users_out {w w1 : World} {h : Nat} {a b c a' b' c' : Bool} {k : Int} (H : Users w w1 h a b c a' b' c' k) :
    RgtAt w1 w.heap.size a b c ∧ RgtAt w1 (w.heap.size + 1) a' b' c' ∧ AccAt w1 h k true false ∧ AccAt w1 (h + 1) k false false := ⟨H.1, H.2.1, H.2.2.1, H.2.2.2.1⟩
/-- a control lies in block g -/
def CtlIn (w : World) (g : Nat) (a b c d : Bool) : Prop := CtlAt w g a b c d ∧ g < w.heap.size
theorem ctlIn_keep {w1 w2 : World} {g : Nat} {a b c d : Bool} (H : CtlIn w1 g a b c d) (hk : Kept w1 w2) : CtlIn w2 g a b c d := ⟨ctl_keep H.1 H.2 hk, Nat.lt_of_lt_of_le H.2 hk.size⟩
theorem ctlIn_out {w : World} {g : Nat} {a b c d : Bool} (H : CtlIn w g a b c d) : CtlAt w g a b c d := H.1
theorem ctlIn_new (w : World) (a b c d : Bool) (t : TypeId) : CtlIn (w.alloc (.cells #[.bool a, .bool b, .bool c, .bool d] t)) w.heap.size a b c d := ⟨ctl_new _ _ _ _ _ _, by simp⟩

def MayIs (a b c : Bool) (k : Int) (u e : Bool) (b0 b1 b2 b3 : Bool) (r : Bool) : Prop := ∀ W, Calls Try.prog 11 #[rgtV a b c, accV k u e, ctlV b0 b1 b2 b3] W fun e W' => e = .returned (.bool r) ∧ Kept W W'
theorem MayIs.go {a b c : Bool} {k : Int} {u e b0 b1 b2 b3 r : Bool} (h : MayIs a b c k u e b0 b1 b2 b3 r) (W : World) : Calls Try.prog 11 #[rgtV a b c, accV k u e, ctlV b0 b1 b2 b3] W fun e W' => e = .returned (.bool r) ∧ Kept W W' := h W
theorem may_is {a b c : Bool} {k : Int} {u e b0 b1 b2 b3 r : Bool} (h : mayF a b c k u e b0 b2 b3 = r) : MayIs a b c k u e b0 b1 b2 b3 r := by subst h; exact fun W => may_any _ _ _ _ _ _ _ _ _ _ W

theorem may_user (a b c : Bool) (k : Int) (e b0 b2 b3 : Bool) : mayF a b c k true e b0 b2 b3 = (b && if k = 2 then a else if k = 1 then true else if k = 3 then c else false) := by
  unfold mayF mayWF mayRF mayEF
  by_cases h2 : k = 2
  · simp [h2, Bool.and_comm]
  · by_cases h1 : k = 1
    · simp [h1]
    · by_cases h3 : k = 3
      · simp [h3, Bool.and_comm]
      · simp [h1, h2, h3]
theorem may_other (a b c : Bool) (k : Int) (b0 : Bool) (h : mayF a b c k true false b0 false false = true) : mayF a b c k false false b0 false false = true := by
  rw [may_user] at h
  unfold mayF mayWF mayRF mayEF
  by_cases h2 : k = 2
  · simp [h2] at *; simp [h]
  · by_cases h1 : k = 1
    · simp [h1]
    · by_cases h3 : k = 3
      · simp [h3] at *; simp [h]
      · simp [h1, h2, h3] at h
theorem may_more (a b c a' b' c' : Bool) (k : Int) (b0 b2 b3 : Bool) (hl : leastF a b c a' b' c' = true) (h : mayF a b c k true false b0 b2 b3 = true) : mayF a' b' c' k true false b0 b2 b3 = true := by
  rw [may_user] at *
  unfold leastF at hl
  revert h hl
  by_cases h2 : k = 2
  · cases a <;> cases b <;> cases c <;> cases a' <;> cases b' <;> cases c' <;> simp [h2]
  · by_cases h1 : k = 1
    · cases a <;> cases b <;> cases c <;> cases a' <;> cases b' <;> cases c' <;> simp [h1]
    · by_cases h3 : k = 3
      · cases a <;> cases b <;> cases c <;> cases a' <;> cases b' <;> cases c' <;> simp [h3]
      · simp [h1, h2, h3]

/-- what the calls of a round answer -/
theorem users_is (a b c a' b' c' : Bool) (k : Int) (b0 b1 b2 b3 : Bool) :
    ∃ l m m' o : Bool, (∀ W, Calls Try.prog 15 #[rgtV a b c, rgtV a' b' c'] W fun e W' => e = .returned (.bool l) ∧ Kept W W') ∧ MayIs a b c k true false b0 b1 b2 b3 m ∧ MayIs a' b' c' k true false b0 b1 b2 b3 m' ∧ MayIs a b c k false false b0 b1 b2 b3 o ∧
      (l = false ∨ l = true ∧ m = false ∨ l = true ∧ m = true ∧ m' = true) ∧ (m = false ∨ m = true ∧ b2 = true ∨ m = true ∧ b2 = false ∧ b3 = true ∨ m = true ∧ b2 = false ∧ b3 = false ∧ o = true) := by
  refine ⟨_, _, _, _, fun W => least_any a b c a' b' c' W, may_is rfl, may_is rfl, may_is rfl, ?_, ?_⟩
  · have h := may_more a b c a' b' c' k b0 b2 b3
    cases hl : leastF a b c a' b' c'
    · exact .inl rfl
    · cases hm : mayF a b c k true false b0 b2 b3
      · exact .inr (.inl ⟨rfl, rfl⟩)
      · exact .inr (.inr ⟨rfl, rfl, h hl hm⟩)
  · cases hm : mayF a b c k true false b0 b2 b3
    · exact .inl rfl
    · cases b2
      · cases b3
        · exact .inr (.inr (.inr ⟨rfl, rfl, rfl, may_other _ _ _ _ _ hm⟩))
        · exact .inr (.inr (.inl ⟨rfl, rfl, rfl⟩))
      · exact .inr (.inl ⟨rfl, rfl⟩)

set_option maxRecDepth 100000 in
set_option maxHeartbeats 3200000 in
theorem rightUsers_walk (a b c a' b' c' : Bool) (k : Int) (w : World) :
    Calls Try.prog 6 #[rgtV a b c, rgtV a' b' c', .int .i64 k] w fun e w' => e = .returned (.bool true) ∧ Below w.heap.size w w' := by
  go_enter Try.func6, Try.ntmps6
  go_wp2_with fail
  refine (awake6_any _).mono ?_
  rintro e w1 ⟨rfl, hb1⟩
  have R1 : RgtAt w1 w.heap.size a b c := rgt_keep (rgt_keep (rgt_new _ _ _ _ _) (by simp) (kept_alloc _ _)) (by simp; omega) hb1
  have S1 : RgtAt w1 (w.heap.size + 1) a' b' c' := by
    have h := rgt_new (w.alloc (.cells #[.bool a, .bool b, .bool c] 23)) a' b' c' 23
    rw [size_alloc'] at h
    exact rgt_keep h (by simp) hb1
  have lt1 : w.heap.size + 1 < w1.heap.size := by have := hb1.size; simp at this; omega
  have K1 : Kept w w1 := Kept.step hb1 (Kept.step (kept_alloc _ _) (kept_alloc _ _))
  have U1 : Hid (Users w ((w1.alloc (.cells #[.int .i64 k, .bool true, .bool false] 27)).alloc (.cells #[.int .i64 k, .bool false, .bool false] 27)) w1.heap.size a b c a' b' c' k) := by
    refine ⟨rgt_keep (rgt_keep R1 (by omega) (kept_alloc _ _)) (by simp; omega) (kept_alloc _ _), rgt_keep (rgt_keep S1 (by omega) (kept_alloc _ _)) (by simp; omega) (kept_alloc _ _), acc_keep (acc_new _ _ _ _ _) (by simp) (kept_alloc _ _), ?_, by simp; omega, by simp, Kept.step (kept_alloc _ _) (Kept.step (kept_alloc _ _) K1)⟩
    have h := acc_new (w1.alloc (.cells #[.int .i64 k, .bool true, .bool false] 27)) k false false 27
    rw [size_alloc'] at h
    exact h
  clear hb1 R1 S1 K1
  go_wp2
  go_loopw [10] (fun i wr => ∃ n : Nat, n ≤ 16 ∧ i = .int .i64 n ∧ Users w wr w1.heap.size a b c a' b' c' k) (fun i _ => (16 - intOf i).toNat)
  case atStart => exact ⟨0, by omega, rfl, U1.out⟩
  case round =>
    obtain ⟨n, hn, rfl, hU⟩ := hrel
    clear U1
    by_cases hl : n < 16
    · obtain ⟨b0, b1, b2, b3, C0⟩ := ctl_some n hl
      have C := Lib.hid C0
      clear C0
      obtain ⟨l, m, m', o, D0, M1, M2, M3, f1, f2⟩ := users_is a b c a' b' c' k b0 b1 b2 b3
      have D := Lib.hid D0
      clear D0
      go_wp2_with fail
      refine (C.out _).mono ?_
      rintro e w2 ⟨rfl, hb2⟩
      have hU2 := users_keep (users_keep hU hb2) (kept_alloc _ (.cells #[.bool b0, .bool b1, .bool b2, .bool b3] 30))
      have hC2 := ctlIn_new w2 b0 b1 b2 b3 30
      have hlt2 : w2.heap.size < (w2.alloc (.cells #[.bool b0, .bool b1, .bool b2, .bool b3] 30)).heap.size := by simp
      clear hb2 hU
      go_upto_region 8 with fail
      generalize w2.alloc (.cells #[.bool b0, .bool b1, .bool b2, .bool b3] 30) = w3 at *
      obtain ⟨⟨_, _, _⟩, ⟨_, _, _⟩, ⟨_, _, _⟩, ⟨_, _, _⟩⟩ := users_out hU2
      obtain ⟨_, _, _, _⟩ := ctlIn_out hC2
      rcases f1 with rfl | ⟨rfl, rfl⟩ | ⟨rfl, rfl, rfl⟩ <;> rcases f2 with f2 | ⟨f2, rfl⟩ | ⟨f2, rfl, rfl⟩ | ⟨f2, rfl, rfl, rfl⟩ <;> first | cases f2 | subst f2 | skip
      all_goals
        go_wp2_with (first | (go_at_call 15; refine (D.out _).mono ?_; rintro e w4 ⟨rfl, hk⟩; have hUx := users_keep (by assumption) hk; have hCx := ctlIn_keep (by assumption) hk; obtain ⟨⟨_, _, _⟩, ⟨_, _, _⟩, ⟨_, _, _⟩, ⟨_, _, _⟩⟩ := users_out hUx; obtain ⟨_, _, _, _⟩ := ctlIn_out hCx) | (go_at_call 11; (first | (with_reducible refine (M1.go _).mono ?_) | (with_reducible refine (M2.go _).mono ?_) | (with_reducible refine (M3.go _).mono ?_)); rintro e w4 ⟨rfl, hk⟩; have hUx := users_keep (by assumption) hk; have hCx := ctlIn_keep (by assumption) hk; obtain ⟨⟨_, _, _⟩, ⟨_, _, _⟩, ⟨_, _, _⟩, ⟨_, _, _⟩⟩ := users_out hUx; obtain ⟨_, _, _, _⟩ := ctlIn_out hCx))
        go_roundw
        all_goals first | (simp [intOf]; omega) | exact ⟨n + 1, by omega, by go_num, by assumption⟩
    · go_wp2
      go_ret
      exact ⟨rfl, hU.2.2.2.2.2.2⟩
end Go.Proofs.Ytdkpahlkgdkloaa
