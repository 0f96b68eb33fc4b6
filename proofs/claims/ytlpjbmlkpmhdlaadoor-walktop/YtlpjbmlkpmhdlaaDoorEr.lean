/- Contracts of dormerref05: what each call of the document's own answer returns. -/
import Derived.Test.YtlpjbmlkpmhdlaaDoorEa
import Derived.Test.YtlpjbmlkpmhdlaaDoorVr
namespace Go.Proofs.YtlpjbmlkpmhdlaaDoor
set_option linter.unusedVariables false
set_option linter.unusedSimpArgs false
open Go.ChangeShapes Go.WideShapes Go.ChangeAt Go.RowKit Go.Joins

theorem rtable_any (x : Int) (w : World) (hx : W64 x) :
    Calls Tryd.prog 50 #[.int .u64 x] w fun e w' => e = .returned (.int .u64 (tableF x)) ∧ w = w' := by
  have e := Lib.hid (table_get hx)
  go_enter Tryd.func50, Tryd.ntmps50
  go_wp2_with (go_at_call 74; refine (rget_any _ _ _ _ hx).mono ?_; rintro e w' ⟨rfl, rfl⟩)
  go_ret
  exact ⟨ret_int e.out, rfl⟩

theorem rleaf_any (x l : Int) (w : World) (hx : W64 x) :
    Calls Tryd.prog 48 #[.int .u64 x, .int .i64 l] w fun e w' => e = .returned (.bool (leafF x l)) ∧ w = w' := by
  by_cases h1 : l = 1
  · subst h1
    go_enter Tryd.func48, Tryd.ntmps48
    go_wp2
    go_ret
    exact ⟨rfl, rfl⟩
  · by_cases h2 : l = 2
    · subst h2
      rw [leaf_two]
      go_enter Tryd.func48, Tryd.ntmps48
      go_wp2_with (go_at_call 45; refine (rbit_any _ _ _ hx).mono ?_; rintro e w' ⟨rfl, rfl⟩)
      go_ret
      exact ⟨rfl, rfl⟩
    · by_cases h3 : l = 3
      · subst h3
        rw [leaf_three]
        go_enter Tryd.func48, Tryd.ntmps48
        go_wp2_with (go_at_call 45; refine (rbit_any _ _ _ hx).mono ?_; rintro e w' ⟨rfl, rfl⟩)
        go_ret
        exact ⟨rfl, rfl⟩
      · rw [leaf_else x h1 h2 h3]
        have c1 : (l == 1) = false := by simp [h1]
        have c2 : (l == 2) = false := by simp [h2]
        have c3 : (l == 3) = false := by simp [h3]
        clear h1 h2 h3
        go_enter Tryd.func48, Tryd.ntmps48
        go_wp2_with (go_at_call 45; refine (rbit_any _ _ _ hx).mono ?_; rintro e w' ⟨rfl, rfl⟩)
        go_ret
        exact ⟨rfl, rfl⟩

theorem some_any (x : Int) (lo hi : Nat) (w : World) (hx : W64 x) (h : lo ≤ hi + 1) (h63 : hi ≤ 63) :
    Calls Tryd.prog 72 #[.int .u64 x, .int .i64 lo, .int .i64 hi] w fun e w' => e = .returned (.bool (hasF x (maskF lo (hi + 1 - lo)))) ∧ w = w' := by
  obtain ⟨r, hr0⟩ : ∃ r, hasF x (maskF lo (hi + 1 - lo)) = r := ⟨_, rfl⟩
  rw [hr0]
  have hr := Lib.hid hr0
  clear hr0
  go_enter Tryd.func72, Tryd.ntmps72
  go_wp2
  go_loop [7] (fun i => ∃ k : Nat, lo ≤ k ∧ k ≤ hi + 1 ∧ i = .int .i64 k ∧ ∀ j, lo ≤ j → j < k → tb x j = false) (fun i => (hi + 1 - intOf i).toNat)
  case atStart => exact ⟨lo, by omega, h, rfl, fun j h1 h2 => absurd h2 (by omega)⟩
  case round =>
    obtain ⟨k, hk1, hk2, rfl, hall⟩ := hrel
    have hA := Lib.hid hall
    clear hall
    by_cases hlt : k ≤ hi
    · have hB := Lib.hid (bit_nat hx (show k < 64 by omega))
      cases hb : bitF x k
      · go_wp2_with (go_at_call 45; refine (rbit_any _ _ _ hx).mono ?_; rintro e w' ⟨rfl, rfl⟩)
        go_round
        case rel =>
          refine ⟨k + 1, by omega, by omega, by go_num, fun j h1 h2 => ?_⟩
          by_cases c : j = k
          · subst c; exact hB.out.symm.trans hb
          · exact hA.out j h1 (by omega)
        case measure => simp [intOf]; omega
      · go_wp2_with (go_at_call 45; refine (rbit_any _ _ _ hx).mono ?_; rintro e w' ⟨rfl, rfl⟩)
        go_ret
        exact ⟨ret_bool (by rw [← hr.out, has_some hx h h63 hk1 hlt (hB.out.symm.trans hb)]), rfl⟩
    · go_wp2
      go_ret
      exact ⟨ret_bool (by rw [← hr.out, has_none hx (fun j h1 h2 => hA.out j h1 (by omega))]), rfl⟩

theorem rslot_any (t a l : Int) (w : World) (ht : W64 t) (ha : W64 a) :
    Calls Tryd.prog 43 #[.int .u64 t, .int .u64 a, .int .i64 l] w fun e w' => e = .returned (.int .u64 (slotF t a l)) ∧ w = w' := by
  have e := Lib.hid (slot_wrap t a l)
  go_enter Tryd.func43, Tryd.ntmps43
  go_wp2_with (first | (go_at_call 50; refine (rtable_any _ _ ht).mono ?_; rintro e w' ⟨rfl, rfl⟩) | (go_at_call 70; refine (rindex_any _ _ _ ha).mono ?_; rintro e w' ⟨rfl, rfl⟩))
  go_ret
  exact ⟨ret_int e.out, rfl⟩

theorem rframe_any (x l : Int) (w : World) (hx : W64 x) :
    Calls Tryd.prog 49 #[.int .u64 x, .int .i64 l] w fun e w' => e = .returned (.int .u64 (frameF x l)) ∧ w = w' := by
  obtain ⟨t0, t1⟩ := table_bd x
  cases h : leafF x l
  · rw [frame_else h]
    go_enter Tryd.func49, Tryd.ntmps49
    go_wp2_with (first | (go_at_call 50; refine (rtable_any _ _ hx).mono ?_; rintro e w' ⟨rfl, rfl⟩) | (go_at_call 48; refine (rleaf_any _ _ _ hx).mono ?_; rintro e w' ⟨rfl, rfl⟩))
    go_ret
    exact ⟨rfl, rfl⟩
  · rw [frame_leaf h]
    have hz := leaf_size h
    have e := Lib.hid (frame_wrap x l hz)
    obtain ⟨b0, b1⟩ := size_bd l
    have b2 : 1 ≤ sizeF l := by omega
    go_enter Tryd.func49, Tryd.ntmps49
    go_wp2_with (first | (go_at_call 50; refine (rtable_any _ _ hx).mono ?_; rintro e w' ⟨rfl, rfl⟩) | (go_at_call 48; refine (rleaf_any _ _ _ hx).mono ?_; rintro e w' ⟨rfl, rfl⟩) | (go_at_call 73; refine (rsize_any _ _).mono ?_; rintro e w' ⟨rfl, rfl⟩))
    go_ret
    exact ⟨ret_int e.out, rfl⟩

end Go.Proofs.YtlpjbmlkpmhdlaaDoor
