/- Several texts of ours in one: Gu, Er, Et. -/
import Derived.Test.YtopmmlcjlopmaaaGreatDoorGGbRgHb
import Derived.Test.YtopmmlcjlopmaaaGreatDoorGHfHgGc
import Derived.Test.YtopmmlcjlopmaaaGreatDoorGMeEmEa
import Derived.Test.YtopmmlcjlopmaaaGreatDoorGVaVrFr
import Derived.LoopTactic
import Derived.Lib.SmallJoins
import Derived.StillTailTactics
/- Contracts of dormerref06: Code. -/
namespace Go.Proofs.YtopmmlcjlopmaaaGreatDoor
set_option linter.unusedVariables false
set_option linter.unusedSimpArgs false
open Go.ChangeShapes Go.WideShapes Go.ChangeAt Go.RowKit Go.Joins

set_option maxHeartbeats 1600000 in
theorem rcode2_any (user ac wp nxe smep smap p r : Bool) (w : World) :
    Calls Tryz.prog 77 #[accV 2 user ac, ctlV wp nxe smep smap, .bool p, .bool r] w fun e w' => e = .returned (.int .i64 (codeF p true user r false)) ∧ Below w.heap.size w w' := by
  cases p <;> cases user <;> cases r
  all_goals
    go_enter Tryz.func77, Tryz.ntmps77
    go_wp2
    go_ret
    exact ⟨rfl, below2 _ _ _⟩

set_option maxHeartbeats 1600000 in
theorem rcode3_any (user ac wp nxe smep smap p r : Bool) (w : World) :
    Calls Tryz.prog 77 #[accV 3 user ac, ctlV wp nxe smep smap, .bool p, .bool r] w fun e w' => e = .returned (.int .i64 (codeF p false user r (smep || nxe))) ∧ Below w.heap.size w w' := by
  cases p <;> cases user <;> cases r <;> cases smep <;> cases nxe
  all_goals
    go_enter Tryz.func77, Tryz.ntmps77
    go_wp2
    go_ret
    exact ⟨rfl, below2 _ _ _⟩

set_option maxHeartbeats 1600000 in
theorem rcode0_any (k : Int) (user ac wp nxe smep smap p r : Bool) (w : World) (c2 : (k == 2) = false) (c3 : (k == 3) = false) :
    Calls Tryz.prog 77 #[accV k user ac, ctlV wp nxe smep smap, .bool p, .bool r] w fun e w' => e = .returned (.int .i64 (codeF p false user r false)) ∧ Below w.heap.size w w' := by
  cases p <;> cases user <;> cases r
  all_goals
    go_enter Tryz.func77, Tryz.ntmps77
    go_wp2
    go_ret
    exact ⟨rfl, below2 _ _ _⟩

theorem rcode_any (k : Int) (user ac wp nxe smep smap p r : Bool) (w : World) :
    Calls Tryz.prog 77 #[accV k user ac, ctlV wp nxe smep smap, .bool p, .bool r] w fun e w' => e = .returned (.int .i64 (codeF p (k == 2) user r (fetF k smep nxe))) ∧ Below w.heap.size w w' := by
  by_cases h2 : k = 2
  · subst h2; exact rcode2_any _ _ _ _ _ _ _ _ _
  · by_cases h3 : k = 3
    · subst h3; exact rcode3_any _ _ _ _ _ _ _ _ _
    · have c2 : (k == 2) = false := by simp [h2]
      have c3 : (k == 3) = false := by simp [h3]
      rw [fet0 _ _ c3, c2]
      exact rcode0_any _ _ _ _ _ _ _ _ _ _ c2 c3
end Go.Proofs.YtopmmlcjlopmaaaGreatDoor
/- Contracts of dormerref05: what each call of the document's own answer returns. -/
namespace Go.Proofs.YtopmmlcjlopmaaaGreatDoor
set_option linter.unusedVariables false
set_option linter.unusedSimpArgs false
open Go.ChangeShapes Go.WideShapes Go.ChangeAt Go.RowKit Go.Joins

theorem rtable_any (x : Int) (w : World) (hx : W64 x) :
    Calls Tryz.prog 76 #[.int .u64 x] w fun e w' => e = .returned (.int .u64 (tableF x)) ∧ w = w' := by
  have e := Lib.hid (table_get hx)
  go_enter Tryz.func76, Tryz.ntmps76
  go_wp2_with (go_at_call 112; refine (rget_any _ _ _ _ hx).mono ?_; rintro e w' ⟨rfl, rfl⟩)
  go_ret
  exact ⟨ret_int e.out, rfl⟩

theorem rleaf_any (x l : Int) (w : World) (hx : W64 x) :
    Calls Tryz.prog 74 #[.int .u64 x, .int .i64 l] w fun e w' => e = .returned (.bool (leafF x l)) ∧ w = w' := by
  by_cases h1 : l = 1
  · subst h1
    go_enter Tryz.func74, Tryz.ntmps74
    go_wp2
    go_ret
    exact ⟨rfl, rfl⟩
  · by_cases h2 : l = 2
    · subst h2
      rw [leaf_two]
      go_enter Tryz.func74, Tryz.ntmps74
      go_wp2_with (go_at_call 71; refine (rbit_any _ _ _ hx).mono ?_; rintro e w' ⟨rfl, rfl⟩)
      go_ret
      exact ⟨rfl, rfl⟩
    · by_cases h3 : l = 3
      · subst h3
        rw [leaf_three]
        go_enter Tryz.func74, Tryz.ntmps74
        go_wp2_with (go_at_call 71; refine (rbit_any _ _ _ hx).mono ?_; rintro e w' ⟨rfl, rfl⟩)
        go_ret
        exact ⟨rfl, rfl⟩
      · rw [leaf_else x h1 h2 h3]
        have c1 : (l == 1) = false := by simp [h1]
        have c2 : (l == 2) = false := by simp [h2]
        have c3 : (l == 3) = false := by simp [h3]
        clear h1 h2 h3
        go_enter Tryz.func74, Tryz.ntmps74
        go_wp2_with (go_at_call 71; refine (rbit_any _ _ _ hx).mono ?_; rintro e w' ⟨rfl, rfl⟩)
        go_ret
        exact ⟨rfl, rfl⟩

theorem some_any (x : Int) (lo hi : Nat) (w : World) (hx : W64 x) (h : lo ≤ hi + 1) (h63 : hi ≤ 63) :
    Calls Tryz.prog 110 #[.int .u64 x, .int .i64 lo, .int .i64 hi] w fun e w' => e = .returned (.bool (hasF x (maskF lo (hi + 1 - lo)))) ∧ w = w' := by
  obtain ⟨r, hr0⟩ : ∃ r, hasF x (maskF lo (hi + 1 - lo)) = r := ⟨_, rfl⟩
  rw [hr0]
  have hr := Lib.hid hr0
  clear hr0
  go_enter Tryz.func110, Tryz.ntmps110
  go_wp2
  go_loop [7] (fun i => ∃ k : Nat, lo ≤ k ∧ k ≤ hi + 1 ∧ i = .int .i64 k ∧ ∀ j, lo ≤ j → j < k → tb x j = false) (fun i => (hi + 1 - intOf i).toNat)
  case atStart => exact ⟨lo, by omega, h, rfl, fun j h1 h2 => absurd h2 (by omega)⟩
  case round =>
    obtain ⟨k, hk1, hk2, rfl, hall⟩ := hrel
    have hA := Lib.hid hall
    clear hall
    by_cases hlt : k ≤ hi
    · have hB := Lib.hid (bit_nat hx (show k < 64 by omega))
      cases hb : bitF x k
      · go_wp2_with (go_at_call 71; refine (rbit_any _ _ _ hx).mono ?_; rintro e w' ⟨rfl, rfl⟩)
        go_round
        case rel =>
          refine ⟨k + 1, by omega, by omega, by go_num, fun j h1 h2 => ?_⟩
          by_cases c : j = k
          · subst c; exact hB.out.symm.trans hb
          · exact hA.out j h1 (by omega)
        case measure => simp [intOf]; omega
      · go_wp2_with (go_at_call 71; refine (rbit_any _ _ _ hx).mono ?_; rintro e w' ⟨rfl, rfl⟩)
        go_ret
        exact ⟨ret_bool (by rw [← hr.out, has_some hx h h63 hk1 hlt (hB.out.symm.trans hb)]), rfl⟩
    · go_wp2
      go_ret
      exact ⟨ret_bool (by rw [← hr.out, has_none hx (fun j h1 h2 => hA.out j h1 (by omega))]), rfl⟩

theorem rslot_any (t a l : Int) (w : World) (ht : W64 t) (ha : W64 a) :
    Calls Tryz.prog 69 #[.int .u64 t, .int .u64 a, .int .i64 l] w fun e w' => e = .returned (.int .u64 (slotF t a l)) ∧ w = w' := by
  have e := Lib.hid (slot_wrap t a l)
  go_enter Tryz.func69, Tryz.ntmps69
  go_wp2_with (first | (go_at_call 76; refine (rtable_any _ _ ht).mono ?_; rintro e w' ⟨rfl, rfl⟩) | (go_at_call 108; refine (rindex_any _ _ _ ha).mono ?_; rintro e w' ⟨rfl, rfl⟩))
  go_ret
  exact ⟨ret_int e.out, rfl⟩

theorem rframe_any (x l : Int) (w : World) (hx : W64 x) :
    Calls Tryz.prog 75 #[.int .u64 x, .int .i64 l] w fun e w' => e = .returned (.int .u64 (frameF x l)) ∧ w = w' := by
  obtain ⟨t0, t1⟩ := table_bd x
  cases h : leafF x l
  · rw [frame_else h]
    go_enter Tryz.func75, Tryz.ntmps75
    go_wp2_with (first | (go_at_call 76; refine (rtable_any _ _ hx).mono ?_; rintro e w' ⟨rfl, rfl⟩) | (go_at_call 74; refine (rleaf_any _ _ _ hx).mono ?_; rintro e w' ⟨rfl, rfl⟩))
    go_ret
    exact ⟨rfl, rfl⟩
  · rw [frame_leaf h]
    have hz := leaf_size h
    have e := Lib.hid (frame_wrap x l hz)
    obtain ⟨b0, b1⟩ := size_bd l
    have b2 : 1 ≤ sizeF l := by omega
    go_enter Tryz.func75, Tryz.ntmps75
    go_wp2_with (first | (go_at_call 76; refine (rtable_any _ _ hx).mono ?_; rintro e w' ⟨rfl, rfl⟩) | (go_at_call 74; refine (rleaf_any _ _ _ hx).mono ?_; rintro e w' ⟨rfl, rfl⟩) | (go_at_call 111; refine (rsize_any _ _).mono ?_; rintro e w' ⟨rfl, rfl⟩))
    go_ret
    exact ⟨ret_int e.out, rfl⟩

end Go.Proofs.YtopmmlcjlopmaaaGreatDoor
/- dormerref05.Parse: what the document's own answer says of a word. -/
namespace Go.Proofs.YtopmmlcjlopmaaaGreatDoor
set_option linter.unusedVariables false
set_option linter.unusedSimpArgs false
open Go.ChangeShapes Go.WideShapes Go.ChangeAt Go.RowKit Go.Joins

theorem stillOf {P : Program} {f : FuncId} {args : Array Value} {w : World} {v : Value} (h : Calls P f args w fun e w' => e = .returned v ∧ w = w') : Calls P f args w fun e w' => e = .returned v ∧ w' = w :=
  h.mono fun _ _ ⟨he, hw⟩ => ⟨he, hw.symm⟩

theorem size_alloc (v : World) (o : Obj) : (v.alloc o).heap.size = v.heap.size + 1 := by simp

end Go.Proofs.YtopmmlcjlopmaaaGreatDoor
