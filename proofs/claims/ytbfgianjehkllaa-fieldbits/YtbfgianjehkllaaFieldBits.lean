/- Proved: for every word, byte and bool, FieldBits returns true: a field is its bits, a word with a bit turned twice is as it was, a bit is a field of one; no condition. -/
import Derived.Test.YtbfgianjehkllaaRows
import Derived.Test.YtbfgianjehkllaaN
import Derived.Test.YtbfgianjehkllaaM
import Derived.WalkKit
import Derived.ProofKit
import Derived.OpenShut
namespace Go.Proofs.Ytbfgianjehkllaa.fieldBits
open Go.ChangeShapes Go.WideShapes Go.ChangeAt Go.RowKit
set_option linter.unusedVariables false      -- a walk need not use every 'w<i>' (that an integer argument fits its kind)

theorem own : ownKnob Try.prog.godebug = none := by kernel_rfl

/- The walk. -/
theorem walk (a0 : Int) (a1 : Int) (a2 : Bool) (w0 : (Lit.int .u64 a0).wf = true) (w1 : (Lit.int .u8 a1).wf = true) (w : World) :
    Calls Try.prog 7 #[.int .u64 a0, .int .u8 a1, .bool a2] w fun e w' => e = .returned (.bool true) ∧ Grown w w' := by
  have h0 := w64_of w0
  obtain ⟨b1, c1⟩ := bounds_u8 w1
  clear w0 w1
  have e1 := bit_with h0 (k := a1 % 64) (by omega) (by omega) a2
  have e2 := with_back h0 (k := a1 % 64) (by omega) (by omega) a2
  have e3 := get_bit h0 (k := a1 % 64) (by omega) (by omega)
  have e4 := mask_shl (k := a1 % 64) (by omega) (by omega)
  have n1 : I64 1 := i64_one
  have n2 : I64 64 := ⟨by decide, by decide⟩
  go_enter Try.func7, Try.ntmps7
  go_wp2_with (first | (go_at_call 9; refine (awake_any _).mono ?_; rintro e w' ⟨rfl, rfl⟩) | (go_at_call 14; refine (bit_any _ _ _).mono ?_; rintro e w' ⟨rfl, rfl⟩) | (go_at_call 18; refine (with_any _ _ _ _).mono ?_; rintro e w' ⟨rfl, rfl⟩))
  go_loop [11, 12] (fun n j => ∃ m : Nat, m ≤ 64 ∧ j = .int .i64 ((m : Int) - 1) ∧ n = .int .u64 (a0 / 2 ^ m)) (fun _ j => (1 + intOf j).toNat)
  case atStart => exact ⟨64, by omega, rfl, by rw [top_zero h0]⟩
  case round =>
    obtain ⟨m, hm, rfl, rfl⟩ := hrel
    match m, hm with
    | 0, _ =>
      go_wp2_with (first | (go_at_call 14; refine (bit_any _ _ _).mono ?_; rintro e w' ⟨rfl, rfl⟩) | (go_at_call 18; refine (with_any _ _ _ _).mono ?_; rintro e w' ⟨rfl, rfl⟩) | (go_at_call 12; refine (get_any _ _ _ _ n1).mono ?_; rintro e w' ⟨rfl, rfl⟩) | (go_at_call 10; refine (mask_any _ _ _ (by first | exact n1 | exact n2)).mono ?_; rintro e w' ⟨rfl, rfl⟩))
      go_ret
      exact ⟨ret_bool (by rw [mask_all]; rfl), Grown.refl _⟩
    | k + 1, hk =>
      have hj : ((k + 1 : Nat) : Int) - 1 = (k : Int) := by omega
      rw [hj]
      clear hj
      cases hb : bitF a0 k
      · have hy := Lib.hid (half_no h0 k ((bit_nat h0 (by omega)).symm.trans hb))
        go_wp2_with (first | (go_at_call 14; refine (bit_any _ _ _).mono ?_; rintro e w' ⟨rfl, rfl⟩))
        go_round
        case rel => exact ⟨k, by omega, rfl, by rw [← hy.out]⟩
        case measure => simp [intOf]; omega
      · have hy := Lib.hid (half_yes h0 k ((bit_nat h0 (by omega)).symm.trans hb))
        go_wp2_with (first | (go_at_call 14; refine (bit_any _ _ _).mono ?_; rintro e w' ⟨rfl, rfl⟩))
        go_round
        case rel => exact ⟨k, by omega, rfl, by rw [← hy.out]⟩
        case measure => simp [intOf]; omega

/- The row. -/
set_option maxRecDepth 100000 in
theorem lifted (os : Os) (started : os.Started) (H : Type) (enc : TypeId × Value → H) :
    ReturnsInHanded {} Try.checked os 7 .any (Rows.fieldBitsSpec.pre6 enc Try.prog Try.f7 Rows.fieldBitsRow.domain false) (Rows.fieldBitsSpec.post enc Try.prog Try.f7 false true false false) := by
  refine returnsInHanded_of_change (C := Try.checked) own started (by kernel_rfl) Try.func7
    (ChangeSpec.witness6 (enc := enc) (C := Try.checked) false ⟨#[], #[.int .u64 0, .int .u8 0, .bool false], []⟩ 8 (by kernel_rfl) (by kernel_rfl) (by kernel_rfl) (by kernel_rfl)) ?_
  intro W base args ds gs before hval0 hW hcnd _
  have hval : ∀ (j : Nat) t v, Try.f7.params[j]? = some t → args[j]? = some v → Value.okWide Try.prog W .any base t v := hval0
  have hW' := hW
  obtain ⟨p, q, hA0, hV, rfl, hfz, hnd⟩ := hW
  have hA : DataW.TrodAll enc Try.prog W 0 (fun _ => true) true Try.f7.params.toList args.toList ds p := hA0
  rw [Try.params7] at hA hval
  obtain ⟨v0, vs0, d0, ds0, p0, q0, hargs, rfl, rfl, h0, r0⟩ := trodAll_cons hA
  obtain ⟨v1, vs1, d1, ds1, p1, q1, rfl, rfl, rfl, h1, r1⟩ := trodAll_cons r0
  obtain ⟨v2, vs2, d2, ds2, p2, q2, rfl, rfl, rfl, h2, r2⟩ := trodAll_cons r1
  obtain ⟨rfl, rfl, rfl⟩ := trodAll_nil r2
  obtain rfl : args = #[v0, v1, v2] := by cases args; simp_all
  obtain ⟨rfl, rfl⟩ := trodVars_none hV
  obtain ⟨a0, rfl, rfl, rfl, w0⟩ := open_int Try.underlying22 (hval 0 22 v0 rfl rfl) h0
  obtain ⟨a1, rfl, rfl, rfl, w1⟩ := open_int Try.underlying5 (hval 1 5 v1 rfl rfl) h1
  obtain ⟨a2, rfl, rfl, rfl⟩ := open_bool Try.underlying4 (hval 2 4 v2 rfl rfl) h2
  clear hA0 hval0
  simp only [List.append_nil] at hW'
  refine (walk a0 a1 a2 w0 w1 W).mono fun e W' ⟨he, hg⟩ => ?_
  subst he
  exact ⟨_, rfl, post_of_same (pa := []) (pv := []) hW' (fun _ _ _ => (trodAll_cons_mk (shut_bool Try.underlying4 _) trodAll_mk0)) (fun sp _ => (trodAll_cons_mk (shut_int Try.underlying22 w0) (trodAll_cons_mk (shut_int Try.underlying5 w1) (trodAll_cons_mk (shut_bool Try.underlying4 _) trodAll_mk0)))) (fun _ _ => rfl) rfl
    (hg.frame _) hg.2.1 (ok_one (by kernel_rfl) rfl (okWide_bool_mk Try.underlying4 _))⟩

theorem over : Rows.fieldBitsRow.holds Try.pinned (OpenSpec.ofChange Rows.fieldBitsSpec) :=
  OpenClaim.holds_of_wide 7 Try.f7 rfl rfl rfl rfl rfl rfl rfl ⟨rfl, rfl, rfl, rfl, rfl⟩ rfl rfl rfl rfl rfl (by kernel_rfl) Try.func7 (by kernel_rfl)
    (of_decide_eq_true (by kernel_rfl)) (by unfold Func.isWrapper; first | (rw [if_pos (by decide +kernel)]; kernel_rfl) | (rw [if_neg (by decide +kernel)]; exact ⟨rfl, rfl⟩))
    (fun os started H enc _ => lifted os started H enc)


theorem proved : Rows.FieldBitsSaid :=
  over
end Go.Proofs.Ytbfgianjehkllaa.fieldBits
namespace Go.Proofs.Ytbfgianjehkllaa
theorem fieldBits_holds : Rows.FieldBitsSaid := fieldBits.proved
#print axioms fieldBits_holds
end Go.Proofs.Ytbfgianjehkllaa
