/- Proved: for every written words, every access with a root and control bits, and every address, RefwalkAgain returns true: what doesn't fault would go again as it went, to the same address; the second time nothing is written. The table of shifts and package errors' variable errorType hold, when the call begins, what the program's text lays there (the card ties it); no other condition. -/
import Derived.Test.YtopmmlcjlopmaaaGreatDoorRows
import Derived.Test.YtopmmlcjlopmaaaGreatDoorTie
import Derived.Test.YtopmmlcjlopmaaaGreatDoorCards
import Derived.Test.YtopmmlcjlopmaaaGreatDoorGL7fTeT9
import Derived.Test.YtopmmlcjlopmaaaGreatDoorGL9fL9aIb
import Derived.Test.YtopmmlcjlopmaaaGreatDoorGOqOuL8s
import Derived.WalkKit
import Derived.ProofKit
import Derived.OpenShut
import Derived.ChangeOld
import Derived.Below
import Derived.LaidMore
import Derived.Stop.Joined
import Derived.SevenTiedAt
namespace Go.Proofs.YtopmmlcjlopmaaaGreatDoor.refwalkAgain
set_option linter.unusedVariables false
set_option linter.unusedSimpArgs false
open Go.ChangeShapes Go.WideShapes Go.ChangeAt Go.RowKit Go.Joins

theorem own : ownKnob Tryz.prog.godebug = none := by kernel_rfl
theorem laidOut : laidOutB Tryz.prog = true := by kernel_rfl
theorem reads : readAllB Tryz.prog [22, 29, 23] = true := by kernel_rfl

set_option maxRecDepth 100000 in
theorem lifted (os : Os) (started : os.Started) (H : Type) (enc : TypeId × Value → H) :
    ReturnsInHanded {} Tryz.checked os 5 .any (fun w args => (Rows.refwalkAgainSpec.pre enc Tryz.prog Tryz.f5 [] false w args ∧ laidMetH Tryz.prog laid9 w) ∧ sizedMet enc Tryz.prog Tryz.f5 (OpenSpec.ofChange Rows.refwalkAgainSpec) false w args)
      (Rows.refwalkAgainSpec.post enc Tryz.prog Tryz.f5 false true false false) := by
  refine returnsInHanded_of_change_and (C := Tryz.checked) (X := fun w _ => laidMetH Tryz.prog laid9 w) (fun _ _ _ hh h => h.of_heap hh) own started (by kernel_rfl) Tryz.func5
    (ChangeSpec.witness_shaped (enc := enc) (C := Tryz.checked) (os := os) (X := fun w _ => laidMetH Tryz.prog laid9 w) false (World.doorLaid Tryz.prog 400 os) #[.slice none 0 0, .agg #[.int .u64 0, .int .i64 0, .bool false, .bool false, .bool false, .bool false, .bool false, .bool false], .int .u64 0] 8 rfl (World.shaped_of_RefB (by kernel_rfl) (by kernel_rfl)) (by kernel_rfl) (by kernel_rfl) (by kernel_rfl) (met9 os _)) ?_
  intro W base args ds gs before hval0 hW _ _ hL _
  have hval : ∀ (j : Nat) t v, Tryz.f5.params[j]? = some t → args[j]? = some v → Value.okWide Tryz.prog W .any base t v := hval0
  have hW' := hW
  obtain ⟨p, q, hA0, hV, rfl, hfz, hnd⟩ := hW
  have hA : DataW.TrodAll enc Tryz.prog W 0 (fun _ => true) true Tryz.f5.params.toList args.toList ds p := hA0
  rw [Tryz.params5] at hA hval
  have hK := hA
  obtain ⟨v0, vs0, d0, ds0, p0, q0, hargs, rfl, rfl, h0, r0⟩ := trodAll_cons hA
  obtain ⟨v1, vs1, d1, ds1, p1, q1, rfl, rfl, rfl, h1, r1⟩ := trodAll_cons r0
  obtain ⟨v2, vs2, d2, ds2, p2, q2, rfl, rfl, rfl, h2, r2⟩ := trodAll_cons r1
  obtain ⟨rfl, rfl, rfl⟩ := trodAll_nil r2
  obtain rfl : args = #[v0, v1, v2] := by cases args; simp_all
  obtain ⟨rfl, rfl⟩ := trodVars_none hV
  have hs := shifts9 hL
  have hg := errT9 hL
  obtain ⟨A, ds, c, rfl, hl, hd, hok⟩ := open_puts (hval 0 22 v0 rfl rfl) h0
  obtain ⟨k0, k1, b0, b1, b2, b3, b4, b5, rfl, hr⟩ := open_use (hval 1 29 v1 rfl rfl) h1
  obtain ⟨a2, rfl, rfl, rfl, w2⟩ := open_int Tryz.underlying23 (hval 2 23 v2 rfl rfl) h2
  refine (refwalkAgain_walk A c ds ⟨k0, k1, b0, b1, b2, b3, b4, b5⟩ a2 W hs hg hl hd hok hr (w64_of w2)).mono fun e W' ⟨he, bel⟩ => ?_
  subst he
  exact ⟨_, rfl, _, _, _, [], _, [], hW', trodAll_mk1 (shut_bool Tryz.underlying4 _), trodAll_below laidOut bel _ _ _ _ (readAll_of reads) hK, rfl, bel.frame _, fun h => by cases h⟩

theorem over : Rows.refwalkAgainRow.holds Tryz.pinned (OpenSpec.ofChange Rows.refwalkAgainSpec) :=
  OpenClaim.holds_of_wide 5 Tryz.f5 rfl rfl rfl rfl rfl rfl rfl ⟨rfl, rfl, rfl, rfl, rfl⟩ rfl rfl rfl rfl rfl (by kernel_rfl) Tryz.func5 (by kernel_rfl)
    (of_decide_eq_true (by kernel_rfl)) (by unfold Func.isWrapper; first | (rw [if_pos (by decide +kernel)]; kernel_rfl) | (rw [if_neg (by decide +kernel)]; exact ⟨rfl, rfl⟩))
    (fun os started H enc _ => lifted os started H enc)

theorem card : Rows.RefwalkAgainCardSaid :=
  Claim7.holds_tied_plain_at .later [] [.data, .handle] true (true, "3946437570e1fed25ed2a62bf12473f5a213a4ea02261441800d6899d52f026b") true
    over (fun _ h => by cases h) (by kernel_rfl) (fun _ h => by cases h) refwalkAgain_row_tie rfl ⟨rfl, rfl⟩ (by kernel_rfl) rfl
    (fun f fn hf hfn => by
      obtain rfl : f = 5 := Option.some.inj ((show Tryz.prog.funcNamed "dormer/dormerlaw09.RefwalkAgain" = some 5 by kernel_rfl).symm.trans hf) |>.symm
      obtain rfl : fn = Tryz.f5 := (Option.some.inj (Tryz.func5.symm.trans hfn)).symm
      exact ⟨by kernel_rfl, fun j t ht => by
        rw [Tryz.params5] at ht
        have hm : t ∈ [22, 29, 23] := by simpa using Array.mem_of_getElem? ht
        have hall : ([22, 29, 23].all fun u => !Tryz.prog.wantsStandIn u) = true := by kernel_rfl
        exact (show Tryz.prog.wantsStandIn t = false by simpa using List.all_eq_true.1 hall t hm)⟩)
    (by kernel_rfl)
end Go.Proofs.YtopmmlcjlopmaaaGreatDoor.refwalkAgain
namespace Go.Proofs.YtopmmlcjlopmaaaGreatDoor
theorem refwalkAgain_holds : Rows.RefwalkAgainCardSaid := refwalkAgain.card
#print axioms refwalkAgain_holds
end Go.Proofs.YtopmmlcjlopmaaaGreatDoor
