/- Proved: for every deeds, every deed and every number, TlbGreat returns true: a great page that is put is found all over it, where no small one is. The table of shifts, and package group's table of bits, hold, when the call begins, what the program's text lays there (the card ties them); no other condition. -/
import Derived.Test.YtddbjbdhbeijjaaDoorRows
import Derived.Test.YtddbjbdhbeijjaaDoorTie
import Derived.Test.YtddbjbdhbeijjaaDoorCards
import Derived.Test.YtddbjbdhbeijjaaDoorGQbQtQc
import Derived.Test.YtddbjbdhbeijjaaDoorGL13gL13dL13e
import Derived.Test.YtddbjbdhbeijjaaDoorGQoNmL13s
import Derived.WalkKit
import Derived.ProofKit
import Derived.OpenShut
import Derived.ChangeOld
import Derived.Below
import Derived.LaidMore
import Derived.Stop.Joined
import Derived.SevenTiedAt
namespace Go.Proofs.YtddbjbdhbeijjaaDoor.tlbGreat
set_option linter.unusedVariables false
set_option linter.unusedSimpArgs false
open Go.ChangeShapes Go.WideShapes Go.ChangeAt Go.RowKit Go.Joins

theorem own : ownKnob Tryd.prog.godebug = none := by kernel_rfl
theorem laidOut : laidOutB Tryd.prog = true := by kernel_rfl
theorem reads : readAllB Tryd.prog [22, 39, 31] = true := by kernel_rfl

set_option maxRecDepth 100000 in
theorem lifted (os : Os) (started : os.Started) (H : Type) (enc : TypeId × Value → H) :
    ReturnsInHanded {} Tryd.checked os 5 .any (fun w args => (Rows.tlbGreatSpec.pre enc Tryd.prog Tryd.f5 [] false w args ∧ laidMetH Tryd.prog laid13 w) ∧ sizedMet enc Tryd.prog Tryd.f5 (OpenSpec.ofChange Rows.tlbGreatSpec) false w args)
      (Rows.tlbGreatSpec.post enc Tryd.prog Tryd.f5 false true false false) := by
  refine returnsInHanded_of_change_and (C := Tryd.checked) (X := fun w _ => laidMetH Tryd.prog laid13 w) (fun _ _ _ hh h => h.of_heap hh) own started (by kernel_rfl) Tryd.func5
    (ChangeSpec.witness_shaped (enc := enc) (C := Tryd.checked) (os := os) (X := fun w _ => laidMetH Tryd.prog laid13 w) false (World.doorLaid Tryd.prog 400 os) #[.slice none 0 0, .agg #[.int .i64 0, .int .i64 0, .int .i64 0, .int .u64 0, .int .u64 0, .bool false, .bool false, .bool false, .bool false, .int .u8 0, .int .u64 0, .int .i64 0, .bool false, .bool false, .bool false, .bool false], .int .u64 0] 8 rfl (World.shaped_of_RefB (by kernel_rfl) (by kernel_rfl)) (by kernel_rfl) (by kernel_rfl) (by kernel_rfl) (met13 os _)) ?_
  intro W base args ds gs before hval0 hW _ _ hL _
  have hval : ∀ (j : Nat) t v, Tryd.f5.params[j]? = some t → args[j]? = some v → Value.okWide Tryd.prog W .any base t v := hval0
  have hW' := hW
  obtain ⟨p, q, hA0, hV, rfl, hfz, hnd⟩ := hW
  have hA : DataW.TrodAll enc Tryd.prog W 0 (fun _ => true) true Tryd.f5.params.toList args.toList ds p := hA0
  rw [Tryd.params5] at hA hval
  have hK := hA
  obtain ⟨v0, vs0, d0, ds0, p0, q0, hargs, rfl, rfl, h0, r0⟩ := trodAll_cons hA
  obtain ⟨v1, vs1, d1, ds1, p1, q1, rfl, rfl, rfl, h1, r1⟩ := trodAll_cons r0
  obtain ⟨v2, vs2, d2, ds2, p2, q2, rfl, rfl, rfl, h2, r2⟩ := trodAll_cons r1
  obtain ⟨rfl, rfl, rfl⟩ := trodAll_nil r2
  obtain rfl : args = #[v0, v1, v2] := by cases args; simp_all
  obtain ⟨rfl, rfl⟩ := trodVars_none hV
  have hs := tabs13 hL
  obtain ⟨A, ds, c, rfl, hl, hd, hok⟩ := open_dts (hval 0 22 v0 rfl rfl) h0
  obtain ⟨y, rfl, hy⟩ := open_dt (hval 1 39 v1 rfl rfl) h1
  obtain ⟨kd, p9, pk, a, ⟨l0, l1, l2, l3, l4, l5⟩, ⟨g0, g1, g2, g3, g4, g5⟩⟩ := y
  obtain ⟨a2, rfl, rfl, rfl, w2⟩ := open_int Tryd.underlying31 (hval 2 31 v2 rfl rfl) h2
  refine (tlbGreat_walk A c ds W hs hl hd hok kd p9 pk a l0 l5 g0 g1 l1 l2 l3 l4 g2 g3 g4 g5 a2 hy.p hy.pk hy.a hy.l (w64_of w2)).mono fun e W' ⟨he, bel⟩ => ?_
  subst he
  exact ⟨_, rfl, _, _, _, [], _, [], hW', trodAll_mk1 (shut_bool Tryd.underlying4 _), trodAll_below laidOut bel _ _ _ _ (readAll_of reads) hK, rfl, bel.frame _, fun h => by cases h⟩

theorem over : Rows.tlbGreatRow.holds Tryd.pinned (OpenSpec.ofChange Rows.tlbGreatSpec) :=
  OpenClaim.holds_of_wide 5 Tryd.f5 rfl rfl rfl rfl rfl rfl rfl ⟨rfl, rfl, rfl, rfl, rfl⟩ rfl rfl rfl rfl rfl (by kernel_rfl) Tryd.func5 (by kernel_rfl)
    (of_decide_eq_true (by kernel_rfl)) (by unfold Func.isWrapper; first | (rw [if_pos (by decide +kernel)]; kernel_rfl) | (rw [if_neg (by decide +kernel)]; exact ⟨rfl, rfl⟩))
    (fun os started H enc _ => lifted os started H enc)

theorem card : Rows.TlbGreatCardSaid :=
  Claim7.holds_tied_plain_at .later [] [.data, .data] true (true, "0007dc1f4904ec6090d13a45fea0e40f12552a3fc1085b6cf636c78052abfd77") false
    over (fun _ h => by cases h) (by kernel_rfl) (fun _ h => by cases h) tlbGreat_row_tie rfl ⟨rfl, rfl⟩ (by kernel_rfl) rfl
    (fun f fn hf hfn => by
      obtain rfl : f = 5 := Option.some.inj ((show Tryd.prog.funcNamed "dormer/dormerlaw13.TlbGreat" = some 5 by kernel_rfl).symm.trans hf) |>.symm
      obtain rfl : fn = Tryd.f5 := (Option.some.inj (Tryd.func5.symm.trans hfn)).symm
      exact ⟨by kernel_rfl, fun j t ht => by
        rw [Tryd.params5] at ht
        have hm : t ∈ [22, 39, 31] := by simpa using Array.mem_of_getElem? ht
        have hall : ([22, 39, 31].all fun u => !Tryd.prog.wantsStandIn u) = true := by kernel_rfl
        exact (show Tryd.prog.wantsStandIn t = false by simpa using List.all_eq_true.1 hall t hm)⟩)
    (by kernel_rfl)
end Go.Proofs.YtddbjbdhbeijjaaDoor.tlbGreat
namespace Go.Proofs.YtddbjbdhbeijjaaDoor
theorem tlbGreat_holds : Rows.TlbGreatCardSaid := tlbGreat.card
#print axioms tlbGreat_holds
end Go.Proofs.YtddbjbdhbeijjaaDoor
