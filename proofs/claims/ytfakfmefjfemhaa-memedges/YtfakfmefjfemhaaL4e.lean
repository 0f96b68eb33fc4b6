/- The walk of MemEdges. -/
import Derived.Test.YtfakfmefjfemhaaMe
import Derived.Test.YtfakfmefjfemhaaFr
import Derived.Deep.RegionWith
namespace Go.Proofs.Ytfakfmefjfemhaa
set_option linter.unusedVariables false
set_option linter.unusedSimpArgs false
open Go.ChangeShapes Go.WideShapes Go.ChangeAt Go.RowKit Go.Joins

theorem w64_in {a : Int} (h0 : 0 ≤ a) (h1 : a < 18446744073709551616) : W64 a := ⟨h0, h1⟩

theorem peek_store {M : Int} {f : Int → Int} {a x : Int} (h : errS M a = 0) : peekV M (storeS M f a x) a = x := by
  unfold peekV storeS updF
  simp [h]

structure Edge (M S z out : Int) : Prop where
  s0 : 16384 ≤ S
  s1 : S ≤ 4194304
  e1 : getE M out = 2
  e2 : errS M out = 2
  e3 : errS M (S - 8) = 0
  e4 : errS M (S - 8 + z + 1) = 3
  e5 : getE M (S - 1) = 0

theorem edge_of {M z out : Int} (h : 14 ≤ M ∧ M ≤ 22) (hz : 0 ≤ z) (hz1 : z < 7) (ho : sizeM M ≤ out) : Edge M (sizeM M) z out := by
  obtain ⟨s0, s1, s2⟩ := sizeM_bd h
  refine ⟨s0, s1, if_pos ho, if_pos ho, ?_, ?_, if_neg (by omega)⟩
  · unfold errS; rw [if_neg (by omega), if_pos (by omega)]
  · unfold errS; rw [if_neg (by omega), if_neg (by omega)]

set_option maxRecDepth 100000 in
set_option maxHeartbeats 4000000 in
theorem memEdges_walk (b more x : Int) (w : World) (hb : 0 ≤ b ∧ b ≤ 255) (hm : W64 more) (hx : W64 x) :
    Calls Try.prog 8 #[.int .u8 b, .int .u64 more, .int .u64 x] w fun e w' => e = .returned (.bool true) ∧ Below w.heap.size w w' := by
  obtain ⟨t, ht, t0, t1⟩ : ∃ t : Int, b.tmod 9 = t ∧ 0 ≤ t ∧ t ≤ 8 := ⟨b % 9, Int.tmod_eq_emod_of_nonneg hb.1, by omega, by omega⟩
  obtain ⟨z, hz, z0, z1⟩ : ∃ z : Int, more.tmod 7 = z ∧ 0 ≤ z ∧ z < 7 := ⟨more % 7, Int.tmod_eq_emod_of_nonneg hm.1, by omega, by omega⟩
  obtain ⟨M, hM⟩ : ∃ M : Int, 14 + t = M := ⟨_, rfl⟩
  have hbits : 14 ≤ M ∧ M ≤ 22 := by omega
  have hmw := Lib.hid hm
  obtain ⟨m0, m1⟩ := hm
  by_cases ho : sizeM M < more
  · have hE := edge_of hbits z0 z1 (out := more) (by omega)
    have HP := peek_store (M := M) (f := fun _ => 0) (a := sizeM M - 8) (x := x) hE.e3
    obtain ⟨S, hS⟩ : ∃ S, sizeM M = S := ⟨_, rfl⟩
    rw [hS] at hE ho HP
    obtain ⟨s0, s1, e1, e2, e3, e4, e5⟩ := hE
    have hpw : IntKind.u64.wrap (2 ^ M.toNat) = S := by
      rw [← hS]; unfold sizeM at hS ⊢; exact wrap_in (by omega) (by omega)
    have how := hmw
    clear hS
    obtain ⟨A, hA⟩ : ∃ A, S - 8 = A := ⟨_, rfl⟩
    rw [hA] at e3 e4 HP
    go_enter Try.func8, Try.ntmps8
    go_wp2_with (first | (go_at_call 9; refine (awake4_any _).mono ?_; rintro e w0 ⟨rfl, hB0⟩) | (go_at_call 10; refine (newMem_any M _ hbits).mono ?_; rintro e w1 ⟨rfl, hM1, hB1⟩) | (go_at_call_of 20 (Value.pointer none); refine (mget_nil 0 _ (by decide)).mono ?_; rintro e w' ⟨rfl, rfl⟩) | (go_at_call 20; refine (mget_any hM1 _ how.out).mono ?_; rintro e w' ⟨rfl, rfl⟩) | (go_at_call_of 19 (Value.pointer none); refine (mload_nil 0 _ (by decide)).mono ?_; rintro e w' ⟨rfl, rfl⟩) | (go_at_call_of 19 (Value.int IntKind.u64 more); refine (bload hM1 (by decide) _ how.out).mono ?_; rintro e w2 ⟨rfl, hM2, hB2⟩) | (go_at_call 19; refine (bload hM3 (by decide) _ (w64_in (by omega) (by omega))).mono ?_; rintro e w4 ⟨rfl, hM4, hB4⟩) | (go_at_call_of 18 (Value.pointer none); refine (mstore_nil 0 1 _ (by decide)).mono ?_; rintro e w' ⟨rfl, rfl⟩) | (go_at_call_of 18 (Value.int IntKind.u64 A); refine (bstore hM2 (by decide) _ _ (w64_in (by omega) (by omega)) hx).mono ?_; rintro e w3 ⟨rfl, hM3, hB3⟩) | (go_at_call 18; refine (bstore hM4 (by decide) _ _ (w64_in (by omega) (by omega)) hx).mono ?_; rintro e w5 ⟨rfl, hM5, hB5⟩) | (go_at_call_of 22 (Value.pointer none); refine (mput_nil 0 1 _ (by decide)).mono ?_; rintro e w' ⟨rfl, rfl⟩) | (go_at_call 22; refine (bput hM5 (by decide) _ 1 (w64_in (by omega) (by omega)) (by decide) (by decide)).mono ?_; rintro e w6 ⟨rfl, hM6, hB6⟩) | (go_at_call 27; refine (mforget_nil _).mono ?_; rintro e w' ⟨rfl, rfl⟩) | (go_at_call 26; refine (mcopy_nil _).mono ?_; rintro e w' ⟨rfl, rfl⟩) | (go_at_call 14; refine (mtrace_nil _).mono ?_; rintro e w' ⟨rfl, rfl⟩) | (go_at_call 15; refine (mbits_nil _).mono ?_; rintro e w' ⟨rfl, rfl⟩))
    go_ret
    exact ⟨rfl, hB0.trans (((((hB1.trans hB2).trans hB3).trans hB4).trans hB5).trans hB6 |>.mono hB0.size)⟩
  · have hE := edge_of hbits z0 z1 (out := sizeM M) (by omega)
    have HP := peek_store (M := M) (f := fun _ => 0) (a := sizeM M - 8) (x := x) hE.e3
    obtain ⟨S, hS⟩ : ∃ S, sizeM M = S := ⟨_, rfl⟩
    rw [hS] at hE ho HP
    obtain ⟨s0, s1, e1, e2, e3, e4, e5⟩ := hE
    have hpw : IntKind.u64.wrap (2 ^ M.toNat) = S := by
      rw [← hS]; unfold sizeM at hS ⊢; exact wrap_in (by omega) (by omega)
    have how : Hid (W64 S) := Lib.hid (w64_in (by omega) (by omega))
    have ho' : more ≤ S := by omega
    clear ho
    clear hS
    obtain ⟨A, hA⟩ : ∃ A, S - 8 = A := ⟨_, rfl⟩
    rw [hA] at e3 e4 HP
    go_enter Try.func8, Try.ntmps8
    go_wp2_with (first | (go_at_call 9; refine (awake4_any _).mono ?_; rintro e w0 ⟨rfl, hB0⟩) | (go_at_call 10; refine (newMem_any M _ hbits).mono ?_; rintro e w1 ⟨rfl, hM1, hB1⟩) | (go_at_call_of 20 (Value.pointer none); refine (mget_nil 0 _ (by decide)).mono ?_; rintro e w' ⟨rfl, rfl⟩) | (go_at_call 20; refine (mget_any hM1 _ how.out).mono ?_; rintro e w' ⟨rfl, rfl⟩) | (go_at_call_of 19 (Value.pointer none); refine (mload_nil 0 _ (by decide)).mono ?_; rintro e w' ⟨rfl, rfl⟩) | (go_at_call_of 19 (Value.int IntKind.u64 S); refine (bload hM1 (by decide) _ how.out).mono ?_; rintro e w2 ⟨rfl, hM2, hB2⟩) | (go_at_call 19; refine (bload hM3 (by decide) _ (w64_in (by omega) (by omega))).mono ?_; rintro e w4 ⟨rfl, hM4, hB4⟩) | (go_at_call_of 18 (Value.pointer none); refine (mstore_nil 0 1 _ (by decide)).mono ?_; rintro e w' ⟨rfl, rfl⟩) | (go_at_call_of 18 (Value.int IntKind.u64 A); refine (bstore hM2 (by decide) _ _ (w64_in (by omega) (by omega)) hx).mono ?_; rintro e w3 ⟨rfl, hM3, hB3⟩) | (go_at_call 18; refine (bstore hM4 (by decide) _ _ (w64_in (by omega) (by omega)) hx).mono ?_; rintro e w5 ⟨rfl, hM5, hB5⟩) | (go_at_call_of 22 (Value.pointer none); refine (mput_nil 0 1 _ (by decide)).mono ?_; rintro e w' ⟨rfl, rfl⟩) | (go_at_call 22; refine (bput hM5 (by decide) _ 1 (w64_in (by omega) (by omega)) (by decide) (by decide)).mono ?_; rintro e w6 ⟨rfl, hM6, hB6⟩) | (go_at_call 27; refine (mforget_nil _).mono ?_; rintro e w' ⟨rfl, rfl⟩) | (go_at_call 26; refine (mcopy_nil _).mono ?_; rintro e w' ⟨rfl, rfl⟩) | (go_at_call 14; refine (mtrace_nil _).mono ?_; rintro e w' ⟨rfl, rfl⟩) | (go_at_call 15; refine (mbits_nil _).mono ?_; rintro e w' ⟨rfl, rfl⟩))
    go_ret
    exact ⟨rfl, hB0.trans (((((hB1.trans hB2).trans hB3).trans hB4).trans hB5).trans hB6 |>.mono hB0.size)⟩

end Go.Proofs.Ytfakfmefjfemhaa
