/- Several texts of ours in one: Va, Vr, Fr. -/
import Derived.Test.YtiihhlmddmicjaaDoorGBvAM
import Derived.Test.YtiihhlmddmicjaaDoorGVmRN
import Derived.Below
import Derived.OwnWalk
import Derived.ProofKit
import Derived.OpenShut
import Derived.Carry
import Derived.ChangeOld
import Derived.Lib.SmallJoins
import Derived.Deep.QuietTactic
/- Contracts of package va: what each call returns, where the table of shifts holds what the program's text lays there. -/
namespace Go.Proofs.YtiihhlmddmicjaaDoor
set_option linter.unusedVariables false
set_option linter.unusedSimpArgs false
open Go.ChangeShapes Go.WideShapes Go.ChangeAt Go.RowKit

/-- the table of shifts, as it is laid -/
def Shifts (w : World) : Prop :=
  w.cell? ⟨0, 0, none⟩ = some (.int .i64 12) ∧ w.cell? ⟨0, 1, none⟩ = some (.int .i64 21) ∧ w.cell? ⟨0, 2, none⟩ = some (.int .i64 30) ∧ w.cell? ⟨0, 3, none⟩ = some (.int .i64 39)

theorem i64_9 : I64 9 := ⟨by decide, by decide⟩

theorem size_any (l : Int) (w : World) (hs : Shifts w) :
    Calls Tryd.prog 97 #[.int .i64 l] w fun e w' => e = .returned (.int .u64 (sizeF l)) ∧ w = w' := by
  obtain ⟨s1, s2, s3, s4⟩ := hs
  by_cases h1 : l < 1
  · have e : sizeF l = 0 := by unfold sizeF; rw [if_neg (by omega), if_neg (by omega), if_neg (by omega)]
    rw [e]
    go_enter Tryd.func97, Tryd.ntmps97
    go_wp2
    go_ret
    exact ⟨rfl, rfl⟩
  · by_cases h2 : 3 < l
    · have e : sizeF l = 0 := by unfold sizeF; rw [if_neg (by omega), if_neg (by omega), if_neg (by omega)]
      rw [e]
      go_enter Tryd.func97, Tryd.ntmps97
      go_wp2
      go_ret
      exact ⟨rfl, rfl⟩
    · obtain rfl | rfl | rfl : l = 1 ∨ l = 2 ∨ l = 3 := by omega
      · go_enter Tryd.func97, Tryd.ntmps97
        go_wp2
        go_ret
        exact ⟨rfl, rfl⟩
      · go_enter Tryd.func97, Tryd.ntmps97
        go_wp2
        go_ret
        exact ⟨rfl, rfl⟩
      · go_enter Tryd.func97, Tryd.ntmps97
        go_wp2
        go_ret
        exact ⟨rfl, rfl⟩

theorem index_any (a l : Int) (w : World) (hs : Shifts w) (ha : W64 a) :
    Calls Tryd.prog 79 #[.int .u64 a, .int .i64 l] w fun e w' => e = .returned (.int .i64 (indexF a l)) ∧ w = w' := by
  obtain ⟨s1, s2, s3, s4⟩ := hs
  by_cases h1 : l < 1
  · have e : indexF a l = 0 := by unfold indexF; rw [if_neg (by omega), if_neg (by omega), if_neg (by omega), if_neg (by omega)]
    rw [e]
    go_enter Tryd.func79, Tryd.ntmps79
    go_wp2
    go_ret
    exact ⟨rfl, rfl⟩
  · by_cases h2 : 4 < l
    · have e : indexF a l = 0 := by unfold indexF; rw [if_neg (by omega), if_neg (by omega), if_neg (by omega), if_neg (by omega)]
      rw [e]
      go_enter Tryd.func79, Tryd.ntmps79
      go_wp2
      go_ret
      exact ⟨rfl, rfl⟩
    · obtain ⟨g1, g2, g3, g4⟩ := get_index ha
      obtain ⟨b0, b1⟩ := index_bd a l
      obtain rfl | rfl | rfl | rfl : l = 1 ∨ l = 2 ∨ l = 3 ∨ l = 4 := by omega
      · rw [← g1] at b0 b1 ⊢
        clear g1 g2 g3 g4 ha
        go_enter Tryd.func79, Tryd.ntmps79
        go_wp2_with (go_at_call 93; refine (get_any _ _ _ _ i64_9).mono ?_; rintro e w' ⟨rfl, rfl⟩)
        go_ret
        exact ⟨rfl, rfl⟩
      · rw [← g2] at b0 b1 ⊢
        clear g1 g2 g3 g4 ha
        go_enter Tryd.func79, Tryd.ntmps79
        go_wp2_with (go_at_call 93; refine (get_any _ _ _ _ i64_9).mono ?_; rintro e w' ⟨rfl, rfl⟩)
        go_ret
        exact ⟨rfl, rfl⟩
      · rw [← g3] at b0 b1 ⊢
        clear g1 g2 g3 g4 ha
        go_enter Tryd.func79, Tryd.ntmps79
        go_wp2_with (go_at_call 93; refine (get_any _ _ _ _ i64_9).mono ?_; rintro e w' ⟨rfl, rfl⟩)
        go_ret
        exact ⟨rfl, rfl⟩
      · rw [← g4] at b0 b1 ⊢
        clear g1 g2 g3 g4 ha
        go_enter Tryd.func79, Tryd.ntmps79
        go_wp2_with (go_at_call 93; refine (get_any _ _ _ _ i64_9).mono ?_; rintro e w' ⟨rfl, rfl⟩)
        go_ret
        exact ⟨rfl, rfl⟩

theorem low_any (a l : Int) (w : World) (hs : Shifts w) (a0 : 0 ≤ a) :
    Calls Tryd.prog 96 #[.int .u64 a, .int .i64 l] w fun e w' => e = .returned (.int .u64 (lowF a l)) ∧ w = w' := by
  by_cases h : sizeF l = 0
  · have e : lowF a l = 0 := by unfold lowF; rw [if_pos h]
    rw [e]
    go_enter Tryd.func96, Tryd.ntmps96
    go_wp2_with (go_at_call 97; refine (size_any _ _ hs).mono ?_; rintro e w' ⟨rfl, rfl⟩)
    go_ret
    exact ⟨rfl, rfl⟩
  · have e : lowF a l = a % sizeF l := by unfold lowF; rw [if_neg h]
    rw [e]
    obtain ⟨b0, b1⟩ := size_bd l
    have b2 : 1 ≤ sizeF l := by omega
    go_enter Tryd.func96, Tryd.ntmps96
    go_wp2_with (go_at_call 97; refine (size_any _ _ hs).mono ?_; rintro e w' ⟨rfl, rfl⟩)
    go_ret
    exact ⟨rfl, rfl⟩

theorem page_any (a l : Int) (w : World) (hs : Shifts w) (ha : W64 a) :
    Calls Tryd.prog 84 #[.int .u64 a, .int .i64 l] w fun e w' => e = .returned (.int .u64 (pageF a l)) ∧ w = w' := by
  have e := Lib.hid (wrap_page ha l)
  have a0 := ha.1
  go_enter Tryd.func84, Tryd.ntmps84
  go_wp2_with (go_at_call 96; refine (low_any _ _ _ hs a0).mono ?_; rintro e w' ⟨rfl, rfl⟩)
  go_ret
  exact ⟨ret_int e.out, rfl⟩

end Go.Proofs.YtiihhlmddmicjaaDoor
/- Contracts of dormerref03: what each call of the document's own answer returns. -/
namespace Go.Proofs.YtiihhlmddmicjaaDoor
set_option linter.unusedVariables false
set_option linter.unusedSimpArgs false
open Go.ChangeShapes Go.WideShapes Go.ChangeAt Go.RowKit

end Go.Proofs.YtiihhlmddmicjaaDoor
/- How arguments read behind a call that wrote nothing that was there; structs and arrays of numbers, by value. -/
namespace Go.Proofs.YtiihhlmddmicjaaDoor
set_option linter.unusedVariables false
set_option linter.unusedSimpArgs false
open Go.ChangeShapes Go.WideShapes Go.ChangeAt Go.RowKit Go.Joins

theorem trodAll_below {H : Type} {enc : TypeId × Value → H} {P : Program} (hl : laidOutB P = true) {W W' : World} (hb : Below W.heap.size W W') :
    ∀ (ts : List TypeId) (vs : List Value) (ds : List (DataW H)) (p : List MemPlace), (∀ t ∈ ts, P.readableRec t = true ∧ t < P.types.size) →
      DataW.TrodAll enc P W 0 (fun _ => true) true ts vs ds p → DataW.TrodAll enc P W' 0 (fun b => decide (b < W.heap.size)) true ts vs ds p := by
  intro ts
  induction ts with
  | nil =>
    intro vs ds p _ h
    obtain ⟨rfl, rfl, rfl⟩ := trodAll_nil h
    exact trodAll_mk0
  | cons t ts ih =>
    intro vs ds p hr h
    obtain ⟨v, vs', d, ds', p1, p2, rfl, rfl, rfl, h1, h2⟩ := trodAll_cons h
    have lt0 : ∀ x ∈ p1, x.block < W.heap.size := by obtain ⟨m, hm⟩ := h1; exact DataW.trod_lt m _ _ _ hm
    exact trodAll_cons_mk (Below.trod hl (hr t (by simp)).1 (hr t (by simp)).2 h1 hb lt0) (ih _ _ _ (fun t' ht' => hr t' (by simp [ht'])) h2)

/-- all of a list of types can be read -/
def readAllB (P : Program) (ts : List TypeId) : Bool := ts.all fun t => P.readableRec t && decide (t < P.types.size)

theorem readAll_of {P : Program} {ts : List TypeId} (h : readAllB P ts = true) : ∀ t ∈ ts, P.readableRec t = true ∧ t < P.types.size := by
  intro t ht
  have := List.all_eq_true.1 h t ht
  simpa using this

theorem quietOf {P : Program} {f : FuncId} {args : Array Value} {w : World} {n : Nat} {v : Value}
    (h : Calls P f args (w.drewN n) fun e w' => e = .returned v ∧ w.drewN n = w') : Calls P f args (w.drewN n) fun e w'' => e = .returned v ∧ ∃ m, w'' = w.drewN m :=
  h.mono fun _ _ ⟨he, hm⟩ => ⟨he, n, hm.symm⟩

section
variable {H : Type} {enc : TypeId × Value → H} {P : Program} {w : World} {base : Nat} {spare : Nat → Bool} {held : Bool}

end

end Go.Proofs.YtiihhlmddmicjaaDoor
