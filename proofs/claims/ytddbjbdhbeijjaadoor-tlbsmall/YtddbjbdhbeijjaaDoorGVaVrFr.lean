/- Several texts of ours in one: Va, Vr, Fr. -/
import Derived.Test.YtddbjbdhbeijjaaDoorGBvAM
import Derived.Test.YtddbjbdhbeijjaaDoorGVmRN
import Derived.Below
import Derived.OwnWalk
import Derived.ProofKit
import Derived.OpenShut
import Derived.Carry
import Derived.ChangeOld
import Derived.Lib.SmallJoins
import Derived.Deep.QuietTactic
/- Contracts of package va: what each call returns, where the table of shifts holds what the program's text lays there. -/
namespace Go.Proofs.YtddbjbdhbeijjaaDoor
set_option linter.unusedVariables false
set_option linter.unusedSimpArgs false
open Go.ChangeShapes Go.WideShapes Go.ChangeAt Go.RowKit

/-- the table of shifts, as it is laid -/
def Shifts (w : World) : Prop :=
  w.cell? ⟨1, 0, none⟩ = some (.int .i64 12) ∧ w.cell? ⟨1, 1, none⟩ = some (.int .i64 21) ∧ w.cell? ⟨1, 2, none⟩ = some (.int .i64 30) ∧ w.cell? ⟨1, 3, none⟩ = some (.int .i64 39)

theorem i64_9 : I64 9 := ⟨by decide, by decide⟩

theorem size_any (l : Int) (w : World) (hs : Shifts w) :
    Calls Tryd.prog 64 #[.int .i64 l] w fun e w' => e = .returned (.int .u64 (sizeF l)) ∧ w = w' := by
  obtain ⟨s1, s2, s3, s4⟩ := hs
  by_cases h1 : l < 1
  · have e : sizeF l = 0 := by unfold sizeF; rw [if_neg (by omega), if_neg (by omega), if_neg (by omega)]
    rw [e]
    go_enter Tryd.func64, Tryd.ntmps64
    go_wp2
    go_ret
    exact ⟨rfl, rfl⟩
  · by_cases h2 : 3 < l
    · have e : sizeF l = 0 := by unfold sizeF; rw [if_neg (by omega), if_neg (by omega), if_neg (by omega)]
      rw [e]
      go_enter Tryd.func64, Tryd.ntmps64
      go_wp2
      go_ret
      exact ⟨rfl, rfl⟩
    · obtain rfl | rfl | rfl : l = 1 ∨ l = 2 ∨ l = 3 := by omega
      · go_enter Tryd.func64, Tryd.ntmps64
        go_wp2
        go_ret
        exact ⟨rfl, rfl⟩
      · go_enter Tryd.func64, Tryd.ntmps64
        go_wp2
        go_ret
        exact ⟨rfl, rfl⟩
      · go_enter Tryd.func64, Tryd.ntmps64
        go_wp2
        go_ret
        exact ⟨rfl, rfl⟩

theorem index_any (a l : Int) (w : World) (hs : Shifts w) (ha : W64 a) :
    Calls Tryd.prog 73 #[.int .u64 a, .int .i64 l] w fun e w' => e = .returned (.int .i64 (indexF a l)) ∧ w = w' := by
  obtain ⟨s1, s2, s3, s4⟩ := hs
  by_cases h1 : l < 1
  · have e : indexF a l = 0 := by unfold indexF; rw [if_neg (by omega), if_neg (by omega), if_neg (by omega), if_neg (by omega)]
    rw [e]
    go_enter Tryd.func73, Tryd.ntmps73
    go_wp2
    go_ret
    exact ⟨rfl, rfl⟩
  · by_cases h2 : 4 < l
    · have e : indexF a l = 0 := by unfold indexF; rw [if_neg (by omega), if_neg (by omega), if_neg (by omega), if_neg (by omega)]
      rw [e]
      go_enter Tryd.func73, Tryd.ntmps73
      go_wp2
      go_ret
      exact ⟨rfl, rfl⟩
    · obtain ⟨g1, g2, g3, g4⟩ := get_index ha
      obtain ⟨b0, b1⟩ := index_bd a l
      obtain rfl | rfl | rfl | rfl : l = 1 ∨ l = 2 ∨ l = 3 ∨ l = 4 := by omega
      · rw [← g1] at b0 b1 ⊢
        clear g1 g2 g3 g4 ha
        go_enter Tryd.func73, Tryd.ntmps73
        go_wp2_with (go_at_call 75; refine (get_any _ _ _ _ i64_9).mono ?_; rintro e w' ⟨rfl, rfl⟩)
        go_ret
        exact ⟨rfl, rfl⟩
      · rw [← g2] at b0 b1 ⊢
        clear g1 g2 g3 g4 ha
        go_enter Tryd.func73, Tryd.ntmps73
        go_wp2_with (go_at_call 75; refine (get_any _ _ _ _ i64_9).mono ?_; rintro e w' ⟨rfl, rfl⟩)
        go_ret
        exact ⟨rfl, rfl⟩
      · rw [← g3] at b0 b1 ⊢
        clear g1 g2 g3 g4 ha
        go_enter Tryd.func73, Tryd.ntmps73
        go_wp2_with (go_at_call 75; refine (get_any _ _ _ _ i64_9).mono ?_; rintro e w' ⟨rfl, rfl⟩)
        go_ret
        exact ⟨rfl, rfl⟩
      · rw [← g4] at b0 b1 ⊢
        clear g1 g2 g3 g4 ha
        go_enter Tryd.func73, Tryd.ntmps73
        go_wp2_with (go_at_call 75; refine (get_any _ _ _ _ i64_9).mono ?_; rintro e w' ⟨rfl, rfl⟩)
        go_ret
        exact ⟨rfl, rfl⟩

end Go.Proofs.YtddbjbdhbeijjaaDoor
/- Contracts of dormerref03: what each call of the document's own answer returns. -/
namespace Go.Proofs.YtddbjbdhbeijjaaDoor
set_option linter.unusedVariables false
set_option linter.unusedSimpArgs false
open Go.ChangeShapes Go.WideShapes Go.ChangeAt Go.RowKit

theorem rsize_any (l : Int) (w : World) :
    Calls Tryd.prog 21 #[.int .i64 l] w fun e w' => e = .returned (.int .u64 (sizeF l)) ∧ w = w' := by
  by_cases h1 : l = 1
  · subst h1
    go_enter Tryd.func21, Tryd.ntmps21
    go_wp2
    go_ret
    exact ⟨rfl, rfl⟩
  · by_cases h2 : l = 2
    · subst h2
      go_enter Tryd.func21, Tryd.ntmps21
      go_wp2
      go_ret
      exact ⟨rfl, rfl⟩
    · by_cases h3 : l = 3
      · subst h3
        go_enter Tryd.func21, Tryd.ntmps21
        go_wp2
        go_ret
        exact ⟨rfl, rfl⟩
      · have e : sizeF l = 0 := by unfold sizeF; rw [if_neg h1, if_neg h2, if_neg h3]
        rw [e]
        go_enter Tryd.func21, Tryd.ntmps21
        go_wp2
        go_ret
        exact ⟨rfl, rfl⟩

theorem rlow_any (a l : Int) (w : World) (a0 : 0 ≤ a) :
    Calls Tryd.prog 49 #[.int .u64 a, .int .i64 l] w fun e w' => e = .returned (.int .u64 (lowF a l)) ∧ w = w' := by
  by_cases h : sizeF l = 0
  · have e : lowF a l = 0 := by unfold lowF; rw [if_pos h]
    rw [e]
    go_enter Tryd.func49, Tryd.ntmps49
    go_wp2_with (go_at_call 21; refine (rsize_any _ _).mono ?_; rintro e w' ⟨rfl, rfl⟩)
    go_ret
    exact ⟨rfl, rfl⟩
  · have e : lowF a l = a % sizeF l := by unfold lowF; rw [if_neg h]
    rw [e]
    obtain ⟨b0, b1⟩ := size_bd l
    have b2 : 1 ≤ sizeF l := by omega
    go_enter Tryd.func49, Tryd.ntmps49
    go_wp2_with (go_at_call 21; refine (rsize_any _ _).mono ?_; rintro e w' ⟨rfl, rfl⟩)
    go_ret
    exact ⟨rfl, rfl⟩

theorem rpage_any (a l : Int) (w : World) (ha : W64 a) :
    Calls Tryd.prog 23 #[.int .u64 a, .int .i64 l] w fun e w' => e = .returned (.int .u64 (pageF a l)) ∧ w = w' := by
  have e := Lib.hid (wrap_page ha l)
  have a0 := ha.1
  go_enter Tryd.func23, Tryd.ntmps23
  go_wp2_with (go_at_call 49; refine (rlow_any _ _ _ a0).mono ?_; rintro e w' ⟨rfl, rfl⟩)
  go_ret
  exact ⟨ret_int e.out, rfl⟩

theorem idx_t {a : Int} (ha : W64 a) {d : Int} (hd : 0 < d) : wrap64 ((IntKind.u64.wrap (a.tdiv d)).tmod 512) = a / d % 512 := by
  have e1 : a.tdiv d = a / d := Int.tdiv_eq_ediv_of_nonneg ha.1
  have h1 : 0 ≤ a / d := Int.ediv_nonneg ha.1 (by omega)
  have h2 : a / d ≤ a := Int.ediv_le_self _ ha.1
  obtain ⟨h3, h4⟩ := ha
  rw [e1]
  generalize a / d = x at *
  rw [IntKind.wrap_u64, Int.emod_eq_of_lt h1 (by omega), Int.tmod_eq_emod_of_nonneg h1]
  unfold wrap64
  omega

theorem rindex_any (a l : Int) (w : World) (ha : W64 a) :
    Calls Tryd.prog 62 #[.int .u64 a, .int .i64 l] w fun e w' => e = .returned (.int .i64 (indexF a l)) ∧ w = w' := by
  by_cases h1 : l < 1
  · have e : indexF a l = 0 := by unfold indexF; rw [if_neg (by omega), if_neg (by omega), if_neg (by omega), if_neg (by omega)]
    rw [e]
    go_enter Tryd.func62, Tryd.ntmps62
    go_wp2
    go_ret
    exact ⟨rfl, rfl⟩
  · by_cases h2 : 4 < l
    · have e : indexF a l = 0 := by unfold indexF; rw [if_neg (by omega), if_neg (by omega), if_neg (by omega), if_neg (by omega)]
      rw [e]
      go_enter Tryd.func62, Tryd.ntmps62
      go_wp2
      go_ret
      exact ⟨rfl, rfl⟩
    · have x1 := Lib.hid (idx_t ha (d := 4096) (by decide))
      have x2 := Lib.hid (idx_t ha (d := 2097152) (by decide))
      have x3 := Lib.hid (idx_t ha (d := 1073741824) (by decide))
      have x4 := Lib.hid (idx_t ha (d := 549755813888) (by decide))
      obtain rfl | rfl | rfl | rfl : l = 1 ∨ l = 2 ∨ l = 3 ∨ l = 4 := by omega
      · go_enter Tryd.func62, Tryd.ntmps62
        go_wp2_with (go_at_call 72; refine (power_any _ _ (by decide) (by decide)).mono ?_; rintro e w' ⟨rfl, rfl⟩)
        go_ret
        exact ⟨ret_int x1.out, rfl⟩
      · go_enter Tryd.func62, Tryd.ntmps62
        go_wp2_with (go_at_call 72; refine (power_any _ _ (by decide) (by decide)).mono ?_; rintro e w' ⟨rfl, rfl⟩)
        go_ret
        exact ⟨ret_int x2.out, rfl⟩
      · go_enter Tryd.func62, Tryd.ntmps62
        go_wp2_with (go_at_call 72; refine (power_any _ _ (by decide) (by decide)).mono ?_; rintro e w' ⟨rfl, rfl⟩)
        go_ret
        exact ⟨ret_int x3.out, rfl⟩
      · go_enter Tryd.func62, Tryd.ntmps62
        go_wp2_with (go_at_call 72; refine (power_any _ _ (by decide) (by decide)).mono ?_; rintro e w' ⟨rfl, rfl⟩)
        go_ret
        exact ⟨ret_int x4.out, rfl⟩

end Go.Proofs.YtddbjbdhbeijjaaDoor
/- How arguments read behind a call that wrote nothing that was there; structs and arrays of numbers, by value. -/
namespace Go.Proofs.YtddbjbdhbeijjaaDoor
set_option linter.unusedVariables false
set_option linter.unusedSimpArgs false
open Go.ChangeShapes Go.WideShapes Go.ChangeAt Go.RowKit Go.Joins

theorem trodAll_below {H : Type} {enc : TypeId × Value → H} {P : Program} (hl : laidOutB P = true) {W W' : World} (hb : Below W.heap.size W W') :
    ∀ (ts : List TypeId) (vs : List Value) (ds : List (DataW H)) (p : List MemPlace), (∀ t ∈ ts, P.readableRec t = true ∧ t < P.types.size) →
      DataW.TrodAll enc P W 0 (fun _ => true) true ts vs ds p → DataW.TrodAll enc P W' 0 (fun b => decide (b < W.heap.size)) true ts vs ds p := by
  intro ts
  induction ts with
  | nil =>
    intro vs ds p _ h
    obtain ⟨rfl, rfl, rfl⟩ := trodAll_nil h
    exact trodAll_mk0
  | cons t ts ih =>
    intro vs ds p hr h
    obtain ⟨v, vs', d, ds', p1, p2, rfl, rfl, rfl, h1, h2⟩ := trodAll_cons h
    have lt0 : ∀ x ∈ p1, x.block < W.heap.size := by obtain ⟨m, hm⟩ := h1; exact DataW.trod_lt m _ _ _ hm
    exact trodAll_cons_mk (Below.trod hl (hr t (by simp)).1 (hr t (by simp)).2 h1 hb lt0) (ih _ _ _ (fun t' ht' => hr t' (by simp [ht'])) h2)

/-- all of a list of types can be read -/
def readAllB (P : Program) (ts : List TypeId) : Bool := ts.all fun t => P.readableRec t && decide (t < P.types.size)

theorem readAll_of {P : Program} {ts : List TypeId} (h : readAllB P ts = true) : ∀ t ∈ ts, P.readableRec t = true ∧ t < P.types.size := by
  intro t ht
  have := List.all_eq_true.1 h t ht
  simpa using this

theorem quietOf {P : Program} {f : FuncId} {args : Array Value} {w : World} {n : Nat} {v : Value}
    (h : Calls P f args (w.drewN n) fun e w' => e = .returned v ∧ w.drewN n = w') : Calls P f args (w.drewN n) fun e w'' => e = .returned v ∧ ∃ m, w'' = w.drewN m :=
  h.mono fun _ _ ⟨he, hm⟩ => ⟨he, n, hm.symm⟩

section
variable {H : Type} {enc : TypeId × Value → H} {P : Program} {w : World} {base : Nat} {spare : Nat → Bool} {held : Bool}

end

end Go.Proofs.YtddbjbdhbeijjaaDoor
