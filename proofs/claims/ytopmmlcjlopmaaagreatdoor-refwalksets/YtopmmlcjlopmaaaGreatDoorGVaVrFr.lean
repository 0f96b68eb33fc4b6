/- Several texts of ours in one: Va, Vr, Fr. -/
import Derived.Test.YtopmmlcjlopmaaaGreatDoorGBvAM
import Derived.Test.YtopmmlcjlopmaaaGreatDoorGVmRN
import Derived.Below
import Derived.OwnWalk
import Derived.ProofKit
import Derived.OpenShut
import Derived.Carry
import Derived.ChangeOld
import Derived.Lib.SmallJoins
import Derived.Deep.QuietTactic
/- Contracts of package va: what each call returns, where the table of shifts holds what the program's text lays there. -/
namespace Go.Proofs.YtopmmlcjlopmaaaGreatDoor
set_option linter.unusedVariables false
set_option linter.unusedSimpArgs false
open Go.ChangeShapes Go.WideShapes Go.ChangeAt Go.RowKit

/-- the table of shifts, as it is laid -/
def Shifts (w : World) : Prop :=
  w.cell? ⟨1, 0, none⟩ = some (.int .i64 12) ∧ w.cell? ⟨1, 1, none⟩ = some (.int .i64 21) ∧ w.cell? ⟨1, 2, none⟩ = some (.int .i64 30) ∧ w.cell? ⟨1, 3, none⟩ = some (.int .i64 39)

theorem i64_16 : I64 16 := ⟨by decide, by decide⟩
theorem i64_9 : I64 9 := ⟨by decide, by decide⟩

theorem sign_or {a : Int} (ha : W64 a) (h : bitF a 47 = true) : bits .or .u64 a (maskF 48 16) = signF a := by
  have h' : tb a 47 = true := by rw [bitF_tb ha] at h; simpa using h
  apply sign_of ha (w64_bits _ _ _)
  · intro i hi
    rw [tb_or ha.1 (w64_mask _ _).1, tb_mask]
    simp [show i < 64 by omega]; omega
  · intro i h1 h2
    rw [tb_or ha.1 (w64_mask _ _).1, tb_mask, h']
    simp [h2, show isF 48 16 = true by decide]; right; omega

theorem sign_andNot {a : Int} (ha : W64 a) (h : bitF a 47 = false) : bits .andNot .u64 a (maskF 48 16) = signF a := by
  have h' : tb a 47 = false := by rw [bitF_tb ha] at h; simpa using h
  apply sign_of ha (w64_bits _ _ _)
  · intro i hi
    rw [tb_andNot ha.1 (w64_mask _ _).1, tb_mask]
    simp [show i < 64 by omega]; omega
  · intro i h1 h2
    rw [tb_andNot ha.1 (w64_mask _ _).1, tb_mask, h']
    simp [h2, show isF 48 16 = true by decide]; omega

theorem sign_any (a : Int) (w : World) (ha : W64 a) :
    Calls Tryz.prog 52 #[.int .u64 a] w fun e w' => e = .returned (.int .u64 (signF a)) ∧ w = w' := by
  cases h : bitF a 47
  · have e := Lib.hid (sign_andNot ha h)
    go_enter Tryz.func52, Tryz.ntmps52
    go_wp2_with (first | (go_at_call 97; refine (bit_any _ _ _).mono ?_; rintro e w' ⟨rfl, rfl⟩) | (go_at_call 98; refine (mask_any _ _ _ i64_16).mono ?_; rintro e w' ⟨rfl, rfl⟩))
    go_ret
    exact ⟨ret_int e.out, rfl⟩
  · have e := Lib.hid (sign_or ha h)
    go_enter Tryz.func52, Tryz.ntmps52
    go_wp2_with (first | (go_at_call 97; refine (bit_any _ _ _).mono ?_; rintro e w' ⟨rfl, rfl⟩) | (go_at_call 98; refine (mask_any _ _ _ i64_16).mono ?_; rintro e w' ⟨rfl, rfl⟩))
    go_ret
    exact ⟨ret_int e.out, rfl⟩

theorem canon_any (a : Int) (w : World) (ha : W64 a) :
    Calls Tryz.prog 27 #[.int .u64 a] w fun e w' => e = .returned (.bool (canonF a)) ∧ w = w' := by
  go_enter Tryz.func27, Tryz.ntmps27
  go_wp2_with (go_at_call 52; refine (sign_any _ _ ha).mono ?_; rintro e w' ⟨rfl, rfl⟩)
  go_ret
  exact ⟨rfl, rfl⟩

theorem size_any (l : Int) (w : World) (hs : Shifts w) :
    Calls Tryz.prog 106 #[.int .i64 l] w fun e w' => e = .returned (.int .u64 (sizeF l)) ∧ w = w' := by
  obtain ⟨s1, s2, s3, s4⟩ := hs
  by_cases h1 : l < 1
  · have e : sizeF l = 0 := by unfold sizeF; rw [if_neg (by omega), if_neg (by omega), if_neg (by omega)]
    rw [e]
    go_enter Tryz.func106, Tryz.ntmps106
    go_wp2
    go_ret
    exact ⟨rfl, rfl⟩
  · by_cases h2 : 3 < l
    · have e : sizeF l = 0 := by unfold sizeF; rw [if_neg (by omega), if_neg (by omega), if_neg (by omega)]
      rw [e]
      go_enter Tryz.func106, Tryz.ntmps106
      go_wp2
      go_ret
      exact ⟨rfl, rfl⟩
    · obtain rfl | rfl | rfl : l = 1 ∨ l = 2 ∨ l = 3 := by omega
      · go_enter Tryz.func106, Tryz.ntmps106
        go_wp2
        go_ret
        exact ⟨rfl, rfl⟩
      · go_enter Tryz.func106, Tryz.ntmps106
        go_wp2
        go_ret
        exact ⟨rfl, rfl⟩
      · go_enter Tryz.func106, Tryz.ntmps106
        go_wp2
        go_ret
        exact ⟨rfl, rfl⟩

theorem index_any (a l : Int) (w : World) (hs : Shifts w) (ha : W64 a) :
    Calls Tryz.prog 99 #[.int .u64 a, .int .i64 l] w fun e w' => e = .returned (.int .i64 (indexF a l)) ∧ w = w' := by
  obtain ⟨s1, s2, s3, s4⟩ := hs
  by_cases h1 : l < 1
  · have e : indexF a l = 0 := by unfold indexF; rw [if_neg (by omega), if_neg (by omega), if_neg (by omega), if_neg (by omega)]
    rw [e]
    go_enter Tryz.func99, Tryz.ntmps99
    go_wp2
    go_ret
    exact ⟨rfl, rfl⟩
  · by_cases h2 : 4 < l
    · have e : indexF a l = 0 := by unfold indexF; rw [if_neg (by omega), if_neg (by omega), if_neg (by omega), if_neg (by omega)]
      rw [e]
      go_enter Tryz.func99, Tryz.ntmps99
      go_wp2
      go_ret
      exact ⟨rfl, rfl⟩
    · obtain ⟨g1, g2, g3, g4⟩ := get_index ha
      obtain ⟨b0, b1⟩ := index_bd a l
      obtain rfl | rfl | rfl | rfl : l = 1 ∨ l = 2 ∨ l = 3 ∨ l = 4 := by omega
      · rw [← g1] at b0 b1 ⊢
        clear g1 g2 g3 g4 ha
        go_enter Tryz.func99, Tryz.ntmps99
        go_wp2_with (go_at_call 122; refine (get_any _ _ _ _ i64_9).mono ?_; rintro e w' ⟨rfl, rfl⟩)
        go_ret
        exact ⟨rfl, rfl⟩
      · rw [← g2] at b0 b1 ⊢
        clear g1 g2 g3 g4 ha
        go_enter Tryz.func99, Tryz.ntmps99
        go_wp2_with (go_at_call 122; refine (get_any _ _ _ _ i64_9).mono ?_; rintro e w' ⟨rfl, rfl⟩)
        go_ret
        exact ⟨rfl, rfl⟩
      · rw [← g3] at b0 b1 ⊢
        clear g1 g2 g3 g4 ha
        go_enter Tryz.func99, Tryz.ntmps99
        go_wp2_with (go_at_call 122; refine (get_any _ _ _ _ i64_9).mono ?_; rintro e w' ⟨rfl, rfl⟩)
        go_ret
        exact ⟨rfl, rfl⟩
      · rw [← g4] at b0 b1 ⊢
        clear g1 g2 g3 g4 ha
        go_enter Tryz.func99, Tryz.ntmps99
        go_wp2_with (go_at_call 122; refine (get_any _ _ _ _ i64_9).mono ?_; rintro e w' ⟨rfl, rfl⟩)
        go_ret
        exact ⟨rfl, rfl⟩

theorem low_any (a l : Int) (w : World) (hs : Shifts w) (a0 : 0 ≤ a) :
    Calls Tryz.prog 66 #[.int .u64 a, .int .i64 l] w fun e w' => e = .returned (.int .u64 (lowF a l)) ∧ w = w' := by
  by_cases h : sizeF l = 0
  · have e : lowF a l = 0 := by unfold lowF; rw [if_pos h]
    rw [e]
    go_enter Tryz.func66, Tryz.ntmps66
    go_wp2_with (go_at_call 106; refine (size_any _ _ hs).mono ?_; rintro e w' ⟨rfl, rfl⟩)
    go_ret
    exact ⟨rfl, rfl⟩
  · have e : lowF a l = a % sizeF l := by unfold lowF; rw [if_neg h]
    rw [e]
    obtain ⟨b0, b1⟩ := size_bd l
    have b2 : 1 ≤ sizeF l := by omega
    go_enter Tryz.func66, Tryz.ntmps66
    go_wp2_with (go_at_call 106; refine (size_any _ _ hs).mono ?_; rintro e w' ⟨rfl, rfl⟩)
    go_ret
    exact ⟨rfl, rfl⟩

theorem page_any (a l : Int) (w : World) (hs : Shifts w) (ha : W64 a) :
    Calls Tryz.prog 102 #[.int .u64 a, .int .i64 l] w fun e w' => e = .returned (.int .u64 (pageF a l)) ∧ w = w' := by
  have e := Lib.hid (wrap_page ha l)
  have a0 := ha.1
  go_enter Tryz.func102, Tryz.ntmps102
  go_wp2_with (go_at_call 66; refine (low_any _ _ _ hs a0).mono ?_; rintro e w' ⟨rfl, rfl⟩)
  go_ret
  exact ⟨ret_int e.out, rfl⟩

end Go.Proofs.YtopmmlcjlopmaaaGreatDoor
/- Contracts of dormerref03: what each call of the document's own answer returns. -/
namespace Go.Proofs.YtopmmlcjlopmaaaGreatDoor
set_option linter.unusedVariables false
set_option linter.unusedSimpArgs false
open Go.ChangeShapes Go.WideShapes Go.ChangeAt Go.RowKit

/-- how far the bits above 47 are as it -/
def Signed (a x : Int) (k : Nat) : Prop := W64 x ∧ (∀ j, j < 48 → tb x j = tb a j) ∧ ∀ j, 48 ≤ j → j < 48 + k → tb x j = tb a 47

theorem signed_zero {a : Int} (ha : W64 a) : Signed a a 0 := ⟨ha, fun _ _ => rfl, fun j h1 h2 => absurd h2 (by omega)⟩

theorem signed_step {a x : Int} {k : Nat} (h : Signed a x k) (hk : k < 16) : Signed a (withF x (48 + k) (bitF x 47)) (k + 1) := by
  obtain ⟨hx, h1, h2⟩ := h
  have hb : bitF x 47 = tb a 47 := by rw [bitF_tb hx]; simpa using h1 47 (by omega)
  refine ⟨w64_with _ _, ?_, ?_⟩
  · intro j hj
    rw [tb_with hx, if_neg (by omega), h1 j hj]
  · intro j h3 h4
    rw [tb_with hx, hb]
    by_cases c : j = 48 + k
    · rw [if_pos (by omega)]; simp [show j < 64 by omega]
    · rw [if_neg (by omega)]; exact h2 j h3 (by omega)

theorem signed_all {a x : Int} (ha : W64 a) (h : Signed a x 16) : x = signF a :=
  sign_of ha h.1 h.2.1 fun i h1 h2 => h.2.2 i h1 (by omega)

theorem rsign_any (a : Int) (w : World) (ha : W64 a) :
    Calls Tryz.prog 40 #[.int .u64 a] w fun e w' => e = .returned (.int .u64 (signF a)) ∧ w = w' := by
  go_enter Tryz.func40, Tryz.ntmps40
  go_wp2
  go_loop [0, 3] (fun x i => ∃ k : Nat, ∃ z : Int, k ≤ 16 ∧ i = .int .i64 (48 + k) ∧ x = .int .u64 z ∧ Signed a z k) (fun _ i => (64 - intOf i).toNat)
  case atStart => exact ⟨0, a, by omega, rfl, rfl, signed_zero ha⟩
  case round =>
    obtain ⟨k, z, hk, rfl, rfl, hS⟩ := hrel
    by_cases hlt : k < 16
    · have hz := hS.1
      have hn := Lib.hid (signed_step hS hlt)
      clear hS
      go_wp2_with (first | (go_at_call 71; refine (rbit_any _ _ _ hz).mono ?_; rintro e w' ⟨rfl, rfl⟩) | (go_at_call 83; refine (rwith_any _ _ _ _ hz).mono ?_; rintro e w' ⟨rfl, rfl⟩))
      go_round
      case rel => exact ⟨k + 1, _, by omega, by go_num, rfl, hn.out⟩
      case measure => simp [intOf]; omega
    · obtain rfl : k = 16 := by omega
      have e := Lib.hid (signed_all ha hS)
      clear hS
      go_wp2
      go_ret
      exact ⟨ret_int e.out, rfl⟩

theorem canon_comm (a : Int) : (signF a == a) = canonF a := by
  unfold canonF; rw [Bool.eq_iff_iff, beq_iff_eq, beq_iff_eq]; exact ⟨Eq.symm, Eq.symm⟩

theorem rcanon_any (a : Int) (w : World) (ha : W64 a) :
    Calls Tryz.prog 17 #[.int .u64 a] w fun e w' => e = .returned (.bool (canonF a)) ∧ w = w' := by
  have e := Lib.hid (canon_comm a)
  go_enter Tryz.func17, Tryz.ntmps17
  go_wp2_with (go_at_call 40; refine (rsign_any _ _ ha).mono ?_; rintro e w' ⟨rfl, rfl⟩)
  go_ret
  exact ⟨ret_bool e.out, rfl⟩

theorem rsize_any (l : Int) (w : World) :
    Calls Tryz.prog 111 #[.int .i64 l] w fun e w' => e = .returned (.int .u64 (sizeF l)) ∧ w = w' := by
  by_cases h1 : l = 1
  · subst h1
    go_enter Tryz.func111, Tryz.ntmps111
    go_wp2
    go_ret
    exact ⟨rfl, rfl⟩
  · by_cases h2 : l = 2
    · subst h2
      go_enter Tryz.func111, Tryz.ntmps111
      go_wp2
      go_ret
      exact ⟨rfl, rfl⟩
    · by_cases h3 : l = 3
      · subst h3
        go_enter Tryz.func111, Tryz.ntmps111
        go_wp2
        go_ret
        exact ⟨rfl, rfl⟩
      · have e : sizeF l = 0 := by unfold sizeF; rw [if_neg h1, if_neg h2, if_neg h3]
        rw [e]
        go_enter Tryz.func111, Tryz.ntmps111
        go_wp2
        go_ret
        exact ⟨rfl, rfl⟩

theorem rlow_any (a l : Int) (w : World) (a0 : 0 ≤ a) :
    Calls Tryz.prog 79 #[.int .u64 a, .int .i64 l] w fun e w' => e = .returned (.int .u64 (lowF a l)) ∧ w = w' := by
  by_cases h : sizeF l = 0
  · have e : lowF a l = 0 := by unfold lowF; rw [if_pos h]
    rw [e]
    go_enter Tryz.func79, Tryz.ntmps79
    go_wp2_with (go_at_call 111; refine (rsize_any _ _).mono ?_; rintro e w' ⟨rfl, rfl⟩)
    go_ret
    exact ⟨rfl, rfl⟩
  · have e : lowF a l = a % sizeF l := by unfold lowF; rw [if_neg h]
    rw [e]
    obtain ⟨b0, b1⟩ := size_bd l
    have b2 : 1 ≤ sizeF l := by omega
    go_enter Tryz.func79, Tryz.ntmps79
    go_wp2_with (go_at_call 111; refine (rsize_any _ _).mono ?_; rintro e w' ⟨rfl, rfl⟩)
    go_ret
    exact ⟨rfl, rfl⟩

theorem idx_t {a : Int} (ha : W64 a) {d : Int} (hd : 0 < d) : wrap64 ((IntKind.u64.wrap (a.tdiv d)).tmod 512) = a / d % 512 := by
  have e1 : a.tdiv d = a / d := Int.tdiv_eq_ediv_of_nonneg ha.1
  have h1 : 0 ≤ a / d := Int.ediv_nonneg ha.1 (by omega)
  have h2 : a / d ≤ a := Int.ediv_le_self _ ha.1
  obtain ⟨h3, h4⟩ := ha
  rw [e1]
  generalize a / d = x at *
  rw [IntKind.wrap_u64, Int.emod_eq_of_lt h1 (by omega), Int.tmod_eq_emod_of_nonneg h1]
  unfold wrap64
  omega

theorem rindex_any (a l : Int) (w : World) (ha : W64 a) :
    Calls Tryz.prog 108 #[.int .u64 a, .int .i64 l] w fun e w' => e = .returned (.int .i64 (indexF a l)) ∧ w = w' := by
  by_cases h1 : l < 1
  · have e : indexF a l = 0 := by unfold indexF; rw [if_neg (by omega), if_neg (by omega), if_neg (by omega), if_neg (by omega)]
    rw [e]
    go_enter Tryz.func108, Tryz.ntmps108
    go_wp2
    go_ret
    exact ⟨rfl, rfl⟩
  · by_cases h2 : 4 < l
    · have e : indexF a l = 0 := by unfold indexF; rw [if_neg (by omega), if_neg (by omega), if_neg (by omega), if_neg (by omega)]
      rw [e]
      go_enter Tryz.func108, Tryz.ntmps108
      go_wp2
      go_ret
      exact ⟨rfl, rfl⟩
    · have x1 := Lib.hid (idx_t ha (d := 4096) (by decide))
      have x2 := Lib.hid (idx_t ha (d := 2097152) (by decide))
      have x3 := Lib.hid (idx_t ha (d := 1073741824) (by decide))
      have x4 := Lib.hid (idx_t ha (d := 549755813888) (by decide))
      obtain rfl | rfl | rfl | rfl : l = 1 ∨ l = 2 ∨ l = 3 ∨ l = 4 := by omega
      · go_enter Tryz.func108, Tryz.ntmps108
        go_wp2_with (go_at_call 109; refine (power_any _ _ (by decide) (by decide)).mono ?_; rintro e w' ⟨rfl, rfl⟩)
        go_ret
        exact ⟨ret_int x1.out, rfl⟩
      · go_enter Tryz.func108, Tryz.ntmps108
        go_wp2_with (go_at_call 109; refine (power_any _ _ (by decide) (by decide)).mono ?_; rintro e w' ⟨rfl, rfl⟩)
        go_ret
        exact ⟨ret_int x2.out, rfl⟩
      · go_enter Tryz.func108, Tryz.ntmps108
        go_wp2_with (go_at_call 109; refine (power_any _ _ (by decide) (by decide)).mono ?_; rintro e w' ⟨rfl, rfl⟩)
        go_ret
        exact ⟨ret_int x3.out, rfl⟩
      · go_enter Tryz.func108, Tryz.ntmps108
        go_wp2_with (go_at_call 109; refine (power_any _ _ (by decide) (by decide)).mono ?_; rintro e w' ⟨rfl, rfl⟩)
        go_ret
        exact ⟨ret_int x4.out, rfl⟩

end Go.Proofs.YtopmmlcjlopmaaaGreatDoor
/- How arguments read behind a call that wrote nothing that was there; structs and arrays of numbers, by value. -/
namespace Go.Proofs.YtopmmlcjlopmaaaGreatDoor
set_option linter.unusedVariables false
set_option linter.unusedSimpArgs false
open Go.ChangeShapes Go.WideShapes Go.ChangeAt Go.RowKit Go.Joins

theorem trodAll_below {H : Type} {enc : TypeId × Value → H} {P : Program} (hl : laidOutB P = true) {W W' : World} (hb : Below W.heap.size W W') :
    ∀ (ts : List TypeId) (vs : List Value) (ds : List (DataW H)) (p : List MemPlace), (∀ t ∈ ts, P.readableRec t = true ∧ t < P.types.size) →
      DataW.TrodAll enc P W 0 (fun _ => true) true ts vs ds p → DataW.TrodAll enc P W' 0 (fun b => decide (b < W.heap.size)) true ts vs ds p := by
  intro ts
  induction ts with
  | nil =>
    intro vs ds p _ h
    obtain ⟨rfl, rfl, rfl⟩ := trodAll_nil h
    exact trodAll_mk0
  | cons t ts ih =>
    intro vs ds p hr h
    obtain ⟨v, vs', d, ds', p1, p2, rfl, rfl, rfl, h1, h2⟩ := trodAll_cons h
    have lt0 : ∀ x ∈ p1, x.block < W.heap.size := by obtain ⟨m, hm⟩ := h1; exact DataW.trod_lt m _ _ _ hm
    exact trodAll_cons_mk (Below.trod hl (hr t (by simp)).1 (hr t (by simp)).2 h1 hb lt0) (ih _ _ _ (fun t' ht' => hr t' (by simp [ht'])) h2)

/-- all of a list of types can be read -/
def readAllB (P : Program) (ts : List TypeId) : Bool := ts.all fun t => P.readableRec t && decide (t < P.types.size)

theorem readAll_of {P : Program} {ts : List TypeId} (h : readAllB P ts = true) : ∀ t ∈ ts, P.readableRec t = true ∧ t < P.types.size := by
  intro t ht
  have := List.all_eq_true.1 h t ht
  simpa using this

theorem quietOf {P : Program} {f : FuncId} {args : Array Value} {w : World} {n : Nat} {v : Value}
    (h : Calls P f args (w.drewN n) fun e w' => e = .returned v ∧ w.drewN n = w') : Calls P f args (w.drewN n) fun e w'' => e = .returned v ∧ ∃ m, w'' = w.drewN m :=
  h.mono fun _ _ ⟨he, hm⟩ => ⟨he, n, hm.symm⟩

theorem quietOf2 {P : Program} {f : FuncId} {args : Array Value} {w : World} {k n : Nat} {v : Value}
    (h : Calls P f args (w.drewN (k + n)) fun e w' => e = .returned v ∧ w.drewN (k + n) = w') : Calls P f args (w.drewN (k + n)) fun e w'' => e = .returned v ∧ ∃ m, w'' = w.drewN (k + m) :=
  h.mono fun _ _ ⟨he, hm⟩ => ⟨he, n, hm.symm⟩

section
variable {H : Type} {enc : TypeId × Value → H} {P : Program} {w : World} {base : Nat} {spare : Nat → Bool} {held : Bool}

end

end Go.Proofs.YtopmmlcjlopmaaaGreatDoor
