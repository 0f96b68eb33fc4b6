/- Same of package walk and of the document where two paths' heads differ; the document's Bare. (Laid by tools/gen_hw.py.) -/
import Derived.Test.YtlpjbmlkpmhdlaaDoorHt
import Derived.Test.YtlpjbmlkpmhdlaaDoorR
namespace Go.Proofs.YtlpjbmlkpmhdlaaDoor
set_option linter.unusedVariables false
set_option linter.unusedSimpArgs false
open Go.ChangeShapes Go.WideShapes Go.ChangeAt Go.RowKit Go.Joins

theorem bare_with {x : Int} (hx : W64 x) : withF (withF x 5 false) 6 false = bareF x := by
  unfold bareF
  have h1 : W64 (withF x 5 false) := by unfold withF; rw [if_neg (by decide)]; exact w64_bits _ _ _
  apply tb_ext (by show W64 (withF (withF x 5 false) 6 false); generalize withF x 5 false = z; unfold withF; rw [if_neg (by decide)]; exact w64_bits _ _ _) (w64_bits _ _ _)
  intro i hi
  rw [tb_with h1, tb_with hx, tb_andNot hx.1 (by decide), tb_96]
  by_cases e5 : i = 5
  · subst e5; simp
  · by_cases e6 : i = 6
    · subst e6; simp
    · rw [if_neg (by omega), if_neg (by omega), decide_eq_false (show ¬ 5 = i from fun e => e5 e.symm), decide_eq_false (show ¬ 6 = i from fun e => e6 e.symm)]; simp [hi]

theorem bare_any (x : Int) (w : World) (hx : W64 x) :
    Calls Tryd.prog 56 #[.int .u64 x] w fun e w' => e = .returned (.int .u64 (bareF x)) ∧ w = w' := by
  have HW : Hid (W64 (withF x 5 false)) := Lib.hid (by unfold withF; rw [if_neg (by decide)]; exact w64_bits _ _ _)
  rw [← bare_with hx]
  go_enter Tryd.func56, Tryd.ntmps56
  go_wp2_with (go_at_call 75; (first | refine (rwith_any _ _ _ _ (by assumption)).mono ?_ | refine (rwith_any _ _ _ _ HW.out).mono ?_); rintro e w' ⟨rfl, rfl⟩)
  go_ret
  exact ⟨rfl, rfl⟩

set_option maxRecDepth 100000 in
set_option maxHeartbeats 6400000 in
theorem same_no (w : World) (A A' : Option Addr) (L L' c c' : Nat) (y y' : Int) (W W' U U' X X' : Bool) (lv lv' fr fr' : Int) (h : ¬ (y = y' ∧ W = W' ∧ U = U' ∧ X = X' ∧ lv = lv' ∧ fr = fr' ∧ L = L')) :
    Calls Tryd.prog 21 #[pathV (.slice A L c) y W U X lv fr, pathV (.slice A' L' c') y' W' U' X' lv' fr'] w fun e w' => e = .returned (.bool false) ∧ Below w.heap.size w w' := by
  by_cases h0 : y = y'
  rotate_left
  · have hb : (y != y') = true := by simpa using h0
    clear h h0
    go_enter Tryd.func21, Tryd.ntmps21
    go_wp2
    go_ret
    exact ⟨rfl, below2 w _ _⟩
  subst h0
  by_cases h1 : W = W'
  rotate_left
  · clear h
    cases W <;> cases W' <;> first | exact absurd rfl h1 | skip
    all_goals
      clear h1
      go_enter Tryd.func21, Tryd.ntmps21
      go_wp2
      go_ret
      exact ⟨rfl, below2 w _ _⟩
  subst h1
  by_cases h2 : U = U'
  rotate_left
  · clear h
    cases U <;> cases U' <;> first | exact absurd rfl h2 | skip
    all_goals
      clear h2
      go_enter Tryd.func21, Tryd.ntmps21
      go_wp2
      go_ret
      exact ⟨rfl, below2 w _ _⟩
  subst h2
  by_cases h3 : X = X'
  rotate_left
  · clear h
    cases X <;> cases X' <;> first | exact absurd rfl h3 | skip
    all_goals
      clear h3
      go_enter Tryd.func21, Tryd.ntmps21
      go_wp2
      go_ret
      exact ⟨rfl, below2 w _ _⟩
  subst h3
  by_cases h4 : lv = lv'
  rotate_left
  · have hb : (lv != lv') = true := by simpa using h4
    clear h h4
    go_enter Tryd.func21, Tryd.ntmps21
    go_wp2
    go_ret
    exact ⟨rfl, below2 w _ _⟩
  subst h4
  by_cases h5 : fr = fr'
  rotate_left
  · have hb : (fr != fr') = true := by simpa using h5
    clear h h5
    go_enter Tryd.func21, Tryd.ntmps21
    go_wp2
    go_ret
    exact ⟨rfl, below2 w _ _⟩
  subst h5
  have hb : ((L : Int) != (L' : Int)) = true := by simp; intro e; exact h ⟨rfl, rfl, rfl, rfl, rfl, rfl, by omega⟩
  clear h
  go_enter Tryd.func21, Tryd.ntmps21
  go_wp2
  go_ret
  exact ⟨rfl, below2 w _ _⟩

set_option maxRecDepth 100000 in
set_option maxHeartbeats 6400000 in
theorem rsame_no (w : World) (A A' : Option Addr) (L L' c c' : Nat) (y y' : Int) (W W' U U' X X' : Bool) (lv lv' fr fr' : Int) (h : ¬ (y = y' ∧ W = W' ∧ U = U' ∧ X = X' ∧ lv = lv' ∧ fr = fr' ∧ L = L')) :
    Calls Tryd.prog 22 #[pathV (.slice A L c) y W U X lv fr, pathV (.slice A' L' c') y' W' U' X' lv' fr'] w fun e w' => e = .returned (.bool false) ∧ Below w.heap.size w w' := by
  by_cases h0 : y = y'
  rotate_left
  · have hb : (y != y') = true := by simpa using h0
    clear h h0
    go_enter Tryd.func22, Tryd.ntmps22
    go_wp2
    go_ret
    exact ⟨rfl, below2 w _ _⟩
  subst h0
  by_cases h1 : W = W'
  rotate_left
  · clear h
    cases W <;> cases W' <;> first | exact absurd rfl h1 | skip
    all_goals
      clear h1
      go_enter Tryd.func22, Tryd.ntmps22
      go_wp2
      go_ret
      exact ⟨rfl, below2 w _ _⟩
  subst h1
  by_cases h2 : U = U'
  rotate_left
  · clear h
    cases U <;> cases U' <;> first | exact absurd rfl h2 | skip
    all_goals
      clear h2
      go_enter Tryd.func22, Tryd.ntmps22
      go_wp2
      go_ret
      exact ⟨rfl, below2 w _ _⟩
  subst h2
  by_cases h3 : X = X'
  rotate_left
  · clear h
    cases X <;> cases X' <;> first | exact absurd rfl h3 | skip
    all_goals
      clear h3
      go_enter Tryd.func22, Tryd.ntmps22
      go_wp2
      go_ret
      exact ⟨rfl, below2 w _ _⟩
  subst h3
  by_cases h4 : lv = lv'
  rotate_left
  · have hb : (lv != lv') = true := by simpa using h4
    clear h h4
    go_enter Tryd.func22, Tryd.ntmps22
    go_wp2
    go_ret
    exact ⟨rfl, below2 w _ _⟩
  subst h4
  by_cases h5 : fr = fr'
  rotate_left
  · have hb : (fr != fr') = true := by simpa using h5
    clear h h5
    go_enter Tryd.func22, Tryd.ntmps22
    go_wp2
    go_ret
    exact ⟨rfl, below2 w _ _⟩
  subst h5
  have hb : ((L : Int) != (L' : Int)) = true := by simp; intro e; exact h ⟨rfl, rfl, rfl, rfl, rfl, rfl, by omega⟩
  clear h
  go_enter Tryd.func22, Tryd.ntmps22
  go_wp2
  go_ret
  exact ⟨rfl, below2 w _ _⟩

end Go.Proofs.YtlpjbmlkpmhdlaaDoor
