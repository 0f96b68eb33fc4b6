/- Several texts of ours in one: L8t, L8g, Oq. -/
import Derived.Test.YtlpjbmlkpmhdlaaDoorGHvErHx
import Derived.Test.YtlpjbmlkpmhdlaaDoorGHfHgHm
import Derived.Test.YtlpjbmlkpmhdlaaDoorGIdEsEt
import Derived.Test.YtlpjbmlkpmhdlaaDoorGGsIeIf
import Derived.Test.YtlpjbmlkpmhdlaaDoorGHnHpHq
import Derived.Test.YtlpjbmlkpmhdlaaDoorGVaVrFr
import Derived.Deep.Slices
import Derived.Deep.Strs
import Derived.Deep.FieldsWide
/- The walk of WalkTop. (Laid by tools/gen_l8t.py.) -/
namespace Go.Proofs.YtlpjbmlkpmhdlaaDoor
set_option linter.unusedVariables false
set_option linter.unusedSimpArgs false
open Go.ChangeShapes Go.WideShapes Go.ChangeAt Go.RowKit Go.Joins

/-- what the region of WalkTop keeps -/
def RegT (w5 : World) (ab : Nat) (t : Int) (bb : Nat) (pb : Nat) (v : Value) (P : Pth) (qb : Nat) (v' : Value) (Q : Pth) (w' : World) : Prop :=
  Blk w' ab #[.int .i64 4, .int .u64 t, .bool true, .bool true, .bool true] 41 ∧ Blk w' bb #[.int .i64 4, .int .u64 t, .bool true, .bool true, .bool true] 49 ∧ Blk w' pb (pathCells v P) 38 ∧ Blk w' qb (pathCells v' Q) 38 ∧ Kept w5 w'
theorem regt_step {w5 : World} {ab : Nat} {t : Int} {bb pb : Nat} {v : Value} {P : Pth} {qb : Nat} {v' : Value} {Q : Pth} {w2 w3 : World} (h : RegT w5 ab t bb pb v P qb v' Q w2) (hb : Below w2.heap.size w2 w3) : RegT w5 ab t bb pb v P qb v' Q w3 :=
  ⟨h.1.below hb, h.2.1.below hb, h.2.2.1.below hb, h.2.2.2.1.below hb, Kept.step hb h.2.2.2.2⟩

theorem real_in (w : World) (A : Option Addr) (L c : Nat) (P : Pth) (hL : P.steps.length = L) (hS : StepsIn w (.slice A L c) P.steps) (hl : L * 24 ≤ 140737488355328) :
    Calls Tryd.prog 15 #[pathV (.slice A L c) P.why P.W P.U P.X P.lev P.fr] w fun e w' => ∃ A' c', e = .returned (pathV (.slice A' L c') P.why P.W P.U P.X P.lev P.fr) ∧ StepsIn w' (.slice A' L c') P.steps ∧ Below w.heap.size w w' :=
  (real_any w A L c P hL hS hl).mono fun _ _ ⟨A', c', e, h, hb⟩ => ⟨A', c', e, h.into, hb⟩

set_option maxRecDepth 100000 in
set_option maxHeartbeats 6400000 in
theorem walkTop_walk (r : Int) (A A' : Option Addr) (L L' c c' : Nat) (P Q : Pth) (w : World) (hs : Shifts w) (hr : W64 r) (hL : P.steps.length = L) (hL' : Q.steps.length = L') (h1 : StepsIn w (.slice A L c) P.steps) (h2 : StepsIn w (.slice A' L' c') Q.steps) (hl : L * 24 ≤ 140737488355328) (hl' : L' * 24 ≤ 140737488355328)
    (hw1 : ∀ k, k < P.steps.length → W64 (stepAt P.steps k).2.2) (hw2 : ∀ k, k < Q.steps.length → W64 (stepAt Q.steps k).2.2) :
    Calls Tryd.prog 4 #[.int .u64 r, pathV (.slice A L c) P.why P.W P.U P.X P.lev P.fr, pathV (.slice A' L' c') Q.why Q.W Q.U Q.X Q.lev Q.fr] w fun e w' => e = .returned (.bool true) ∧ Below w.heap.size w w' := by
  have HM : Hid (L ≤ maxLen) := Lib.hid (by unfold maxLen; omega)
  have HC : Hid (∀ w5, Below w.heap.size w w5 → (∀ w', Kept w5 w' → Calls Tryd.prog 21 #[pathV (.slice A L c) P.why P.W P.U P.X P.lev P.fr, pathV (.slice A' L' c') Q.why Q.W Q.U Q.X Q.lev Q.fr] w' fun e w'' => e = .returned (.bool (alikeP P Q)) ∧ Below w'.heap.size w' w'') ∧
      (∀ w', Kept w5 w' → Calls Tryd.prog 15 #[pathV (.slice A L c) P.why P.W P.U P.X P.lev P.fr] w' fun e w'' => ∃ A1 c1, e = .returned (pathV (.slice A1 L c1) P.why P.W P.U P.X P.lev P.fr) ∧ StepsIn w'' (.slice A1 L c1) P.steps ∧ Below w'.heap.size w' w'') ∧
      (∀ w', Kept w5 w' → Calls Tryd.prog 15 #[pathV (.slice A' L' c') Q.why Q.W Q.U Q.X Q.lev Q.fr] w' fun e w'' => ∃ A1 c1, e = .returned (pathV (.slice A1 L' c1) Q.why Q.W Q.U Q.X Q.lev Q.fr) ∧ StepsIn w'' (.slice A1 L' c1) Q.steps ∧ Below w'.heap.size w' w'') ∧
      (∀ w', Kept w5 w' → Calls Tryd.prog 21 #[pathV (.slice A L c) P.why P.W P.U P.X P.lev P.fr, pathV (.slice A L c) P.why P.W P.U P.X P.lev P.fr] w' fun e w'' => e = .returned (.bool true) ∧ Below w'.heap.size w' w'')) := Lib.hid (by
    intro w5 hb
    have hk : ∀ w', Kept w5 w' → Below w.heap.size w w' := fun w' h => hb.trans (Below.mono h hb.size)
    refine ⟨fun w' h => ?_, fun w' h => ?_, fun w' h => ?_, fun w' h => ?_⟩
    · exact same_all w' P Q A A' L L' c c' hL hL' (h1.below (hk w' h)) (h2.below (hk w' h)) HM.out
    · exact real_in w' A L c P hL (h1.below (hk w' h)) hl
    · exact real_in w' A' L' c' Q hL' (h2.below (hk w' h)) hl'
    · rw [← alikeP_self P]; exact same_all w' P P A A L L c c hL hL (h1.below (hk w' h)) (h1.below (hk w' h)) HM.out)
  have C4 : ∀ w' A1 c1 A2 c2, StepsIn w' (.slice A1 L c1) P.steps → StepsIn w' (.slice A2 L' c2) Q.steps → Calls Tryd.prog 22 #[pathV (.slice A1 L c1) P.why P.W P.U P.X P.lev P.fr, pathV (.slice A2 L' c2) Q.why Q.W Q.U Q.X Q.lev Q.fr] w' fun e w'' => e = .returned (.bool (alikeP P Q)) ∧ Below w'.heap.size w' w'' :=
    fun w' A1 c1 A2 c2 i1 i2 => rsame_all w' P Q A1 A2 L L' c1 c2 hL hL' i1 i2 HM.out hw1 hw2
  have HS := Lib.hid hs
  have hz := size_shifts hs
  have HP0 := Lib.hid (Two.start (P := P) (Q := Q) h1 h2)
  clear hs h1 h2 hw1 hw2 hL hL'
  go_enter Tryd.func4, Tryd.ntmps4
  go_upto_region 1 with fail
  generalize hw0 : (w.alloc _).alloc _ = w0
  have HT0 : Hid (Two w w0 w.heap.size (.slice A L c) P (w.heap.size + 1) (.slice A' L' c') Q) := Lib.hid (by rw [← hw0]; exact HP0.out)
  have HS0 := Lib.hid (shifts_under HS.out HT0.out.below hz)
  clear hw0 HP0 HS
  go_upto_region 3 with (first | (go_at_call 9; refine (awake8_any _ HS0.out).mono ?_; rintro e w1 ⟨rfl, hB1⟩; have HT1 := Lib.hid (HT0.out.quiet hB1); clear hB1 HT0 HS0) | (go_at_call 19; refine (top_any _ _ hr).mono ?_; rintro e w2 ⟨rfl, hB2⟩; have HT2 := Lib.hid (HT1.out.quiet hB2); clear hB2 HT1))
  generalize hw3 : w2.alloc _ = w3
  have HT3 : Hid (Two w w3 w.heap.size (.slice A L c) P (w.heap.size + 1) (.slice A' L' c') Q) := Lib.hid (by rw [← hw3]; exact HT2.out.quiet (below_alloc1 _ _))
  have HA3 : Hid (Blk w3 w2.heap.size #[.int .i64 4, .int .u64 (tableF r), .bool true, .bool true, .bool true] 41) := Lib.hid (by rw [← hw3]; exact Blk.new _ _ _)
  clear hw3 HT2
  generalize w2.heap.size = ab at *
  go_upto_region 4 with (first | (go_at_call 20; refine (rtop_any _ _ hr).mono ?_; rintro e w4 ⟨rfl, hB4⟩; have HT4 := Lib.hid (HT3.out.quiet hB4); have HA4 := Lib.hid (HA3.out.below hB4); clear hB4 HT3 HA3))
  generalize hw5 : w4.alloc _ = w5
  have HK5 : Hid (Below w4.heap.size w4 w5) := Lib.hid (by rw [← hw5]; exact below_alloc1 _ _)
  have HT5 := Lib.hid (HT4.out.quiet HK5.out)
  have HA5 := Lib.hid (HA4.out.below HK5.out)
  have HD5 : Hid (Blk w5 w4.heap.size #[.int .i64 4, .int .u64 (tableF r), .bool true, .bool true, .bool true] 49) := Lib.hid (by rw [← hw5]; exact Blk.new _ _ _)
  clear hw5 HK5 HT4 HA4
  generalize w4.heap.size = bb at *
  obtain ⟨C1, C2, C3, C5⟩ := HC.out w5 HT5.out.below
  have HB5 := Lib.hid HT5.out.below
  have H0 : RegT w5 ab (tableF r) bb w.heap.size (.slice A L c) P (w.heap.size + 1) (.slice A' L' c') Q w5.drew := ⟨HA5.out, HD5.out, HT5.out.boxP, HT5.out.boxQ, Kept.drew0 _⟩
  clear HT5 HA5 HD5 HC
  refine wp_region_held_drew (S := RegT w5 ab (tableF r) bb w.heap.size (.slice A L c) P (w.heap.size + 1) (.slice A' L' c') Q) (by kernel_rfl) H0 (fun hHeld => ?_)
  clear H0
  generalize w5.drew = wd at *
  refine anyH_take (i := 0) (v := ?_) rfl (by kernel_rfl) (by kernel_rfl) (by kernel_rfl) (fun _ _ _ h => h) (by rfl) (by assumption) ?_ ?_
  rotate_left
  · intro w hSw
    go_simp
    (try with_reducible rfl)
  (try simp only [Act.put, List.setIfInBounds_toArray, List.set_cons_zero, List.set_cons_succ])
  refine anyH_take (i := 1) (v := ?_) rfl (by kernel_rfl) (by kernel_rfl) (by kernel_rfl) (fun _ _ _ h => h) (by rfl) (by assumption) ?_ ?_
  rotate_left
  · intro w hSw
    go_simp
    (try with_reducible rfl)
  (try simp only [Act.put, List.setIfInBounds_toArray, List.set_cons_zero, List.set_cons_succ])
  refine anyH_take (i := 2) (v := ?_) rfl (by kernel_rfl) (by kernel_rfl) (by kernel_rfl) (fun _ _ _ h => h) (by rfl) (by assumption) ?_ ?_
  rotate_left
  · intro w hSw
    go_simp
    (try with_reducible rfl)
  (try simp only [Act.put, List.setIfInBounds_toArray, List.set_cons_zero, List.set_cons_succ])
  refine anyH_take (i := 3) (v := ?_) rfl (by kernel_rfl) (by kernel_rfl) (by kernel_rfl) (fun _ _ _ h => h) (by rfl) (by assumption) ?_ ?_
  rotate_left
  · intro w hSw
    obtain ⟨hA, hB, hC, hD, hk9⟩ := hSw
    obtain ⟨a0, a1, a2, a3, a4⟩ := hA.five
    obtain ⟨b0, b1, b2, b3, b4⟩ := hB.five
    obtain ⟨p0, p1, p2, p3, p4, p5, p6⟩ := hC.seven
    obtain ⟨q0, q1, q2, q3, q4, q5, q6⟩ := hD.seven
    go_simp
    (try with_reducible rfl)
  (try simp only [Act.put, List.setIfInBounds_toArray, List.set_cons_zero, List.set_cons_succ])
  refine anyH_take (i := 4) (v := ?_) rfl (by kernel_rfl) (by kernel_rfl) (by kernel_rfl) (fun _ _ _ h => h) (by rfl) (by assumption) ?_ ?_
  rotate_left
  · intro w hSw
    go_simp
    (try with_reducible rfl)
  (try simp only [Act.put, List.setIfInBounds_toArray, List.set_cons_zero, List.set_cons_succ])
  refine anyH_take (i := 5) (v := ?_) rfl (by kernel_rfl) (by kernel_rfl) (by kernel_rfl) (fun _ _ _ h => h) (by rfl) (by assumption) ?_ ?_
  rotate_left
  · intro w hSw
    obtain ⟨hA, hB, hC, hD, hk9⟩ := hSw
    obtain ⟨a0, a1, a2, a3, a4⟩ := hA.five
    obtain ⟨b0, b1, b2, b3, b4⟩ := hB.five
    obtain ⟨p0, p1, p2, p3, p4, p5, p6⟩ := hC.seven
    obtain ⟨q0, q1, q2, q3, q4, q5, q6⟩ := hD.seven
    go_simp
    (try with_reducible rfl)
  (try simp only [Act.put, List.setIfInBounds_toArray, List.set_cons_zero, List.set_cons_succ])
  refine anyH_take (i := 6) (v := ?_) rfl (by kernel_rfl) (by kernel_rfl) (by kernel_rfl) (fun _ _ _ h => h) (by rfl) (by assumption) ?_ ?_
  rotate_left
  · intro w hSw
    go_simp
    (try with_reducible rfl)
  (try simp only [Act.put, List.setIfInBounds_toArray, List.set_cons_zero, List.set_cons_succ])
  refine anyH_take (i := 7) (v := ?_) rfl (by kernel_rfl) (by kernel_rfl) (by kernel_rfl) (fun _ _ _ h => h) (by rfl) (by assumption) ?_ ?_
  rotate_left
  · intro w hSw
    go_simp
    (try with_reducible rfl)
  (try simp only [Act.put, List.setIfInBounds_toArray, List.set_cons_zero, List.set_cons_succ])
  refine anyH_take (i := 8) (v := ?_) rfl (by kernel_rfl) (by kernel_rfl) (by kernel_rfl) (fun _ _ _ h => h) (by rfl) (by assumption) ?_ ?_
  rotate_left
  · intro w hSw
    go_simp
    (try with_reducible rfl)
  (try simp only [Act.put, List.setIfInBounds_toArray, List.set_cons_zero, List.set_cons_succ])
  refine anyH_take (i := 9) (v := ?_) rfl (by kernel_rfl) (by kernel_rfl) (by kernel_rfl) (fun _ _ _ h => h) (by rfl) (by assumption) ?_ ?_
  rotate_left
  · intro w hSw
    go_simp
    (try with_reducible rfl)
  (try simp only [Act.put, List.setIfInBounds_toArray, List.set_cons_zero, List.set_cons_succ])
  refine anyH_take (i := 10) (v := ?_) rfl (by kernel_rfl) (by kernel_rfl) (by kernel_rfl) (fun _ _ _ h => h) (by rfl) (by assumption) ?_ ?_
  rotate_left
  · intro w hSw
    obtain ⟨hA, hB, hC, hD, hk9⟩ := hSw
    obtain ⟨a0, a1, a2, a3, a4⟩ := hA.five
    obtain ⟨b0, b1, b2, b3, b4⟩ := hB.five
    obtain ⟨p0, p1, p2, p3, p4, p5, p6⟩ := hC.seven
    obtain ⟨q0, q1, q2, q3, q4, q5, q6⟩ := hD.seven
    go_simp
    (try with_reducible rfl)
  (try simp only [Act.put, List.setIfInBounds_toArray, List.set_cons_zero, List.set_cons_succ])
  refine anyH_take (i := 11) (v := ?_) rfl (by kernel_rfl) (by kernel_rfl) (by kernel_rfl) (fun _ _ _ h => h) (by rfl) (by assumption) ?_ ?_
  rotate_left
  · intro w hSw
    go_simp
    (try with_reducible rfl)
  (try simp only [Act.put, List.setIfInBounds_toArray, List.set_cons_zero, List.set_cons_succ])
  refine anyH_take (i := 12) (v := ?_) rfl (by kernel_rfl) (by kernel_rfl) (by kernel_rfl) (fun _ _ _ h => h) (by rfl) (by assumption) ?_ ?_
  rotate_left
  · intro w hSw
    obtain ⟨hA, hB, hC, hD, hk9⟩ := hSw
    obtain ⟨a0, a1, a2, a3, a4⟩ := hA.five
    obtain ⟨b0, b1, b2, b3, b4⟩ := hB.five
    obtain ⟨p0, p1, p2, p3, p4, p5, p6⟩ := hC.seven
    obtain ⟨q0, q1, q2, q3, q4, q5, q6⟩ := hD.seven
    go_simp
    (try with_reducible rfl)
  (try simp only [Act.put, List.setIfInBounds_toArray, List.set_cons_zero, List.set_cons_succ])
  refine anyH_take (i := 13) (v := ?_) rfl (by kernel_rfl) (by kernel_rfl) (by kernel_rfl) (fun _ _ _ h => h) (by rfl) (by assumption) ?_ ?_
  rotate_left
  · intro w hSw
    go_simp
    (try with_reducible rfl)
  (try simp only [Act.put, List.setIfInBounds_toArray, List.set_cons_zero, List.set_cons_succ])
  refine anyH_take (i := 14) (v := ?_) rfl (by kernel_rfl) (by kernel_rfl) (by kernel_rfl) (fun _ _ _ h => h) (by rfl) (by assumption) ?_ ?_
  rotate_left
  · intro w hSw
    go_simp
    (try with_reducible rfl)
  (try simp only [Act.put, List.setIfInBounds_toArray, List.set_cons_zero, List.set_cons_succ])
  refine anyH_take (i := 15) (v := ?_) rfl (by kernel_rfl) (by kernel_rfl) (by kernel_rfl) (fun _ _ _ h => h) (by rfl) (by assumption) ?_ ?_
  rotate_left
  · intro w hSw
    go_simp
    (try with_reducible rfl)
  (try simp only [Act.put, List.setIfInBounds_toArray, List.set_cons_zero, List.set_cons_succ])
  refine anyH_take (i := 16) (v := ?_) rfl (by kernel_rfl) (by kernel_rfl) (by kernel_rfl) (fun _ _ _ h => h) (by rfl) (by assumption) ?_ ?_
  rotate_left
  · intro w hSw
    go_simp
    (try with_reducible rfl)
  (try simp only [Act.put, List.setIfInBounds_toArray, List.set_cons_zero, List.set_cons_succ])
  refine anyH_take (i := 17) (v := ?_) rfl (by kernel_rfl) (by kernel_rfl) (by kernel_rfl) (fun _ _ _ h => h) (by rfl) (by assumption) ?_ ?_
  rotate_left
  · intro w hSw
    obtain ⟨hA, hB, hC, hD, hk9⟩ := hSw
    obtain ⟨a0, a1, a2, a3, a4⟩ := hA.five
    obtain ⟨b0, b1, b2, b3, b4⟩ := hB.five
    obtain ⟨p0, p1, p2, p3, p4, p5, p6⟩ := hC.seven
    obtain ⟨q0, q1, q2, q3, q4, q5, q6⟩ := hD.seven
    go_simp
    (try with_reducible rfl)
  (try simp only [Act.put, List.setIfInBounds_toArray, List.set_cons_zero, List.set_cons_succ])
  refine anyH_take (i := 18) (v := ?_) rfl (by kernel_rfl) (by kernel_rfl) (by kernel_rfl) (fun _ _ _ h => h) (by rfl) (by assumption) ?_ ?_
  rotate_left
  · intro w hSw
    go_simp
    (try with_reducible rfl)
  (try simp only [Act.put, List.setIfInBounds_toArray, List.set_cons_zero, List.set_cons_succ])
  refine anyH_take (i := 19) (v := ?_) rfl (by kernel_rfl) (by kernel_rfl) (by kernel_rfl) (fun _ _ _ h => h) (by rfl) (by assumption) ?_ ?_
  rotate_left
  · intro w hSw
    obtain ⟨hA, hB, hC, hD, hk9⟩ := hSw
    obtain ⟨a0, a1, a2, a3, a4⟩ := hA.five
    obtain ⟨b0, b1, b2, b3, b4⟩ := hB.five
    obtain ⟨p0, p1, p2, p3, p4, p5, p6⟩ := hC.seven
    obtain ⟨q0, q1, q2, q3, q4, q5, q6⟩ := hD.seven
    go_simp
    (try with_reducible rfl)
  (try simp only [Act.put, List.setIfInBounds_toArray, List.set_cons_zero, List.set_cons_succ])
  refine anyH_take (i := 20) (v := ?_) rfl (by kernel_rfl) (by kernel_rfl) (by kernel_rfl) (fun _ _ _ h => h) (by rfl) (by assumption) ?_ ?_
  rotate_left
  · intro w hSw
    go_simp
    (try with_reducible rfl)
  (try simp only [Act.put, List.setIfInBounds_toArray, List.set_cons_zero, List.set_cons_succ])
  refine anyH_take (i := 21) (v := ?_) rfl (by kernel_rfl) (by kernel_rfl) (by kernel_rfl) (fun _ _ _ h => h) (by rfl) (by assumption) ?_ ?_
  rotate_left
  · intro w hSw
    go_simp
    (try with_reducible rfl)
  (try simp only [Act.put, List.setIfInBounds_toArray, List.set_cons_zero, List.set_cons_succ])
  refine anyH_take (i := 22) (v := ?_) rfl (by kernel_rfl) (by kernel_rfl) (by kernel_rfl) (fun _ _ _ h => h) (by rfl) (by assumption) ?_ ?_
  rotate_left
  · intro w hSw
    go_simp
    (try with_reducible rfl)
  (try simp only [Act.put, List.setIfInBounds_toArray, List.set_cons_zero, List.set_cons_succ])
  refine anyH_take (i := 23) (v := ?_) rfl (by kernel_rfl) (by kernel_rfl) (by kernel_rfl) (fun _ _ _ h => h) (by rfl) (by assumption) ?_ ?_
  rotate_left
  · intro w hSw
    obtain ⟨hA, hB, hC, hD, hk9⟩ := hSw
    obtain ⟨a0, a1, a2, a3, a4⟩ := hA.five
    obtain ⟨b0, b1, b2, b3, b4⟩ := hB.five
    obtain ⟨p0, p1, p2, p3, p4, p5, p6⟩ := hC.seven
    obtain ⟨q0, q1, q2, q3, q4, q5, q6⟩ := hD.seven
    go_simp
    (try with_reducible rfl)
  (try simp only [Act.put, List.setIfInBounds_toArray, List.set_cons_zero, List.set_cons_succ])
  refine anyH_take (i := 24) (v := ?_) rfl (by kernel_rfl) (by kernel_rfl) (by kernel_rfl) (fun _ _ _ h => h) (by rfl) (by assumption) ?_ ?_
  rotate_left
  · intro w hSw
    obtain ⟨hA, hB, hC, hD, hk9⟩ := hSw
    obtain ⟨a0, a1, a2, a3, a4⟩ := hA.five
    obtain ⟨b0, b1, b2, b3, b4⟩ := hB.five
    obtain ⟨p0, p1, p2, p3, p4, p5, p6⟩ := hC.seven
    obtain ⟨q0, q1, q2, q3, q4, q5, q6⟩ := hD.seven
    go_simp
    (try with_reducible rfl)
  (try simp only [Act.put, List.setIfInBounds_toArray, List.set_cons_zero, List.set_cons_succ])
  refine anyH_take (i := 26) (v := ?_) rfl (by kernel_rfl) (by kernel_rfl) (by kernel_rfl) (fun _ _ _ h => h) (by rfl) (by assumption) ?_ ?_
  rotate_left
  · intro w hSw
    obtain ⟨hA, hB, hC, hD, hk9⟩ := hSw
    obtain ⟨a0, a1, a2, a3, a4⟩ := hA.five
    obtain ⟨b0, b1, b2, b3, b4⟩ := hB.five
    obtain ⟨p0, p1, p2, p3, p4, p5, p6⟩ := hC.seven
    obtain ⟨q0, q1, q2, q3, q4, q5, q6⟩ := hD.seven
    go_simp
    (try with_reducible rfl)
  (try simp only [Act.put, List.setIfInBounds_toArray, List.set_cons_zero, List.set_cons_succ])
  refine anyH_take (i := 28) (v := ?_) rfl (by kernel_rfl) (by kernel_rfl) (by kernel_rfl) (fun _ _ _ h => h) (by rfl) (by assumption) ?_ ?_
  rotate_left
  · intro w hSw
    obtain ⟨hA, hB, hC, hD, hk9⟩ := hSw
    obtain ⟨a0, a1, a2, a3, a4⟩ := hA.five
    obtain ⟨b0, b1, b2, b3, b4⟩ := hB.five
    obtain ⟨p0, p1, p2, p3, p4, p5, p6⟩ := hC.seven
    obtain ⟨q0, q1, q2, q3, q4, q5, q6⟩ := hD.seven
    go_simp
    (try with_reducible rfl)
  (try simp only [Act.put, List.setIfInBounds_toArray, List.set_cons_zero, List.set_cons_succ])
  refine wpAnyH_ready (rs := [25]) (by kernel_rfl) (by simp) ?_
  refine anyH_one rfl (fun K hK => ?_) ?_
  · go_simp
    refine (C1 _ hHeld.2.2.2.2).mono ?_
    rintro e w5' ⟨rfl, hb5⟩
    refine hK.out _ _ (regt_step hHeld hb5) (fun hHeld => ?_)
    clear hK K
    (try simp only [Act.put, List.setIfInBounds_toArray, List.set_cons_zero, List.set_cons_succ])
    refine wpAnyH_ready (rs := [27]) (by kernel_rfl) (by simp) ?_
    refine anyH_one rfl (fun K hK => ?_) ?_
    · go_simp
      refine (C2 _ hHeld.2.2.2.2).mono ?_
      rintro e w6 ⟨A6, c6, rfl, hs6, hb6⟩
      refine hK.out _ _ (regt_step hHeld hb6) (fun hHeld => ?_)
      clear hK K
      (try simp only [Act.put, List.setIfInBounds_toArray, List.set_cons_zero, List.set_cons_succ])
      refine wpAnyH_ready (rs := [29]) (by kernel_rfl) (by simp) ?_
      refine anyH_one rfl (fun K hK => ?_) ?_
      · go_simp
        refine (C3 _ hHeld.2.2.2.2).mono ?_
        rintro e w7 ⟨A7, c7, rfl, hs7, hb7⟩
        refine hK.out _ _ (regt_step hHeld hb7) (fun hHeld => ?_)
        clear hK K
        (try simp only [Act.put, List.setIfInBounds_toArray, List.set_cons_zero, List.set_cons_succ])
        refine wpAnyH_ready (rs := [30]) (by kernel_rfl) (by simp) ?_
        refine anyH_one rfl (fun K hK => ?_) ?_
        · go_simp
          refine (C4 _ _ _ _ _ (hs6.below hb7) hs7).mono ?_
          rintro e w8 ⟨rfl, hb8⟩
          refine hK.out _ _ (regt_step hHeld hb8) (fun hHeld => ?_)
          clear hK K
          (try simp only [Act.put, List.setIfInBounds_toArray, List.set_cons_zero, List.set_cons_succ])
          refine anyH_take (i := 31) (v := ?_) rfl (by kernel_rfl) (by kernel_rfl) (by kernel_rfl) (fun _ _ _ h => h) (by rfl) (by assumption) ?_ ?_
          rotate_left
          · intro w hSw
            go_simp
            (try with_reducible rfl)
          (try simp only [Act.put, List.setIfInBounds_toArray, List.set_cons_zero, List.set_cons_succ])
          refine anyH_take (i := 32) (v := ?_) rfl (by kernel_rfl) (by kernel_rfl) (by kernel_rfl) (fun _ _ _ h => h) (by rfl) (by assumption) ?_ ?_
          rotate_left
          · intro w hSw
            go_simp
            (try with_reducible rfl)
          (try simp only [Act.put, List.setIfInBounds_toArray, List.set_cons_zero, List.set_cons_succ])
          refine anyH_take (i := 33) (v := ?_) rfl (by kernel_rfl) (by kernel_rfl) (by kernel_rfl) (fun _ _ _ h => h) (by rfl) (by assumption) ?_ ?_
          rotate_left
          · intro w hSw
            go_simp
            (try with_reducible rfl)
          (try simp only [Act.put, List.setIfInBounds_toArray, List.set_cons_zero, List.set_cons_succ])
          refine anyH_take (i := 34) (v := ?_) rfl (by kernel_rfl) (by kernel_rfl) (by kernel_rfl) (fun _ _ _ h => h) (by rfl) (by assumption) ?_ ?_
          rotate_left
          · intro w hSw
            obtain ⟨hA, hB, hC, hD, hk9⟩ := hSw
            obtain ⟨a0, a1, a2, a3, a4⟩ := hA.five
            obtain ⟨b0, b1, b2, b3, b4⟩ := hB.five
            obtain ⟨p0, p1, p2, p3, p4, p5, p6⟩ := hC.seven
            obtain ⟨q0, q1, q2, q3, q4, q5, q6⟩ := hD.seven
            go_simp
            (try with_reducible rfl)
          (try simp only [Act.put, List.setIfInBounds_toArray, List.set_cons_zero, List.set_cons_succ])
          refine anyH_take (i := 35) (v := ?_) rfl (by kernel_rfl) (by kernel_rfl) (by kernel_rfl) (fun _ _ _ h => h) (by rfl) (by assumption) ?_ ?_
          rotate_left
          · intro w hSw
            obtain ⟨hA, hB, hC, hD, hk9⟩ := hSw
            obtain ⟨a0, a1, a2, a3, a4⟩ := hA.five
            obtain ⟨b0, b1, b2, b3, b4⟩ := hB.five
            obtain ⟨p0, p1, p2, p3, p4, p5, p6⟩ := hC.seven
            obtain ⟨q0, q1, q2, q3, q4, q5, q6⟩ := hD.seven
            go_simp
            (try with_reducible rfl)
          (try simp only [Act.put, List.setIfInBounds_toArray, List.set_cons_zero, List.set_cons_succ])
          refine wpAnyH_ready (rs := [36]) (by kernel_rfl) (by simp) ?_
          refine anyH_one rfl (fun K hK => ?_) ?_
          · go_simp
            refine (C5 _ hHeld.2.2.2.2).mono ?_
            rintro e w9 ⟨rfl, hb9⟩
            refine hK.out _ _ (regt_step hHeld hb9) (fun hHeld => ?_)
            clear hK K
            (try simp only [Act.put, List.setIfInBounds_toArray, List.set_cons_zero, List.set_cons_succ])
            refine anyH_take (i := 37) (v := ?_) rfl (by kernel_rfl) (by kernel_rfl) (by kernel_rfl) (fun _ _ _ h => h) (by rfl) (by assumption) ?_ ?_
            rotate_left
            · intro w hSw
              go_simp
              (try with_reducible rfl)
            (try simp only [Act.put, List.setIfInBounds_toArray, List.set_cons_zero, List.set_cons_succ])
            refine wpAnyH_ready (rs := [38]) (by kernel_rfl) (by simp) ?_
            refine anyH_one rfl (fun K hK => ?_) ?_
            · go_simp
              refine hK.out _ _ hHeld (fun hHeld => ?_)
              clear hK K
              (try simp only [Act.put, List.setIfInBounds_toArray, List.set_cons_zero, List.set_cons_succ])
              refine wpAnyH_done (by kernel_rfl) ?_ _
              have HE := Lib.hid (HB5.out.trans (Below.mono hHeld.2.2.2.2 HB5.out.size))
              clear hHeld
              go_wp2
              go_ret
              exact ⟨rfl, HE.out⟩
            exact AllReadyH.nil
          exact AllReadyH.nil
        exact AllReadyH.nil
      exact AllReadyH.nil
    exact AllReadyH.nil
  exact AllReadyH.nil
end Go.Proofs.YtlpjbmlkpmhdlaaDoor
/- The walk of WalkGoes. (Laid by tools/gen_l8g.py.) -/
namespace Go.Proofs.YtlpjbmlkpmhdlaaDoor
set_option linter.unusedVariables false
set_option linter.unusedSimpArgs false
open Go.ChangeShapes Go.WideShapes Go.ChangeAt Go.RowKit Go.Joins

theorem Blk.six {w : World} {b : Nat} {t : TypeId} {x0 x1 x2 x3 x4 x5 : Value} (h : Blk w b #[x0, x1, x2, x3, x4, x5] t) : w.cell? ⟨b, 0, none⟩ = some x0 ∧ w.cell? ⟨b, 1, none⟩ = some x1 ∧ w.cell? ⟨b, 2, none⟩ = some x2 ∧ w.cell? ⟨b, 3, none⟩ = some x3 ∧ w.cell? ⟨b, 4, none⟩ = some x4 ∧ w.cell? ⟨b, 5, none⟩ = some x5 := by
  unfold Blk at h; simp [World.cell?, h]

theorem walk_facts (f : Int → Int) (hw : ∀ s, W64 (f s)) (a : Int) (nxe : Bool) (lev t : Int) (W U X : Bool) : (walkZ 16 f a nxe lev t W U X).steps.length ≤ 4 ∧ ∀ k, k < (walkZ 16 f a nxe lev t W U X).steps.length → W64 (stepAt (walkZ 16 f a nxe lev t W U X).steps k).2.1 ∧ W64 (stepAt (walkZ 16 f a nxe lev t W U X).steps k).2.2 := by
  by_cases h : 1 ≤ lev ∧ lev ≤ 4
  · have hs := walk_snd f hw a nxe lev.toNat (by omega) t W U X
    rw [show ((lev.toNat : Nat) : Int) = lev by omega] at hs
    have := hs.len
    refine ⟨by omega, fun k hk => ?_⟩
    obtain ⟨h1, h2, h3⟩ := hs.at_ k hk
    exact ⟨slot_w8 h1 h3, by rw [h2]; exact hw _⟩
  · rw [walk_off h]
    exact ⟨by simp [offP], fun k hk => absurd hk (by simp [offP])⟩

/-- the start, and the memory -/
structure Goe (w wr : World) (lev t : Int) (W U X nxe : Bool) (m : Nat) (f : Int → Int) (T : List Int) (n : Nat) (G : Nat → Prop) : Prop where
  st : Blk wr w.heap.size #[.int .i64 lev, .int .u64 t, .bool W, .bool U, .bool X, .bool nxe] 27
  wk : Wk w wr (From w.heap.size) m 16 f T n G
  nb : ¬ G w.heap.size
  sh : Shifts wr
/-- the document's memory in a variable -/
structure Dbx (wr : World) (db : Nat) (vs vt : Value) (f : Int → Int) (T : List Int) (L : List (Int × Int)) (G : Nat → Prop) : Prop where
  box : Blk wr db (docCells 16 vs vt) 34
  doc : Doc wr 16 vs vt f T L
  nd : ¬ G db
  ns : ∀ i, vs.ownBlock = some i → ¬ G i
  nt : ∀ i, vt.ownBlock = some i → ¬ G i
/-- the document's path in a variable -/
structure RSc (wr : World) (b : Nat) (v : Value) (P : Pth) (G : Nat → Prop) : Prop where
  box : Blk wr b (pathCells v P) 45
  own : StepsOwn 96 wr 0 v P.steps
  nb : ¬ G b
  nv : ∀ i, v.ownBlock = some i → ¬ G i

section
variable {w wr w3 w4 : World} {lev t : Int} {W U X nxe : Bool} {m n n' db b : Nat} {f f' f2 : Int → Int} {T T' T2 : List Int} {G G' : Nat → Prop} {vs vt v : Value} {L : List (Int × Int)} {P : Pth}
theorem Goe.quiet (h : Goe w wr lev t W U X nxe m f T n G) (hb : Below wr.heap.size wr w3) : Goe w w3 lev t W U X nxe m f T n G :=
  ⟨h.st.below hb, h.wk.quiet hb, h.nb, shifts_under h.sh hb (size_shifts h.sh)⟩
theorem Goe.step (h : Goe w wr lev t W U X nxe m f T n G) (hz : 0 < w.heap.size) (k : Wk wr w4 G m 16 f' T' n' G') : Goe w w4 lev t W U X nxe m f' T' n' G' :=
  ⟨h.st.turn k.turn h.nb, h.wk.join k, k.free h.nb h.st.lt, shifts_turn h.sh k.turn (h.wk.no0 hz)⟩
theorem Dbx.quiet (h : Dbx wr db vs vt f T L G) (hb : Below wr.heap.size wr w3) : Dbx w3 db vs vt f T L G := ⟨h.box.below hb, h.doc.quiet hb, h.nd, h.ns, h.nt⟩
theorem Dbx.step (h : Dbx wr db vs vt f T L G) (k : Wk wr w4 G m 16 f' T' n' G') : Dbx w4 db vs vt f T L G' :=
  ⟨h.box.turn k.turn h.nd, ⟨own_turn h.doc.slots k.turn h.ns, own_turn h.doc.words k.turn h.nt, h.doc.agree, h.doc.ris, h.doc.ins⟩, k.free h.nd h.box.lt, fun i hi => k.free (h.ns i hi) (World.ownsRow.lt h.doc.slots i hi).2, fun i hi => k.free (h.nt i hi) (World.ownsRow.lt h.doc.words i hi).2⟩
theorem RSc.quiet (h : RSc wr b v P G) (hb : Below wr.heap.size wr w3) : RSc w3 b v P G := ⟨h.box.below hb, h.own.below hb, h.nb, h.nv⟩
theorem RSc.step (h : RSc wr b v P G) (k : Wk wr w4 G m 16 f' T' n' G') : RSc w4 b v P G' :=
  ⟨h.box.turn k.turn h.nb, h.own.turn k.turn h.nv, k.free h.nb h.box.lt, fun i hi => k.free (h.nv i hi) (h.own.lt hi).2⟩
theorem goe_start {w1 w2 : World} (hs : Shifts w) (hst : Blk w1 w.heap.size #[.int .i64 lev, .int .u64 t, .bool W, .bool U, .bool X, .bool nxe] 27) (h1 : Below w.heap.size w w1) (hM : Mem w2 (From w1.heap.size) m 16 f [] 100) (hB : Below w1.heap.size w1 w2) :
    Goe w w2 lev t W U X nxe m f [] 100 (fun i => From w1.heap.size i ∧ i < w2.heap.size) := by
  have b2 := h1.trans (hB.mono h1.size)
  exact ⟨hst.below hB, Wk.made hM b2 h1.size, fun h => by have h3 : w1.heap.size ≤ w.heap.size := h.1; have := hst.lt; omega, shifts_under hs b2 (size_shifts hs)⟩
/-- the document's memory that was built beside it -/
theorem dbx_new (hg : Goe w wr lev t W U X nxe m f T n G) (hd : Doc w3 16 vs vt f2 T2 L) (hb : Below wr.heap.size wr w3) (hs : ∀ i, vs.ownBlock = some i → wr.heap.size ≤ i) (ht : vt.ownBlock = none) :
    Dbx (w3.alloc (.cells (docCells 16 vs vt) 34)) w3.heap.size vs vt f2 T2 L G :=
  ⟨Blk.new _ _ _, hd.quiet (below_alloc1 _ _), fun h => by have := (hg.wk.foot _ h).1; have := hb.size; omega, fun i hi h => by have := (hg.wk.foot _ h).1; have := hs i hi; omega, fun i hi => by rw [ht] at hi; cases hi⟩
end

/-- what the region of WalkGoes keeps -/
def RegG (w8 : World) (pb : Nat) (v : Value) (qb : Nat) (v' : Value) (P : Pth) (db : Nat) (vs vt : Value) (w' : World) : Prop :=
  Blk w' pb (pathCells v P) 38 ∧ Blk w' qb (pathCells v' P) 45 ∧ Blk w' db (docCells 16 vs vt) 34 ∧ Kept w8 w'
theorem regg_step {w8 : World} {pb : Nat} {v : Value} {qb : Nat} {v' : Value} {P : Pth} {db : Nat} {vs vt : Value} {w2 w3 : World} (h : RegG w8 pb v qb v' P db vs vt w2) (hb : Below w2.heap.size w2 w3) : RegG w8 pb v qb v' P db vs vt w3 :=
  ⟨h.1.below hb, h.2.1.below hb, h.2.2.1.below hb, Kept.step hb h.2.2.2⟩

theorem rem2i (l : Int) : ∃ ρ, l.tmod 2 = ρ ∧ IntKind.i64.wrap ρ = ρ := ⟨_, rfl, i64_wrap (by have := Int.tmod_lt_of_pos l (show (0 : Int) < 2 by decide); have := Int.lt_tmod_of_pos l (show (0 : Int) < 2 by decide); omega) (by have := Int.tmod_lt_of_pos l (show (0 : Int) < 2 by decide); omega)⟩

set_option maxRecDepth 100000 in
set_option maxHeartbeats 8000000 in
theorem walkGoes_walk (A : Option Addr) (c : Nat) (ds : List (Int × Int × Int × Int)) (lev t : Int) (W U X nxe : Bool) (a : Int) (w : World) (hs : Shifts w) (hl : ds.length ≤ maxLen) (hd : PutsIn w A ds) (hok : PutsOk ds) (ht : W64 t) (ha : W64 a) :
    Calls Tryd.prog 3 #[.slice A ds.length c, .agg #[.int .i64 lev, .int .u64 t, .bool W, .bool U, .bool X, .bool nxe], .int .u64 a] w fun e w' => e = .returned (.bool true) ∧ Below w.heap.size w w' := by
  have HS := Lib.hid hs
  have hz := size_shifts hs
  obtain ⟨f, hf⟩ : ∃ f, putSt ds (mostP ds) = f := ⟨_, rfl⟩
  have HB := Lib.hid (fun w1 (hb : Below w.heap.size w w1) => built_any w1 A c ds hl (puts_below hd hb) hok)
  have HC := Lib.hid (fun w1 (hb : Below w.heap.size w w1) => rbuilt_any w1 A c ds hl (puts_below hd hb) hok)
  rw [hf] at HB HC
  have H0 : Hid (Blk (w.alloc (.cells #[.int .i64 lev, .int .u64 t, .bool W, .bool U, .bool X, .bool nxe] 27)) w.heap.size #[.int .i64 lev, .int .u64 t, .bool W, .bool U, .bool X, .bool nxe] 27) := Lib.hid (Blk.new _ _ _)
  obtain ⟨ρ, r1, r2⟩ := rem2i lev
  obtain ⟨dy, hdy⟩ : ∃ dy, (ρ == 0) = dy := ⟨_, rfl⟩
  clear hs hd hok hf hl
  go_enter Tryd.func3, Tryd.ntmps3
  go_upto_region 1 with fail
  generalize hw0 : w.alloc _ = w0
  have HB0 : Hid (Below w.heap.size w w0) := Lib.hid (by rw [← hw0]; exact below_alloc1 _ _)
  have HT0 : Hid (Blk w0 w.heap.size #[.int .i64 lev, .int .u64 t, .bool W, .bool U, .bool X, .bool nxe] 27) := Lib.hid (by rw [← hw0]; exact H0.out)
  have HS0 := Lib.hid (shifts_under HS.out HB0.out hz)
  clear hw0 H0
  go_upto_region 3 with (first | (go_at_call 9; refine (awake8_any _ HS0.out).mono ?_; rintro e w1 ⟨rfl, hB1⟩; have HB1 := Lib.hid (HB0.out.trans (hB1.mono HB0.out.size)); have HT1 := Lib.hid (HT0.out.below hB1); clear hB1 HB0 HT0 HS0) | (go_at_call 10; ((with_reducible refine (HB.out _ HB1.out).mono ?_)); rintro e w2 ⟨rfl, hM2, hB2⟩; have HG2 := Lib.hid (goe_start HS.out HT1.out HB1.out hM2 hB2); clear hM2 hB2 HB1 HT1 HS HB))
  obtain ⟨m, hm⟩ : ∃ m, w1.heap.size + 1 = m := ⟨_, rfl⟩
  obtain ⟨G2, hG2⟩ : ∃ G2 : Nat → Prop, (fun i => From w1.heap.size i ∧ i < w2.heap.size) = G2 := ⟨_, rfl⟩
  rw [hm, hG2] at HG2
  rw [hm]
  clear hm hG2
  have HWd := Lib.hid HG2.out.wk.mem.words
  have CC := HC.out w2 HG2.out.wk.belowW
  go_upto_region 6 with (first | (go_at_call 11; ((with_reducible refine CC.mono ?_)); rintro e w3 ⟨vs, L, rfl, hD3, hL3, hn3, hB3⟩; have HD4 := Lib.hid (dbx_new HG2.out hD3 hB3 hn3 rfl); have HG3 := Lib.hid (HG2.out.quiet hB3); obtain ⟨A7, c7, _, _, rfl, _⟩ := hD3.form; clear hD3 hB3 hn3 HG2 CC HC))
  generalize hw4 : w3.alloc _ = w4
  have HG4 : Hid (Goe w w4 lev t W U X nxe m f [] 100 G2) := Lib.hid (by rw [← hw4]; exact HG3.out.quiet (below_alloc1 _ _))
  have HX4 : Hid (Dbx w4 w3.heap.size (.slice A7 L.length c7) (.slice none 0 0) f [] L G2) := Lib.hid (by rw [← hw4]; exact HD4.out)
  clear hw4 HD4 HG3
  generalize w3.heap.size = db at *
  have HWf := Lib.hid (walk_facts f HWd.out a nxe lev t W U X)
  obtain ⟨P, hP⟩ : ∃ P, walkZ 16 f a nxe lev t W U X = P := ⟨_, rfl⟩
  have CFm := from_any HG4.out.wk.mem (by decide) (HG4.out.wk.no0 hz) HG4.out.sh lev t a W U X nxe ht ha
  rw [hP] at HWf CFm
  have HHP := Lib.hid hP
  clear hP
  obtain ⟨N, hN⟩ : ∃ N, P.steps.length = N := ⟨_, rfl⟩
  have HNs := Lib.hid hN
  have hN4 : N ≤ 4 := by rw [← hN]; exact HWf.out.1
  have HWs : Hid (∀ k, k < N → W64 (stepAt P.steps k).2.1) := Lib.hid (fun k hk => (HWf.out.2 k (by rw [HNs.out]; exact hk)).1)
  have HWw : Hid (∀ k, k < P.steps.length → W64 (stepAt P.steps k).2.2) := Lib.hid (fun k hk => (HWf.out.2 k hk).2)
  clear hN HWf
  obtain ⟨b0, b1, b2, b3, b4, b5⟩ := HG4.out.st.six
  go_upto_region 7 with (first | (go_at_call 12; ((with_reducible refine CFm.mono ?_)); rintro e w5 ⟨v, G5, rfl, hW5, hS5, hn5, hsh5⟩; have HG5 := Lib.hid (HG4.out.step hz hW5); have HX5 := Lib.hid (HX4.out.step hW5); have HSc := Lib.hid (Scn.new HG5.out.wk (hS5.down (Nat.le_trans HG4.out.wk.belowW.size (Nat.le_add_right _ _))) hn5); obtain ⟨A5, c5, rfl⟩ := hS5.form; clear hW5 hS5 hn5 hsh5 HG4 HX4 CFm b0 b1 b2 b3 b4 b5))
  generalize hw6 : w5.alloc _ = w6
  have HK6 : Hid (Below w5.heap.size w5 w6) := Lib.hid (by rw [← hw6]; exact below_alloc1 _ _)
  have HS6 : Hid (Scn w w6 w5.heap.size (.slice A5 N c5) P G5) := Lib.hid (by rw [← hw6, ← HNs.out]; exact HSc.out.1)
  have HG6 := Lib.hid (HG5.out.quiet HK6.out)
  have HX6 := Lib.hid (HX5.out.quiet HK6.out)
  clear hw6 HK6 HSc HG5 HX5
  rw [HNs.out]
  generalize w5.heap.size = pb at *
  have CRf := rfrom_any HX6.out.doc ⟨by decide, by decide⟩ (by omega) (by simp) HWd.out lev t a W U X nxe ht ha
  rw [HHP.out] at CRf
  obtain ⟨b0, b1, b2, b3, b4, b5⟩ := HG6.out.st.six
  obtain ⟨d0, d1, d2⟩ := HX6.out.box.three
  have hT6 : [] ++ slotsP P.steps = slotsP P.steps := List.nil_append _
  rw [hT6] at HG6
  obtain ⟨T, hT⟩ : ∃ T, slotsP P.steps = T := ⟨_, rfl⟩
  have HTl : Hid (T.length = N) := Lib.hid (by rw [← hT]; simp [slotsP, HNs.out])
  rw [hT] at HG6
  unfold RAns at CRf
  rw [hT6, hT] at CRf
  clear hT6 hT
  go_upto_region 8 with (first | (go_at_call 13; ((with_reducible refine CRf.mono ?_)); rintro e w7 ⟨v', vt', rfl, hD7, hS7, hN7, hB7⟩; have HG7 := Lib.hid (HG6.out.quiet hB7); have HS7 := Lib.hid (HS6.out.quiet hB7); have HV7 : Hid (∀ i, v'.ownBlock = some i → ¬ G5 i) := Lib.hid (fun i hi hg => by have := (HG6.out.wk.foot i hg).1; have := (hS7.lt hi).1; omega); have HU7 : Hid (∀ i, vt'.ownBlock = some i → ¬ G5 i) := Lib.hid (fun i hi hg => by rcases hN7 with e | e; (rw [e] at hi; simp [Value.ownBlock] at hi); (have := (HG6.out.wk.foot i hg).1; have := e i hi; omega)); have HD7 := Lib.hid hD7; have HO7 := Lib.hid (hS7.down (Nat.zero_le _)); have HNS := Lib.hid HX6.out.ns; obtain ⟨A9, c9, rfl⟩ := hS7.form; obtain ⟨_, _, A8, c8, _, rfl⟩ := hD7.form; clear hD7 hS7 hN7 hB7 CRf HG6 HS6 HX6 b0 b1 b2 b3 b4 b5 d0 d1 d2))
  rw [HNs.out] at HO7 HV7
  (try rw [HNs.out])
  generalize hw8 : (w7.alloc _).alloc _ = w8
  have HK8 : Hid (Below w7.heap.size w7 w8) := Lib.hid (by rw [← hw8]; exact below2 _ _ _)
  have HE8 : Hid (Blk w8 w7.heap.size (docCells 16 (.slice A7 L.length c7) (.slice A8 T.length c8)) 34 ∧ Blk w8 (w7.heap.size + 1) (pathCells (.slice A9 N c9) P) 45) := Lib.hid (by rw [← hw8]; exact ⟨(Blk.new w7 _ _).alloc _, last_obj2 w7 _ _⟩)
  have HG8 := Lib.hid (HG7.out.quiet HK8.out)
  have HS8 := Lib.hid (HS7.out.quiet HK8.out)
  have HD8 : Hid (Dbx w8 w7.heap.size (.slice A7 L.length c7) (.slice A8 T.length c8) f T L G5) := Lib.hid ⟨HE8.out.1, HD7.out.quiet HK8.out, fun hg => by have := (HG7.out.wk.foot _ hg).1; omega, HNS.out, HU7.out⟩
  have HR8 : Hid (RSc w8 (w7.heap.size + 1) (.slice A9 N c9) P G5) := Lib.hid ⟨HE8.out.2, HO7.out.below HK8.out, fun hg => by have := (HG7.out.wk.foot _ hg).1; omega, HV7.out⟩
  clear hw8 HK8 HE8 HG7 HS7 HD7 HO7 HV7 HU7 HNS
  generalize w7.heap.size = qb at *
  have C1 : ∀ w', Kept w8 w' → Calls Tryd.prog 15 #[pathV (.slice A5 N c5) P.why P.W P.U P.X P.lev P.fr] w' fun e w'' => ∃ A1 c1, e = .returned (pathV (.slice A1 N c1) P.why P.W P.U P.X P.lev P.fr) ∧ StepsIn w'' (.slice A1 N c1) P.steps ∧ Below w'.heap.size w' w'' := fun w' hk => real_in w' A5 N c5 P HNs.out (HS8.out.own.into.below hk) (by omega)
  have C3 : ∀ w' A1 c1, Kept w8 w' → StepsIn w' (.slice A1 N c1) P.steps → Calls Tryd.prog 14 #[pathV (.slice A1 N c1) P.why P.W P.U P.X P.lev P.fr, pathV (.slice A9 N c9) P.why P.W P.U P.X P.lev P.fr] w' fun e w'' => e = .returned (.bool true) ∧ Below w'.heap.size w' w'' := fun w' A1 c1 hk hi => exact_any w' P A1 A9 N c1 c9 HNs.out hi (HR8.out.own.into.below hk) (by omega) HWw.out
  have C8 : ∀ w', Kept w8 w' → Calls Tryd.prog 16 #[.pointer (some ⟨m, 0, none⟩), .agg (docCells 16 (.slice A7 L.length c7) (.slice A8 T.length c8))] w' fun e w'' => e = .returned (.bool true) ∧ Below w'.heap.size w' w'' := fun w' hk => same8_any (HG8.out.wk.mem.kept hk) (HD8.out.doc.quiet hk) (by omega) (by have := HTl.out; omega) (by decide)
  have H0 : RegG w8 pb (.slice A5 N c5) (qb + 1) (.slice A9 N c9) P qb (.slice A7 L.length c7) (.slice A8 T.length c8) w8.drew := ⟨HS8.out.box, HR8.out.box, HD8.out.box, Kept.drew0 _⟩
  refine wp_region_held_drew (S := RegG w8 pb (.slice A5 N c5) (qb + 1) (.slice A9 N c9) P qb (.slice A7 L.length c7) (.slice A8 T.length c8)) (by kernel_rfl) H0 (fun hHeld => ?_)
  clear H0
  generalize w8.drew = wd at *
  refine anyH_take (i := 0) (v := ?_) rfl (by kernel_rfl) (by kernel_rfl) (by kernel_rfl) (fun _ _ _ h => h) (by rfl) (by assumption) ?_ ?_
  rotate_left
  · intro w hSw
    obtain ⟨hA, hB, hC, hk9⟩ := hSw
    obtain ⟨p0, p1, p2, p3, p4, p5, p6⟩ := hA.seven
    obtain ⟨q0, q1, q2, q3, q4, q5, q6⟩ := hB.seven
    obtain ⟨d0, d1, d2⟩ := hC.three
    go_simp
    (try with_reducible rfl)
  (try simp only [Act.put, List.setIfInBounds_toArray, List.set_cons_zero, List.set_cons_succ])
  refine anyH_take (i := 2) (v := ?_) rfl (by kernel_rfl) (by kernel_rfl) (by kernel_rfl) (fun _ _ _ h => h) (by rfl) (by assumption) ?_ ?_
  rotate_left
  · intro w hSw
    obtain ⟨hA, hB, hC, hk9⟩ := hSw
    obtain ⟨p0, p1, p2, p3, p4, p5, p6⟩ := hA.seven
    obtain ⟨q0, q1, q2, q3, q4, q5, q6⟩ := hB.seven
    obtain ⟨d0, d1, d2⟩ := hC.three
    go_simp
    (try with_reducible rfl)
  (try simp only [Act.put, List.setIfInBounds_toArray, List.set_cons_zero, List.set_cons_succ])
  refine wpAnyH_ready (rs := [1]) (by kernel_rfl) (by simp) ?_
  refine anyH_one rfl (fun K hK => ?_) ?_
  · go_simp
    refine (C1 _ hHeld.2.2.2).mono ?_
    rintro e w9 ⟨A10, c10, rfl, hs9, hb9⟩
    refine hK.out _ _ (regg_step hHeld hb9) (fun hHeld => ?_)
    clear hK K
    (try simp only [Act.put, List.setIfInBounds_toArray, List.set_cons_zero, List.set_cons_succ])
    refine wpAnyH_ready (rs := [3]) (by kernel_rfl) (by simp) ?_
    refine anyH_one rfl (fun K hK => ?_) ?_
    · go_simp
      refine (C3 _ _ _ hHeld.2.2.2 hs9).mono ?_
      rintro e w10 ⟨rfl, hb10⟩
      refine hK.out _ _ (regg_step hHeld hb10) (fun hHeld => ?_)
      clear hK K
      (try simp only [Act.put, List.setIfInBounds_toArray, List.set_cons_zero, List.set_cons_succ])
      refine anyH_take (i := 4) (v := ?_) rfl (by kernel_rfl) (by kernel_rfl) (by kernel_rfl) (fun _ _ _ h => h) (by rfl) (by assumption) ?_ ?_
      rotate_left
      · intro w hSw
        go_simp
        (try with_reducible rfl)
      (try simp only [Act.put, List.setIfInBounds_toArray, List.set_cons_zero, List.set_cons_succ])
      refine anyH_take (i := 5) (v := ?_) rfl (by kernel_rfl) (by kernel_rfl) (by kernel_rfl) (fun _ _ _ h => h) (by rfl) (by assumption) ?_ ?_
      rotate_left
      · intro w hSw
        go_simp
        (try with_reducible rfl)
      (try simp only [Act.put, List.setIfInBounds_toArray, List.set_cons_zero, List.set_cons_succ])
      refine anyH_take (i := 6) (v := ?_) rfl (by kernel_rfl) (by kernel_rfl) (by kernel_rfl) (fun _ _ _ h => h) (by rfl) (by assumption) ?_ ?_
      rotate_left
      · intro w hSw
        go_simp
        (try with_reducible rfl)
      (try simp only [Act.put, List.setIfInBounds_toArray, List.set_cons_zero, List.set_cons_succ])
      refine anyH_take (i := 7) (v := ?_) rfl (by kernel_rfl) (by kernel_rfl) (by kernel_rfl) (fun _ _ _ h => h) (by rfl) (by assumption) ?_ ?_
      rotate_left
      · intro w hSw
        obtain ⟨hA, hB, hC, hk9⟩ := hSw
        obtain ⟨p0, p1, p2, p3, p4, p5, p6⟩ := hA.seven
        obtain ⟨q0, q1, q2, q3, q4, q5, q6⟩ := hB.seven
        obtain ⟨d0, d1, d2⟩ := hC.three
        go_simp
        (try with_reducible rfl)
      (try simp only [Act.put, List.setIfInBounds_toArray, List.set_cons_zero, List.set_cons_succ])
      refine wpAnyH_ready (rs := [8]) (by kernel_rfl) (by simp) ?_
      refine anyH_one rfl (fun K hK => ?_) ?_
      · go_simp
        refine (C8 _ hHeld.2.2.2).mono ?_
        rintro e w11 ⟨rfl, hb11⟩
        refine hK.out _ _ (regg_step hHeld hb11) (fun hHeld => ?_)
        clear hK K
        (try simp only [Act.put, List.setIfInBounds_toArray, List.set_cons_zero, List.set_cons_succ])
        refine anyH_take (i := 9) (v := ?_) rfl (by kernel_rfl) (by kernel_rfl) (by kernel_rfl) (fun _ _ _ h => h) (by rfl) (by assumption) ?_ ?_
        rotate_left
        · intro w hSw
          go_simp
          (try with_reducible rfl)
        (try simp only [Act.put, List.setIfInBounds_toArray, List.set_cons_zero, List.set_cons_succ])
        refine anyH_take (i := 10) (v := ?_) rfl (by kernel_rfl) (by kernel_rfl) (by kernel_rfl) (fun _ _ _ h => h) (by rfl) (by assumption) ?_ ?_
        rotate_left
        · intro w hSw
          go_simp
          (try with_reducible rfl)
        (try simp only [Act.put, List.setIfInBounds_toArray, List.set_cons_zero, List.set_cons_succ])
        refine wpAnyH_done (by kernel_rfl) ?_ _
        have HG9 := Lib.hid (HG8.out.quiet hHeld.2.2.2)
        have HS9 := Lib.hid (HS8.out.quiet hHeld.2.2.2)
        have HD9 := Lib.hid (HD8.out.quiet hHeld.2.2.2)
        have HR9 := Lib.hid (HR8.out.quiet hHeld.2.2.2)
        clear hHeld HG8 HS8 HD8 HR8 C1 C3 C8
        obtain ⟨p0, p1, p2, p3, p4, p5, p6⟩ := HS9.out.box.seven
        obtain ⟨b0, b1, b2, b3, b4, b5⟩ := HG9.out.st.six
        go_upto_region 11 with (first | (go_at_call 17; ((with_reducible refine (mark_any HG9.out.wk.mem A5 N c5 P.steps HNs.out (HS9.out.own.down (Nat.zero_le _)) HS9.out.nv (by omega) (by omega) HWs.out P.why P.W P.U P.X P.lev P.fr dy).mono ?_)); rintro e wm ⟨rfl, Gm, hWm⟩; have HGm := Lib.hid (HG9.out.step hz hWm); have HDm := Lib.hid (HD9.out.step hWm); have HRm := Lib.hid (HR9.out.step hWm); clear hWm HG9 HD9 HR9 HS9 p0 p1 p2 p3 p4 p5 p6 b0 b1 b2 b3 b4 b5))
        have CK := fun w' hD hS => rmark_any (w := w') (M := 16) (vs := .slice A7 L.length c7) (vt := .slice A8 T.length c8) (f := f) (tr := T) (L0 := L) hD ⟨by decide, by decide⟩ (by omega) HWd.out A9 N c9 P.steps HNs.out hS (by omega) HWs.out P.why P.W P.U P.X P.lev P.fr dy
        generalize markN 16 f P.steps (dy && decide (P.why = 0)) N = g at *
        obtain ⟨q0, q1, q2, q3, q4, q5, q6⟩ := HRm.out.box.seven
        obtain ⟨d0, d1, d2⟩ := HDm.out.box.three
        obtain ⟨b0, b1, b2, b3, b4, b5⟩ := HGm.out.st.six
        go_wp2_with (first | (go_at_call 18; refine (CK wm HDm.out.doc HRm.out.own.into).mono ?_; rintro e wk ⟨vs', L', rfl, hDk, hLk, hBk⟩; have HGk := Lib.hid (HGm.out.quiet hBk); have HDk := Lib.hid hDk; obtain ⟨Ak, ck, _, _, rfl, _⟩ := hDk.form; clear hDk hBk HGm HDm HRm CK) | (go_at_call 16; refine (same8_any HGk.out.wk.mem HDk.out (by omega) (by have := HTl.out; omega) (by omega)).mono ?_; rintro e wl ⟨rfl, hBl⟩; have HBl := Lib.hid (HGk.out.wk.belowW.trans (hBl.mono HGk.out.wk.belowW.size)); clear hBl))
        go_ret
        exact ⟨rfl, HBl.out⟩
      exact AllReadyH.nil
    exact AllReadyH.nil
  exact AllReadyH.nil
end Go.Proofs.YtlpjbmlkpmhdlaaDoor
/- A slice of puts that came in. -/
namespace Go.Proofs.YtlpjbmlkpmhdlaaDoor
set_option linter.unusedVariables false
set_option linter.unusedSimpArgs false
open Go.ChangeShapes Go.WideShapes Go.ChangeAt Go.RowKit Go.Joins

section
variable {H : Type} {enc : TypeId × Value → H} {w : World} {base : Nat} {spare : Nat → Bool} {held : Bool}

theorem list4q {α : Type} {zs : List α} (h : zs.length = 4) : ∃ t u v x, zs = [t, u, v, x] := by
  match zs, h with
  | [t, u, v, x], _ => exact ⟨t, u, v, x, rfl⟩

abbrev Put4 (y : Int × Int × Int × Int) : Prop := (0 ≤ y.1 ∧ y.1 < 65536) ∧ (0 ≤ y.2.1 ∧ y.2.1 < 65536) ∧ (0 ≤ y.2.2.1 ∧ y.2.2.1 < 256)

set_option maxRecDepth 100000 in
theorem open_put {n : Nat} {cs : List Value} {x : DataW H × List MemPlace} (h : DataW.trod enc Tryd.prog w base spare held n 67 cs = some x) :
    ∃ y : Int × Int × Int × Int, cs = [.int .u16 y.1, .int .u16 y.2.1, .int .u8 y.2.2.1, .int .u64 y.2.2.2] ∧ Put4 y := by
  obtain ⟨y0, y1, y2, y3, m, _, hl, h0, h1, h2, h3⟩ := Joins.trod_struct4 Tryd.underlying67 h
  rw [show Tryd.prog.cellsOf 67 = 4 by kernel_rfl] at hl
  have e1 : Tryd.prog.cellsOf 64 = 1 := by kernel_rfl
  have e2 : Tryd.prog.cellsOf 5 = 1 := by kernel_rfl
  have e3 : Tryd.prog.cellsOf 23 = 1 := by kernel_rfl
  obtain ⟨a, b, c, d, rfl⟩ := list4q hl
  simp [e1, e2, e3] at h0 h1 h2 h3
  obtain ⟨k, e4, _, w4⟩ := DataW.trod_int Tryd.underlying64 h0
  obtain ⟨p, e5, _, w5⟩ := DataW.trod_int Tryd.underlying64 h1
  obtain ⟨q, e6, _, w6⟩ := DataW.trod_int Tryd.underlying5 h2
  obtain ⟨r, e7, _, w7⟩ := DataW.trod_int Tryd.underlying23 h3
  simp at e4 e5 e6 e7
  subst e4 e5 e6 e7
  have b4 := bounds_u16 w4
  have b5 := bounds_u16 w5
  have b6 := bounds_u8 w6
  exact ⟨(k, p, q, r), rfl, ⟨b4.1, by show k < 65536; omega⟩, ⟨b5.1, by show p < 65536; omega⟩, ⟨b6.1, by show q < 256; omega⟩⟩

set_option maxRecDepth 100000 in
theorem open_puts {r : Reach} {b0 : Nat} {v : Value} {d : DataW H} {p : List MemPlace} (hv : Value.okWide Tryd.prog w r b0 22 v) (h : DataW.Trod enc Tryd.prog w base spare held 22 v d p) :
    ∃ A ds c, v = .slice A ds.length c ∧ ds.length ≤ maxLen ∧ PutsIn w A ds ∧ PutsOk ds := by
  obtain ⟨a, len, cap, rfl⟩ := okWide_slice Tryd.underlying22 hv
  obtain ⟨fuel, hf⟩ := h
  rcases Deep.open_slice Tryd.underlying22 hf with ⟨hcs, _⟩ | ⟨ad, len', cap', m, n, D, Pl, hcs, _, hl, hm, hmm, _, hel⟩
  · have e : Value.slice a len cap = .slice none 0 0 := by simpa [Value.cells] using hcs
    rw [e]
    exact ⟨none, [], 0, rfl, by simp [maxLen], fun k hk => absurd hk (by simp), fun k hk => absurd hk (by simp)⟩
  · have e : Value.slice a len cap = .slice (some ad) len' cap' := by simpa [Value.cells] using hcs
    rw [e]
    have e3 : Tryd.prog.cellsOf 67 = 4 := by kernel_rfl
    rw [e3] at hel
    have hle : len' ≤ m := by rw [hmm]; split <;> omega
    obtain ⟨g, hg⟩ := Deep.choose_lt (α := Int × Int × Int × Int) (n := len') (p := fun k y => (w.cell? (ad.add (k * 4)) = some (.int .u16 y.1) ∧ w.cell? ((ad.add (k * 4)).add 1) = some (.int .u16 y.2.1) ∧ w.cell? ((ad.add (k * 4)).add 2) = some (.int .u8 y.2.2.1) ∧ w.cell? ((ad.add (k * 4)).add 3) = some (.int .u64 y.2.2.2)) ∧ Put4 y) (fun k hk => by
      obtain ⟨cs', h1, h2⟩ := hel k (by omega)
      obtain ⟨y, rfl, w1⟩ := open_put h2
      obtain ⟨_, _, hc⟩ := World.cells?_some h1
      exact ⟨y, ⟨by simpa [Addr.add] using hc 0 (by omega), hc 1 (by omega), hc 2 (by omega), hc 3 (by omega)⟩, w1⟩)
    have hget : ∀ k, k < len' → ((List.range len').map g).getD k (0, 0, 0, 0) = g k := fun k hk => by simp [List.getD, hk]
    refine ⟨some ad, (List.range len').map g, cap', by simp, by simp; omega, fun k hk => ⟨ad, rfl, ?_⟩, fun k hk => ?_⟩
    · have hk' : k < len' := by simpa using hk
      rw [hget k hk']; exact (hg k hk').1
    · have hk' : k < len' := by simpa using hk
      rw [hget k hk']; exact (hg k hk').2
end

theorem bounds_u32 {a : Int} (h : (Lit.int .u32 a).wf = true) : 0 ≤ a ∧ a < 4294967296 := by
  have h' : IntKind.u32.min ≤ a ∧ a ≤ IntKind.u32.max := by simpa [Lit.wf] using h
  have e1 : IntKind.u32.min = 0 := by decide
  have e2 : IntKind.u32.max = 4294967295 := by decide
  omega
theorem lt_u8 {a : Int} (h : (Lit.int .u8 a).wf = true) : a < 256 := by have := bounds_u8 h; omega
end Go.Proofs.YtlpjbmlkpmhdlaaDoor
