/- The walk of WalkTop. (Laid by tools/gen_l8t.py.) -/
import Derived.Test.YtlpjbmlkpmhdlaaDoorHx
import Derived.Test.YtlpjbmlkpmhdlaaDoorHg
namespace Go.Proofs.YtlpjbmlkpmhdlaaDoor
set_option linter.unusedVariables false
set_option linter.unusedSimpArgs false
open Go.ChangeShapes Go.WideShapes Go.ChangeAt Go.RowKit Go.Joins

/-- what the region of WalkTop keeps -/
def RegT (w5 : World) (ab : Nat) (t : Int) (bb : Nat) (pb : Nat) (v : Value) (P : Pth) (qb : Nat) (v' : Value) (Q : Pth) (w' : World) : Prop :=
  Blk w' ab #[.int .i64 4, .int .u64 t, .bool true, .bool true, .bool true] 41 ∧ Blk w' bb #[.int .i64 4, .int .u64 t, .bool true, .bool true, .bool true] 49 ∧ Blk w' pb (pathCells v P) 38 ∧ Blk w' qb (pathCells v' Q) 38 ∧ Kept w5 w'
theorem regt_step {w5 : World} {ab : Nat} {t : Int} {bb pb : Nat} {v : Value} {P : Pth} {qb : Nat} {v' : Value} {Q : Pth} {w2 w3 : World} (h : RegT w5 ab t bb pb v P qb v' Q w2) (hb : Below w2.heap.size w2 w3) : RegT w5 ab t bb pb v P qb v' Q w3 :=
  ⟨h.1.below hb, h.2.1.below hb, h.2.2.1.below hb, h.2.2.2.1.below hb, Kept.step hb h.2.2.2.2⟩

theorem real_in (w : World) (A : Option Addr) (L c : Nat) (P : Pth) (hL : P.steps.length = L) (hS : StepsIn w (.slice A L c) P.steps) (hl : L * 24 ≤ 140737488355328) :
    Calls Tryd.prog 15 #[pathV (.slice A L c) P.why P.W P.U P.X P.lev P.fr] w fun e w' => ∃ A' c', e = .returned (pathV (.slice A' L c') P.why P.W P.U P.X P.lev P.fr) ∧ StepsIn w' (.slice A' L c') P.steps ∧ Below w.heap.size w w' :=
  (real_any w A L c P hL hS hl).mono fun _ _ ⟨A', c', e, h, hb⟩ => ⟨A', c', e, h.into, hb⟩

set_option maxRecDepth 100000 in
set_option maxHeartbeats 6400000 in
theorem walkTop_walk (r : Int) (A A' : Option Addr) (L L' c c' : Nat) (P Q : Pth) (w : World) (hs : Shifts w) (hr : W64 r) (hL : P.steps.length = L) (hL' : Q.steps.length = L') (h1 : StepsIn w (.slice A L c) P.steps) (h2 : StepsIn w (.slice A' L' c') Q.steps) (hl : L * 24 ≤ 140737488355328) (hl' : L' * 24 ≤ 140737488355328)
    (hw1 : ∀ k, k < P.steps.length → W64 (stepAt P.steps k).2.2) (hw2 : ∀ k, k < Q.steps.length → W64 (stepAt Q.steps k).2.2) :
    Calls Tryd.prog 4 #[.int .u64 r, pathV (.slice A L c) P.why P.W P.U P.X P.lev P.fr, pathV (.slice A' L' c') Q.why Q.W Q.U Q.X Q.lev Q.fr] w fun e w' => e = .returned (.bool true) ∧ Below w.heap.size w w' := by
  have HM : Hid (L ≤ maxLen) := Lib.hid (by unfold maxLen; omega)
  have HC : Hid (∀ w5, Below w.heap.size w w5 → (∀ w', Kept w5 w' → Calls Tryd.prog 21 #[pathV (.slice A L c) P.why P.W P.U P.X P.lev P.fr, pathV (.slice A' L' c') Q.why Q.W Q.U Q.X Q.lev Q.fr] w' fun e w'' => e = .returned (.bool (alikeP P Q)) ∧ Below w'.heap.size w' w'') ∧
      (∀ w', Kept w5 w' → Calls Tryd.prog 15 #[pathV (.slice A L c) P.why P.W P.U P.X P.lev P.fr] w' fun e w'' => ∃ A1 c1, e = .returned (pathV (.slice A1 L c1) P.why P.W P.U P.X P.lev P.fr) ∧ StepsIn w'' (.slice A1 L c1) P.steps ∧ Below w'.heap.size w' w'') ∧
      (∀ w', Kept w5 w' → Calls Tryd.prog 15 #[pathV (.slice A' L' c') Q.why Q.W Q.U Q.X Q.lev Q.fr] w' fun e w'' => ∃ A1 c1, e = .returned (pathV (.slice A1 L' c1) Q.why Q.W Q.U Q.X Q.lev Q.fr) ∧ StepsIn w'' (.slice A1 L' c1) Q.steps ∧ Below w'.heap.size w' w'') ∧
      (∀ w', Kept w5 w' → Calls Tryd.prog 21 #[pathV (.slice A L c) P.why P.W P.U P.X P.lev P.fr, pathV (.slice A L c) P.why P.W P.U P.X P.lev P.fr] w' fun e w'' => e = .returned (.bool true) ∧ Below w'.heap.size w' w'')) := Lib.hid (by
    intro w5 hb
    have hk : ∀ w', Kept w5 w' → Below w.heap.size w w' := fun w' h => hb.trans (Below.mono h hb.size)
    refine ⟨fun w' h => ?_, fun w' h => ?_, fun w' h => ?_, fun w' h => ?_⟩
    · exact same_all w' P Q A A' L L' c c' hL hL' (h1.below (hk w' h)) (h2.below (hk w' h)) HM.out
    · exact real_in w' A L c P hL (h1.below (hk w' h)) hl
    · exact real_in w' A' L' c' Q hL' (h2.below (hk w' h)) hl'
    · rw [← alikeP_self P]; exact same_all w' P P A A L L c c hL hL (h1.below (hk w' h)) (h1.below (hk w' h)) HM.out)
  have C4 : ∀ w' A1 c1 A2 c2, StepsIn w' (.slice A1 L c1) P.steps → StepsIn w' (.slice A2 L' c2) Q.steps → Calls Tryd.prog 22 #[pathV (.slice A1 L c1) P.why P.W P.U P.X P.lev P.fr, pathV (.slice A2 L' c2) Q.why Q.W Q.U Q.X Q.lev Q.fr] w' fun e w'' => e = .returned (.bool (alikeP P Q)) ∧ Below w'.heap.size w' w'' :=
    fun w' A1 c1 A2 c2 i1 i2 => rsame_all w' P Q A1 A2 L L' c1 c2 hL hL' i1 i2 HM.out hw1 hw2
  have HS := Lib.hid hs
  have hz := size_shifts hs
  have HP0 := Lib.hid (Two.start (P := P) (Q := Q) h1 h2)
  clear hs h1 h2 hw1 hw2 hL hL'
  go_enter Tryd.func4, Tryd.ntmps4
  go_upto_region 1 with fail
  generalize hw0 : (w.alloc _).alloc _ = w0
  have HT0 : Hid (Two w w0 w.heap.size (.slice A L c) P (w.heap.size + 1) (.slice A' L' c') Q) := Lib.hid (by rw [← hw0]; exact HP0.out)
  have HS0 := Lib.hid (shifts_under HS.out HT0.out.below hz)
  clear hw0 HP0 HS
  go_upto_region 3 with (first | (go_at_call 9; refine (awake8_any _ HS0.out).mono ?_; rintro e w1 ⟨rfl, hB1⟩; have HT1 := Lib.hid (HT0.out.quiet hB1); clear hB1 HT0 HS0) | (go_at_call 19; refine (top_any _ _ hr).mono ?_; rintro e w2 ⟨rfl, hB2⟩; have HT2 := Lib.hid (HT1.out.quiet hB2); clear hB2 HT1))
  generalize hw3 : w2.alloc _ = w3
  have HT3 : Hid (Two w w3 w.heap.size (.slice A L c) P (w.heap.size + 1) (.slice A' L' c') Q) := Lib.hid (by rw [← hw3]; exact HT2.out.quiet (below_alloc1 _ _))
  have HA3 : Hid (Blk w3 w2.heap.size #[.int .i64 4, .int .u64 (tableF r), .bool true, .bool true, .bool true] 41) := Lib.hid (by rw [← hw3]; exact Blk.new _ _ _)
  clear hw3 HT2
  generalize w2.heap.size = ab at *
  go_upto_region 4 with (first | (go_at_call 20; refine (rtop_any _ _ hr).mono ?_; rintro e w4 ⟨rfl, hB4⟩; have HT4 := Lib.hid (HT3.out.quiet hB4); have HA4 := Lib.hid (HA3.out.below hB4); clear hB4 HT3 HA3))
  generalize hw5 : w4.alloc _ = w5
  have HK5 : Hid (Below w4.heap.size w4 w5) := Lib.hid (by rw [← hw5]; exact below_alloc1 _ _)
  have HT5 := Lib.hid (HT4.out.quiet HK5.out)
  have HA5 := Lib.hid (HA4.out.below HK5.out)
  have HD5 : Hid (Blk w5 w4.heap.size #[.int .i64 4, .int .u64 (tableF r), .bool true, .bool true, .bool true] 49) := Lib.hid (by rw [← hw5]; exact Blk.new _ _ _)
  clear hw5 HK5 HT4 HA4
  generalize w4.heap.size = bb at *
  obtain ⟨C1, C2, C3, C5⟩ := HC.out w5 HT5.out.below
  have HB5 := Lib.hid HT5.out.below
  have H0 : RegT w5 ab (tableF r) bb w.heap.size (.slice A L c) P (w.heap.size + 1) (.slice A' L' c') Q w5.drew := ⟨HA5.out, HD5.out, HT5.out.boxP, HT5.out.boxQ, Kept.drew0 _⟩
  clear HT5 HA5 HD5 HC
  refine wp_region_held_drew (S := RegT w5 ab (tableF r) bb w.heap.size (.slice A L c) P (w.heap.size + 1) (.slice A' L' c') Q) (by kernel_rfl) H0 (fun hHeld => ?_)
  clear H0
  generalize w5.drew = wd at *
  refine anyH_take (i := 0) (v := ?_) rfl (by kernel_rfl) (by kernel_rfl) (by kernel_rfl) (fun _ _ _ h => h) (by rfl) (by assumption) ?_ ?_
  rotate_left
  · intro w hSw
    go_simp
    (try with_reducible rfl)
  (try simp only [Act.put, List.setIfInBounds_toArray, List.set_cons_zero, List.set_cons_succ])
  refine anyH_take (i := 1) (v := ?_) rfl (by kernel_rfl) (by kernel_rfl) (by kernel_rfl) (fun _ _ _ h => h) (by rfl) (by assumption) ?_ ?_
  rotate_left
  · intro w hSw
    go_simp
    (try with_reducible rfl)
  (try simp only [Act.put, List.setIfInBounds_toArray, List.set_cons_zero, List.set_cons_succ])
  refine anyH_take (i := 2) (v := ?_) rfl (by kernel_rfl) (by kernel_rfl) (by kernel_rfl) (fun _ _ _ h => h) (by rfl) (by assumption) ?_ ?_
  rotate_left
  · intro w hSw
    go_simp
    (try with_reducible rfl)
  (try simp only [Act.put, List.setIfInBounds_toArray, List.set_cons_zero, List.set_cons_succ])
  refine anyH_take (i := 3) (v := ?_) rfl (by kernel_rfl) (by kernel_rfl) (by kernel_rfl) (fun _ _ _ h => h) (by rfl) (by assumption) ?_ ?_
  rotate_left
  · intro w hSw
    obtain ⟨hA, hB, hC, hD, hk9⟩ := hSw
    obtain ⟨a0, a1, a2, a3, a4⟩ := hA.five
    obtain ⟨b0, b1, b2, b3, b4⟩ := hB.five
    obtain ⟨p0, p1, p2, p3, p4, p5, p6⟩ := hC.seven
    obtain ⟨q0, q1, q2, q3, q4, q5, q6⟩ := hD.seven
    go_simp
    (try with_reducible rfl)
  (try simp only [Act.put, List.setIfInBounds_toArray, List.set_cons_zero, List.set_cons_succ])
  refine anyH_take (i := 4) (v := ?_) rfl (by kernel_rfl) (by kernel_rfl) (by kernel_rfl) (fun _ _ _ h => h) (by rfl) (by assumption) ?_ ?_
  rotate_left
  · intro w hSw
    go_simp
    (try with_reducible rfl)
  (try simp only [Act.put, List.setIfInBounds_toArray, List.set_cons_zero, List.set_cons_succ])
  refine anyH_take (i := 5) (v := ?_) rfl (by kernel_rfl) (by kernel_rfl) (by kernel_rfl) (fun _ _ _ h => h) (by rfl) (by assumption) ?_ ?_
  rotate_left
  · intro w hSw
    obtain ⟨hA, hB, hC, hD, hk9⟩ := hSw
    obtain ⟨a0, a1, a2, a3, a4⟩ := hA.five
    obtain ⟨b0, b1, b2, b3, b4⟩ := hB.five
    obtain ⟨p0, p1, p2, p3, p4, p5, p6⟩ := hC.seven
    obtain ⟨q0, q1, q2, q3, q4, q5, q6⟩ := hD.seven
    go_simp
    (try with_reducible rfl)
  (try simp only [Act.put, List.setIfInBounds_toArray, List.set_cons_zero, List.set_cons_succ])
  refine anyH_take (i := 6) (v := ?_) rfl (by kernel_rfl) (by kernel_rfl) (by kernel_rfl) (fun _ _ _ h => h) (by rfl) (by assumption) ?_ ?_
  rotate_left
  · intro w hSw
    go_simp
    (try with_reducible rfl)
  (try simp only [Act.put, List.setIfInBounds_toArray, List.set_cons_zero, List.set_cons_succ])
  refine anyH_take (i := 7) (v := ?_) rfl (by kernel_rfl) (by kernel_rfl) (by kernel_rfl) (fun _ _ _ h => h) (by rfl) (by assumption) ?_ ?_
  rotate_left
  · intro w hSw
    go_simp
    (try with_reducible rfl)
  (try simp only [Act.put, List.setIfInBounds_toArray, List.set_cons_zero, List.set_cons_succ])
  refine anyH_take (i := 8) (v := ?_) rfl (by kernel_rfl) (by kernel_rfl) (by kernel_rfl) (fun _ _ _ h => h) (by rfl) (by assumption) ?_ ?_
  rotate_left
  · intro w hSw
    go_simp
    (try with_reducible rfl)
  (try simp only [Act.put, List.setIfInBounds_toArray, List.set_cons_zero, List.set_cons_succ])
  refine anyH_take (i := 9) (v := ?_) rfl (by kernel_rfl) (by kernel_rfl) (by kernel_rfl) (fun _ _ _ h => h) (by rfl) (by assumption) ?_ ?_
  rotate_left
  · intro w hSw
    go_simp
    (try with_reducible rfl)
  (try simp only [Act.put, List.setIfInBounds_toArray, List.set_cons_zero, List.set_cons_succ])
  refine anyH_take (i := 10) (v := ?_) rfl (by kernel_rfl) (by kernel_rfl) (by kernel_rfl) (fun _ _ _ h => h) (by rfl) (by assumption) ?_ ?_
  rotate_left
  · intro w hSw
    obtain ⟨hA, hB, hC, hD, hk9⟩ := hSw
    obtain ⟨a0, a1, a2, a3, a4⟩ := hA.five
    obtain ⟨b0, b1, b2, b3, b4⟩ := hB.five
    obtain ⟨p0, p1, p2, p3, p4, p5, p6⟩ := hC.seven
    obtain ⟨q0, q1, q2, q3, q4, q5, q6⟩ := hD.seven
    go_simp
    (try with_reducible rfl)
  (try simp only [Act.put, List.setIfInBounds_toArray, List.set_cons_zero, List.set_cons_succ])
  refine anyH_take (i := 11) (v := ?_) rfl (by kernel_rfl) (by kernel_rfl) (by kernel_rfl) (fun _ _ _ h => h) (by rfl) (by assumption) ?_ ?_
  rotate_left
  · intro w hSw
    go_simp
    (try with_reducible rfl)
  (try simp only [Act.put, List.setIfInBounds_toArray, List.set_cons_zero, List.set_cons_succ])
  refine anyH_take (i := 12) (v := ?_) rfl (by kernel_rfl) (by kernel_rfl) (by kernel_rfl) (fun _ _ _ h => h) (by rfl) (by assumption) ?_ ?_
  rotate_left
  · intro w hSw
    obtain ⟨hA, hB, hC, hD, hk9⟩ := hSw
    obtain ⟨a0, a1, a2, a3, a4⟩ := hA.five
    obtain ⟨b0, b1, b2, b3, b4⟩ := hB.five
    obtain ⟨p0, p1, p2, p3, p4, p5, p6⟩ := hC.seven
    obtain ⟨q0, q1, q2, q3, q4, q5, q6⟩ := hD.seven
    go_simp
    (try with_reducible rfl)
  (try simp only [Act.put, List.setIfInBounds_toArray, List.set_cons_zero, List.set_cons_succ])
  refine anyH_take (i := 13) (v := ?_) rfl (by kernel_rfl) (by kernel_rfl) (by kernel_rfl) (fun _ _ _ h => h) (by rfl) (by assumption) ?_ ?_
  rotate_left
  · intro w hSw
    go_simp
    (try with_reducible rfl)
  (try simp only [Act.put, List.setIfInBounds_toArray, List.set_cons_zero, List.set_cons_succ])
  refine anyH_take (i := 14) (v := ?_) rfl (by kernel_rfl) (by kernel_rfl) (by kernel_rfl) (fun _ _ _ h => h) (by rfl) (by assumption) ?_ ?_
  rotate_left
  · intro w hSw
    go_simp
    (try with_reducible rfl)
  (try simp only [Act.put, List.setIfInBounds_toArray, List.set_cons_zero, List.set_cons_succ])
  refine anyH_take (i := 15) (v := ?_) rfl (by kernel_rfl) (by kernel_rfl) (by kernel_rfl) (fun _ _ _ h => h) (by rfl) (by assumption) ?_ ?_
  rotate_left
  · intro w hSw
    go_simp
    (try with_reducible rfl)
  (try simp only [Act.put, List.setIfInBounds_toArray, List.set_cons_zero, List.set_cons_succ])
  refine anyH_take (i := 16) (v := ?_) rfl (by kernel_rfl) (by kernel_rfl) (by kernel_rfl) (fun _ _ _ h => h) (by rfl) (by assumption) ?_ ?_
  rotate_left
  · intro w hSw
    go_simp
    (try with_reducible rfl)
  (try simp only [Act.put, List.setIfInBounds_toArray, List.set_cons_zero, List.set_cons_succ])
  refine anyH_take (i := 17) (v := ?_) rfl (by kernel_rfl) (by kernel_rfl) (by kernel_rfl) (fun _ _ _ h => h) (by rfl) (by assumption) ?_ ?_
  rotate_left
  · intro w hSw
    obtain ⟨hA, hB, hC, hD, hk9⟩ := hSw
    obtain ⟨a0, a1, a2, a3, a4⟩ := hA.five
    obtain ⟨b0, b1, b2, b3, b4⟩ := hB.five
    obtain ⟨p0, p1, p2, p3, p4, p5, p6⟩ := hC.seven
    obtain ⟨q0, q1, q2, q3, q4, q5, q6⟩ := hD.seven
    go_simp
    (try with_reducible rfl)
  (try simp only [Act.put, List.setIfInBounds_toArray, List.set_cons_zero, List.set_cons_succ])
  refine anyH_take (i := 18) (v := ?_) rfl (by kernel_rfl) (by kernel_rfl) (by kernel_rfl) (fun _ _ _ h => h) (by rfl) (by assumption) ?_ ?_
  rotate_left
  · intro w hSw
    go_simp
    (try with_reducible rfl)
  (try simp only [Act.put, List.setIfInBounds_toArray, List.set_cons_zero, List.set_cons_succ])
  refine anyH_take (i := 19) (v := ?_) rfl (by kernel_rfl) (by kernel_rfl) (by kernel_rfl) (fun _ _ _ h => h) (by rfl) (by assumption) ?_ ?_
  rotate_left
  · intro w hSw
    obtain ⟨hA, hB, hC, hD, hk9⟩ := hSw
    obtain ⟨a0, a1, a2, a3, a4⟩ := hA.five
    obtain ⟨b0, b1, b2, b3, b4⟩ := hB.five
    obtain ⟨p0, p1, p2, p3, p4, p5, p6⟩ := hC.seven
    obtain ⟨q0, q1, q2, q3, q4, q5, q6⟩ := hD.seven
    go_simp
    (try with_reducible rfl)
  (try simp only [Act.put, List.setIfInBounds_toArray, List.set_cons_zero, List.set_cons_succ])
  refine anyH_take (i := 20) (v := ?_) rfl (by kernel_rfl) (by kernel_rfl) (by kernel_rfl) (fun _ _ _ h => h) (by rfl) (by assumption) ?_ ?_
  rotate_left
  · intro w hSw
    go_simp
    (try with_reducible rfl)
  (try simp only [Act.put, List.setIfInBounds_toArray, List.set_cons_zero, List.set_cons_succ])
  refine anyH_take (i := 21) (v := ?_) rfl (by kernel_rfl) (by kernel_rfl) (by kernel_rfl) (fun _ _ _ h => h) (by rfl) (by assumption) ?_ ?_
  rotate_left
  · intro w hSw
    go_simp
    (try with_reducible rfl)
  (try simp only [Act.put, List.setIfInBounds_toArray, List.set_cons_zero, List.set_cons_succ])
  refine anyH_take (i := 22) (v := ?_) rfl (by kernel_rfl) (by kernel_rfl) (by kernel_rfl) (fun _ _ _ h => h) (by rfl) (by assumption) ?_ ?_
  rotate_left
  · intro w hSw
    go_simp
    (try with_reducible rfl)
  (try simp only [Act.put, List.setIfInBounds_toArray, List.set_cons_zero, List.set_cons_succ])
  refine anyH_take (i := 23) (v := ?_) rfl (by kernel_rfl) (by kernel_rfl) (by kernel_rfl) (fun _ _ _ h => h) (by rfl) (by assumption) ?_ ?_
  rotate_left
  · intro w hSw
    obtain ⟨hA, hB, hC, hD, hk9⟩ := hSw
    obtain ⟨a0, a1, a2, a3, a4⟩ := hA.five
    obtain ⟨b0, b1, b2, b3, b4⟩ := hB.five
    obtain ⟨p0, p1, p2, p3, p4, p5, p6⟩ := hC.seven
    obtain ⟨q0, q1, q2, q3, q4, q5, q6⟩ := hD.seven
    go_simp
    (try with_reducible rfl)
  (try simp only [Act.put, List.setIfInBounds_toArray, List.set_cons_zero, List.set_cons_succ])
  refine anyH_take (i := 24) (v := ?_) rfl (by kernel_rfl) (by kernel_rfl) (by kernel_rfl) (fun _ _ _ h => h) (by rfl) (by assumption) ?_ ?_
  rotate_left
  · intro w hSw
    obtain ⟨hA, hB, hC, hD, hk9⟩ := hSw
    obtain ⟨a0, a1, a2, a3, a4⟩ := hA.five
    obtain ⟨b0, b1, b2, b3, b4⟩ := hB.five
    obtain ⟨p0, p1, p2, p3, p4, p5, p6⟩ := hC.seven
    obtain ⟨q0, q1, q2, q3, q4, q5, q6⟩ := hD.seven
    go_simp
    (try with_reducible rfl)
  (try simp only [Act.put, List.setIfInBounds_toArray, List.set_cons_zero, List.set_cons_succ])
  refine anyH_take (i := 26) (v := ?_) rfl (by kernel_rfl) (by kernel_rfl) (by kernel_rfl) (fun _ _ _ h => h) (by rfl) (by assumption) ?_ ?_
  rotate_left
  · intro w hSw
    obtain ⟨hA, hB, hC, hD, hk9⟩ := hSw
    obtain ⟨a0, a1, a2, a3, a4⟩ := hA.five
    obtain ⟨b0, b1, b2, b3, b4⟩ := hB.five
    obtain ⟨p0, p1, p2, p3, p4, p5, p6⟩ := hC.seven
    obtain ⟨q0, q1, q2, q3, q4, q5, q6⟩ := hD.seven
    go_simp
    (try with_reducible rfl)
  (try simp only [Act.put, List.setIfInBounds_toArray, List.set_cons_zero, List.set_cons_succ])
  refine anyH_take (i := 28) (v := ?_) rfl (by kernel_rfl) (by kernel_rfl) (by kernel_rfl) (fun _ _ _ h => h) (by rfl) (by assumption) ?_ ?_
  rotate_left
  · intro w hSw
    obtain ⟨hA, hB, hC, hD, hk9⟩ := hSw
    obtain ⟨a0, a1, a2, a3, a4⟩ := hA.five
    obtain ⟨b0, b1, b2, b3, b4⟩ := hB.five
    obtain ⟨p0, p1, p2, p3, p4, p5, p6⟩ := hC.seven
    obtain ⟨q0, q1, q2, q3, q4, q5, q6⟩ := hD.seven
    go_simp
    (try with_reducible rfl)
  (try simp only [Act.put, List.setIfInBounds_toArray, List.set_cons_zero, List.set_cons_succ])
  refine wpAnyH_ready (rs := [25]) (by kernel_rfl) (by simp) ?_
  refine anyH_one rfl (fun K hK => ?_) ?_
  · go_simp
    refine (C1 _ hHeld.2.2.2.2).mono ?_
    rintro e w5' ⟨rfl, hb5⟩
    refine hK.out _ _ (regt_step hHeld hb5) (fun hHeld => ?_)
    clear hK K
    (try simp only [Act.put, List.setIfInBounds_toArray, List.set_cons_zero, List.set_cons_succ])
    refine wpAnyH_ready (rs := [27]) (by kernel_rfl) (by simp) ?_
    refine anyH_one rfl (fun K hK => ?_) ?_
    · go_simp
      refine (C2 _ hHeld.2.2.2.2).mono ?_
      rintro e w6 ⟨A6, c6, rfl, hs6, hb6⟩
      refine hK.out _ _ (regt_step hHeld hb6) (fun hHeld => ?_)
      clear hK K
      (try simp only [Act.put, List.setIfInBounds_toArray, List.set_cons_zero, List.set_cons_succ])
      refine wpAnyH_ready (rs := [29]) (by kernel_rfl) (by simp) ?_
      refine anyH_one rfl (fun K hK => ?_) ?_
      · go_simp
        refine (C3 _ hHeld.2.2.2.2).mono ?_
        rintro e w7 ⟨A7, c7, rfl, hs7, hb7⟩
        refine hK.out _ _ (regt_step hHeld hb7) (fun hHeld => ?_)
        clear hK K
        (try simp only [Act.put, List.setIfInBounds_toArray, List.set_cons_zero, List.set_cons_succ])
        refine wpAnyH_ready (rs := [30]) (by kernel_rfl) (by simp) ?_
        refine anyH_one rfl (fun K hK => ?_) ?_
        · go_simp
          refine (C4 _ _ _ _ _ (hs6.below hb7) hs7).mono ?_
          rintro e w8 ⟨rfl, hb8⟩
          refine hK.out _ _ (regt_step hHeld hb8) (fun hHeld => ?_)
          clear hK K
          (try simp only [Act.put, List.setIfInBounds_toArray, List.set_cons_zero, List.set_cons_succ])
          refine anyH_take (i := 31) (v := ?_) rfl (by kernel_rfl) (by kernel_rfl) (by kernel_rfl) (fun _ _ _ h => h) (by rfl) (by assumption) ?_ ?_
          rotate_left
          · intro w hSw
            go_simp
            (try with_reducible rfl)
          (try simp only [Act.put, List.setIfInBounds_toArray, List.set_cons_zero, List.set_cons_succ])
          refine anyH_take (i := 32) (v := ?_) rfl (by kernel_rfl) (by kernel_rfl) (by kernel_rfl) (fun _ _ _ h => h) (by rfl) (by assumption) ?_ ?_
          rotate_left
          · intro w hSw
            go_simp
            (try with_reducible rfl)
          (try simp only [Act.put, List.setIfInBounds_toArray, List.set_cons_zero, List.set_cons_succ])
          refine anyH_take (i := 33) (v := ?_) rfl (by kernel_rfl) (by kernel_rfl) (by kernel_rfl) (fun _ _ _ h => h) (by rfl) (by assumption) ?_ ?_
          rotate_left
          · intro w hSw
            go_simp
            (try with_reducible rfl)
          (try simp only [Act.put, List.setIfInBounds_toArray, List.set_cons_zero, List.set_cons_succ])
          refine anyH_take (i := 34) (v := ?_) rfl (by kernel_rfl) (by kernel_rfl) (by kernel_rfl) (fun _ _ _ h => h) (by rfl) (by assumption) ?_ ?_
          rotate_left
          · intro w hSw
            obtain ⟨hA, hB, hC, hD, hk9⟩ := hSw
            obtain ⟨a0, a1, a2, a3, a4⟩ := hA.five
            obtain ⟨b0, b1, b2, b3, b4⟩ := hB.five
            obtain ⟨p0, p1, p2, p3, p4, p5, p6⟩ := hC.seven
            obtain ⟨q0, q1, q2, q3, q4, q5, q6⟩ := hD.seven
            go_simp
            (try with_reducible rfl)
          (try simp only [Act.put, List.setIfInBounds_toArray, List.set_cons_zero, List.set_cons_succ])
          refine anyH_take (i := 35) (v := ?_) rfl (by kernel_rfl) (by kernel_rfl) (by kernel_rfl) (fun _ _ _ h => h) (by rfl) (by assumption) ?_ ?_
          rotate_left
          · intro w hSw
            obtain ⟨hA, hB, hC, hD, hk9⟩ := hSw
            obtain ⟨a0, a1, a2, a3, a4⟩ := hA.five
            obtain ⟨b0, b1, b2, b3, b4⟩ := hB.five
            obtain ⟨p0, p1, p2, p3, p4, p5, p6⟩ := hC.seven
            obtain ⟨q0, q1, q2, q3, q4, q5, q6⟩ := hD.seven
            go_simp
            (try with_reducible rfl)
          (try simp only [Act.put, List.setIfInBounds_toArray, List.set_cons_zero, List.set_cons_succ])
          refine wpAnyH_ready (rs := [36]) (by kernel_rfl) (by simp) ?_
          refine anyH_one rfl (fun K hK => ?_) ?_
          · go_simp
            refine (C5 _ hHeld.2.2.2.2).mono ?_
            rintro e w9 ⟨rfl, hb9⟩
            refine hK.out _ _ (regt_step hHeld hb9) (fun hHeld => ?_)
            clear hK K
            (try simp only [Act.put, List.setIfInBounds_toArray, List.set_cons_zero, List.set_cons_succ])
            refine anyH_take (i := 37) (v := ?_) rfl (by kernel_rfl) (by kernel_rfl) (by kernel_rfl) (fun _ _ _ h => h) (by rfl) (by assumption) ?_ ?_
            rotate_left
            · intro w hSw
              go_simp
              (try with_reducible rfl)
            (try simp only [Act.put, List.setIfInBounds_toArray, List.set_cons_zero, List.set_cons_succ])
            refine wpAnyH_ready (rs := [38]) (by kernel_rfl) (by simp) ?_
            refine anyH_one rfl (fun K hK => ?_) ?_
            · go_simp
              refine hK.out _ _ hHeld (fun hHeld => ?_)
              clear hK K
              (try simp only [Act.put, List.setIfInBounds_toArray, List.set_cons_zero, List.set_cons_succ])
              refine wpAnyH_done (by kernel_rfl) ?_ _
              have HE := Lib.hid (HB5.out.trans (Below.mono hHeld.2.2.2.2 HB5.out.size))
              clear hHeld
              go_wp2
              go_ret
              exact ⟨rfl, HE.out⟩
            exact AllReadyH.nil
          exact AllReadyH.nil
        exact AllReadyH.nil
      exact AllReadyH.nil
    exact AllReadyH.nil
  exact AllReadyH.nil
end Go.Proofs.YtlpjbmlkpmhdlaaDoor
