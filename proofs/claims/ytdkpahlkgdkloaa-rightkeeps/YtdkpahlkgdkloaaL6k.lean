/- The walk of RightKeeps (laid by tools/gen_l6k.py). -/
import Derived.Test.YtdkpahlkgdkloaaL6u
import Derived.Test.YtdkpahlkgdkloaaRg
namespace Go.Proofs.Ytdkpahlkgdkloaa
set_option linter.unusedVariables false
set_option linter.unusedSimpArgs false
open Go.ChangeShapes Go.WideShapes Go.ChangeAt Go.RowKit Go.Joins
attribute [local go_sem ↓] Go.wp_at_zero Go.wp_at_succ

/-- three rights lie in blocks h, h + 1, h + 2; nothing that was there has turned -/
def Keeps (w wr : World) (h : Nat) (a b c : Bool) : Prop :=
  RgtAt wr h a false c ∧ RgtAt wr (h + 1) a true c ∧ RgtAt wr (h + 1 + 1) false b c ∧ h + 1 + 1 < wr.heap.size ∧ Kept w wr
theorem keeps_keep {w w1 w2 : World} {h : Nat} {a b c : Bool} (H : Keeps w w1 h a b c) (hk : Kept w1 w2) : Keeps w w2 h a b c := by
  obtain ⟨h1, h2, h3, h4, h5⟩ := H
  have hs := hk.size
  exact ⟨rgt_keep h1 (by omega) hk, rgt_keep h2 (by omega) hk, rgt_keep h3 (by omega) hk, by omega, Kept.step hk h5⟩
theorem keeps_out {w w1 : World} {h : Nat} {a b c : Bool} (H : Keeps w w1 h a b c) : RgtAt w1 h a false c ∧ RgtAt w1 (h + 1) a true c ∧ RgtAt w1 (h + 1 + 1) false b c := ⟨H.1, H.2.1, H.2.2.1⟩
theorem keeps_kept {w w1 : World} {h : Nat} {a b c : Bool} (H : Keeps w w1 h a b c) : Kept w w1 := H.2.2.2.2
theorem keeps_new {w w1 : World} (a b c : Bool) (t : TypeId) (hk : Kept w w1) :
    Keeps w (((w1.alloc (.cells #[.bool a, .bool false, .bool c] t)).alloc (.cells #[.bool a, .bool true, .bool c] t)).alloc (.cells #[.bool false, .bool b, .bool c] t)) w1.heap.size a b c := by
  have h1 := rgt_new (w1.alloc (.cells #[.bool a, .bool false, .bool c] t)) a true c t
  rw [size_alloc'] at h1
  have h2 := rgt_new ((w1.alloc (.cells #[.bool a, .bool false, .bool c] t)).alloc (.cells #[.bool a, .bool true, .bool c] t)) false b c t
  rw [size_alloc', size_alloc'] at h2
  exact ⟨rgt_keep (rgt_keep (rgt_new _ _ _ _ _) (by simp) (kept_alloc _ _)) (by simp; omega) (kept_alloc _ _), rgt_keep h1 (by simp) (kept_alloc _ _), h2, by simp, Kept.step (kept_alloc _ _) (Kept.step (kept_alloc _ _) (Kept.step (kept_alloc _ _) hk))⟩

/-- what the calls of a round answer -/
theorem keeps_is (a b c : Bool) (k : Int) (ac b0 b1 b2 b3 : Bool) :
    ∃ o3 o4 o5 o6 : Bool, MayIs a false c k true ac b0 b1 b2 b3 false ∧ MayIs false b c 2 true false b0 b1 b2 b3 false ∧ MayIs a true c 1 false ac b0 b1 b2 b3 o3 ∧ MayIs a true c 3 false ac b0 b1 b2 b3 o4 ∧ MayIs false b c 2 false ac b0 b1 b2 b3 o5 ∧ MayIs a false c 2 false false b0 b1 b2 b3 o6 ∧
      (b0 = true ∧ o5 = false ∨ b0 = false ∧ o6 = true) ∧ (b2 = true ∧ o4 = false ∨ b2 = false) ∧ (b3 = true ∧ o3 = ac ∨ b3 = false ∧ o3 = true) := by
  refine ⟨_, _, _, _, may_is (by rw [may_user]; rfl), may_is (by cases b <;> rfl), may_is rfl, may_is rfl, may_is rfl, may_is rfl, ?_, ?_, ?_⟩
  · cases b0
    · exact .inr ⟨rfl, by cases a <;> rfl⟩
    · exact .inl ⟨rfl, rfl⟩
  · cases b2
    · exact .inr rfl
    · exact .inl ⟨rfl, by cases c <;> rfl⟩
  · cases b3
    · exact .inr ⟨rfl, rfl⟩
    · exact .inl ⟨rfl, rfl⟩

/-- what the region of a round reads -/
theorem reads_and {w1 w2 : World} {g h : Nat} {a b c b0 b1 b2 b3 : Bool} (h1 : RgtAt w1 h a b c) (h2 : CtlAt w1 g b0 b1 b2 b3) (hh : h < w1.heap.size) (hg : g < w1.heap.size) (hk : Kept w1 w2) :
    w2.cell? ⟨h, 0, none⟩ = some (.bool a) ∧ w2.cell? ⟨h, 1, none⟩ = some (.bool b) ∧ w2.cell? ⟨h, 2, none⟩ = some (.bool c) ∧ w2.cell? ⟨g, 0, none⟩ = some (.bool b0) ∧ w2.cell? ⟨g, 1, none⟩ = some (.bool b1) ∧ w2.cell? ⟨g, 2, none⟩ = some (.bool b2) ∧ w2.cell? ⟨g, 3, none⟩ = some (.bool b3) ∧ Kept w1 w2 := by
  obtain ⟨k0, k1, k2⟩ := rgt_keep h1 hh hk
  obtain ⟨l0, l1, l2, l3⟩ := ctl_keep h2 hg hk
  exact ⟨k0, k1, k2, l0, l1, l2, l3, hk⟩
theorem reads_step {w1 w2 w3 : World} {g h : Nat} {a b c b0 b1 b2 b3 : Bool} (h1 : RgtAt w1 h a b c) (h2 : CtlAt w1 g b0 b1 b2 b3) (hh : h < w1.heap.size) (hg : g < w1.heap.size) (hk : Kept w2 w3)
    (hs : w2.cell? ⟨h, 0, none⟩ = some (.bool a) ∧ w2.cell? ⟨h, 1, none⟩ = some (.bool b) ∧ w2.cell? ⟨h, 2, none⟩ = some (.bool c) ∧ w2.cell? ⟨g, 0, none⟩ = some (.bool b0) ∧ w2.cell? ⟨g, 1, none⟩ = some (.bool b1) ∧ w2.cell? ⟨g, 2, none⟩ = some (.bool b2) ∧ w2.cell? ⟨g, 3, none⟩ = some (.bool b3) ∧ Kept w1 w2) :
    w3.cell? ⟨h, 0, none⟩ = some (.bool a) ∧ w3.cell? ⟨h, 1, none⟩ = some (.bool b) ∧ w3.cell? ⟨h, 2, none⟩ = some (.bool c) ∧ w3.cell? ⟨g, 0, none⟩ = some (.bool b0) ∧ w3.cell? ⟨g, 1, none⟩ = some (.bool b1) ∧ w3.cell? ⟨g, 2, none⟩ = some (.bool b2) ∧ w3.cell? ⟨g, 3, none⟩ = some (.bool b3) ∧ Kept w1 w3 :=
  reads_and h1 h2 hh hg (Kept.step hk hs.2.2.2.2.2.2.2)

theorem keeps_mid {w w1 : World} {h : Nat} {a b c : Bool} (H : Keeps w w1 h a b c) : h + 1 < w1.heap.size := by have := H.2.2.2.1; omega
theorem ctlIn_lt {w : World} {g : Nat} {a b c d : Bool} (H : CtlIn w g a b c d) : g < w.heap.size := H.2

set_option maxRecDepth 100000 in
set_option maxHeartbeats 3200000 in
theorem rightKeeps_walk (a b c : Bool) (k : Int) (ac : Bool) (w : World) :
    Calls Try.prog 7 #[rgtV a b c, .int .i64 k, .bool ac] w fun e w' => e = .returned (.bool true) ∧ Below w.heap.size w w' := by
  go_enter Try.func7, Try.ntmps7
  go_wp2_with fail
  refine (awake6_any _).mono ?_
  rintro e w1 ⟨rfl, hb1⟩
  have R1 : RgtAt w1 w.heap.size a b c := rgt_keep (rgt_new _ _ _ _ _) (by simp) hb1
  have lt1 : w.heap.size < w1.heap.size := by have := hb1.size; simp at this; omega
  have K1 : Kept w w1 := Kept.step hb1 (kept_alloc _ _)
  have U1 := keeps_new a b c 23 K1
  clear hb1 K1
  obtain ⟨r0, r1, r2⟩ := R1
  go_upto_region 8 with fail
  generalize ((w1.alloc (.cells #[.bool a, .bool false, .bool c] 23)).alloc (.cells #[.bool a, .bool true, .bool c] 23)).alloc (.cells #[.bool false, .bool b, .bool c] 23) = w2 at *
  clear r0 r1 r2
  go_wp2
  go_loopw [11] (fun i wr => ∃ n : Nat, n ≤ 16 ∧ i = .int .i64 n ∧ Keeps w wr w1.heap.size a b c) (fun i _ => (16 - intOf i).toNat)
  case atStart => exact ⟨0, by omega, rfl, U1⟩
  case round =>
    obtain ⟨n, hn, rfl, hU⟩ := hrel
    clear U1
    by_cases hl : n < 16
    · obtain ⟨b0, b1, b2, b3, C0⟩ := ctl_some n hl
      have C := Lib.hid C0
      clear C0
      obtain ⟨o3, o4, o5, o6, N1, N2, N3, N4, N5, N6, f0, f2, f3⟩ := keeps_is a b c k ac b0 b1 b2 b3
      go_wp2_with fail
      refine (C.out _).mono ?_
      rintro e w3 ⟨rfl, hb3⟩
      have hU3 := keeps_keep (keeps_keep hU hb3) (kept_alloc _ (.cells #[.bool b0, .bool b1, .bool b2, .bool b3] 30))
      have hC3 := ctlIn_new w3 b0 b1 b2 b3 30
      clear hb3 hU
      go_upto_region 12 with fail
      generalize w3.alloc (.cells #[.bool b0, .bool b1, .bool b2, .bool b3] 30) = w4 at *
      have hRS := keeps_out hU3
      obtain ⟨⟨_, _, _⟩, ⟨_, _, _⟩, ⟨_, _, _⟩⟩ := hRS
      obtain ⟨_, _, _, _⟩ := ctlIn_out hC3
      go_wp2_with (first | (go_at_call 11; (first | (with_reducible refine (N1.go _).mono ?_) | (with_reducible refine (N2.go _).mono ?_)); rintro e w5 ⟨rfl, hk⟩; have hUx := keeps_keep (by assumption) hk; have hCx := ctlIn_keep (by assumption) hk; obtain ⟨⟨_, _, _⟩, ⟨_, _, _⟩, ⟨_, _, _⟩⟩ := keeps_out hUx; obtain ⟨_, _, _, _⟩ := ctlIn_out hCx))
      have hU5 := hUx
      have hC5 := hCx
      clear hUx hCx
      rcases f2 with ⟨rfl, rfl⟩ | rfl <;> rcases f3 with ⟨rfl, rfl⟩ | ⟨rfl, rfl⟩
      · refine wp_region_held_drew (S := fun w6 => w6.cell? ⟨w1.heap.size + 1, 0, none⟩ = some (.bool a) ∧ w6.cell? ⟨w1.heap.size + 1, 1, none⟩ = some (.bool true) ∧ w6.cell? ⟨w1.heap.size + 1, 2, none⟩ = some (.bool c) ∧ w6.cell? ⟨w3.heap.size, 0, none⟩ = some (.bool b0) ∧ w6.cell? ⟨w3.heap.size, 1, none⟩ = some (.bool b1) ∧ w6.cell? ⟨w3.heap.size, 2, none⟩ = some (.bool true) ∧ w6.cell? ⟨w3.heap.size, 3, none⟩ = some (.bool true) ∧ Kept w5 w6) (by kernel_rfl) (reads_and (keeps_out hU5).2.1 (ctlIn_out hC5) (keeps_mid hU5) (ctlIn_lt hC5) (Kept.drew0 _)) (fun hHeld => ?_)
        refine anyH_take (i := 0) (v := ?_) rfl (by kernel_rfl) (by kernel_rfl) (by kernel_rfl) (fun _ _ _ h => h) (by rfl) (by assumption) ?_ ?_
        rotate_left
        · intro w hSw
          obtain ⟨k0, k1, k2, l0, l1, l2, l3, _⟩ := hSw
          go_simp
          (try with_reducible rfl)
        (try simp only [Act.put, List.setIfInBounds_toArray, List.set_cons_zero, List.set_cons_succ])
        refine anyH_take (i := 1) (v := ?_) rfl (by kernel_rfl) (by kernel_rfl) (by kernel_rfl) (fun _ _ _ h => h) (by rfl) (by assumption) ?_ ?_
        rotate_left
        · intro w hSw
          go_simp
          (try with_reducible rfl)
        (try simp only [Act.put, List.setIfInBounds_toArray, List.set_cons_zero, List.set_cons_succ])
        refine anyH_take (i := 2) (v := ?_) rfl (by kernel_rfl) (by kernel_rfl) (by kernel_rfl) (fun _ _ _ h => h) (by rfl) (by assumption) ?_ ?_
        rotate_left
        · intro w hSw
          go_simp
          (try with_reducible rfl)
        (try simp only [Act.put, List.setIfInBounds_toArray, List.set_cons_zero, List.set_cons_succ])
        refine anyH_take (i := 3) (v := ?_) rfl (by kernel_rfl) (by kernel_rfl) (by kernel_rfl) (fun _ _ _ h => h) (by rfl) (by assumption) ?_ ?_
        rotate_left
        · intro w hSw
          obtain ⟨k0, k1, k2, l0, l1, l2, l3, _⟩ := hSw
          go_simp
          (try with_reducible rfl)
        (try simp only [Act.put, List.setIfInBounds_toArray, List.set_cons_zero, List.set_cons_succ])
        refine anyH_take (i := 5) (v := ?_) rfl (by kernel_rfl) (by kernel_rfl) (by kernel_rfl) (fun _ _ _ h => h) (by rfl) (by assumption) ?_ ?_
        rotate_left
        · intro w hSw
          go_simp
          (try with_reducible rfl)
        (try simp only [Act.put, List.setIfInBounds_toArray, List.set_cons_zero, List.set_cons_succ])
        refine anyH_take (i := 6) (v := ?_) rfl (by kernel_rfl) (by kernel_rfl) (by kernel_rfl) (fun _ _ _ h => h) (by rfl) (by assumption) ?_ ?_
        rotate_left
        · intro w hSw
          obtain ⟨k0, k1, k2, l0, l1, l2, l3, _⟩ := hSw
          go_simp
          (try with_reducible rfl)
        (try simp only [Act.put, List.setIfInBounds_toArray, List.set_cons_zero, List.set_cons_succ])
        refine anyH_take (i := 7) (v := ?_) rfl (by kernel_rfl) (by kernel_rfl) (by kernel_rfl) (fun _ _ _ h => h) (by rfl) (by assumption) ?_ ?_
        rotate_left
        · intro w hSw
          go_simp
          (try with_reducible rfl)
        (try simp only [Act.put, List.setIfInBounds_toArray, List.set_cons_zero, List.set_cons_succ])
        refine wpAnyH_ready (rs := [4]) (by kernel_rfl) (by simp) ?_
        refine anyH_one rfl (fun K hK => ?_) ?_
        · go_simp
          refine (N3.go _).mono ?_
          rintro e w6 ⟨rfl, hb6⟩
          refine hK.out _ _ (reads_step (keeps_out hU5).2.1 (ctlIn_out hC5) (keeps_mid hU5) (ctlIn_lt hC5) hb6 hHeld) (fun hHeld => ?_)
          clear hK K
          (try simp only [Act.put, List.setIfInBounds_toArray, List.set_cons_zero, List.set_cons_succ])
          refine anyH_take (i := 8) (v := ?_) rfl (by kernel_rfl) (by kernel_rfl) (by kernel_rfl) (fun _ _ _ h => h) (by rfl) (by assumption) ?_ ?_
          rotate_left
          · intro w hSw
            go_simp
            (try with_reducible rfl)
          (try simp only [Act.put, List.setIfInBounds_toArray, List.set_cons_zero, List.set_cons_succ])
          refine anyH_take (i := 9) (v := ?_) rfl (by kernel_rfl) (by kernel_rfl) (by kernel_rfl) (fun _ _ _ h => h) (by rfl) (by assumption) ?_ ?_
          rotate_left
          · intro w hSw
            go_simp
            (try with_reducible rfl)
          (try simp only [Act.put, List.setIfInBounds_toArray, List.set_cons_zero, List.set_cons_succ])
          refine anyH_take (i := 10) (v := ?_) rfl (by kernel_rfl) (by kernel_rfl) (by kernel_rfl) (fun _ _ _ h => h) (by rfl) (by assumption) ?_ ?_
          rotate_left
          · intro w hSw
            go_simp
            (try with_reducible rfl)
          (try simp only [Act.put, List.setIfInBounds_toArray, List.set_cons_zero, List.set_cons_succ])
          refine anyH_take (i := 11) (v := ?_) rfl (by kernel_rfl) (by kernel_rfl) (by kernel_rfl) (fun _ _ _ h => h) (by rfl) (by assumption) ?_ ?_
          rotate_left
          · intro w hSw
            go_simp
            (try with_reducible rfl)
          (try simp only [Act.put, List.setIfInBounds_toArray, List.set_cons_zero, List.set_cons_succ])
          refine anyH_take (i := 12) (v := ?_) rfl (by kernel_rfl) (by kernel_rfl) (by kernel_rfl) (fun _ _ _ h => h) (by rfl) (by assumption) ?_ ?_
          rotate_left
          · intro w hSw
            go_simp
            (try with_reducible rfl)
          (try simp only [Act.put, List.setIfInBounds_toArray, List.set_cons_zero, List.set_cons_succ])
          refine anyH_take (i := 13) (v := ?_) rfl (by kernel_rfl) (by kernel_rfl) (by kernel_rfl) (fun _ _ _ h => h) (by rfl) (by assumption) ?_ ?_
          rotate_left
          · intro w hSw
            go_simp
            (try with_reducible rfl)
          (try simp only [Act.put, List.setIfInBounds_toArray, List.set_cons_zero, List.set_cons_succ])
          refine anyH_take (i := 14) (v := ?_) rfl (by kernel_rfl) (by kernel_rfl) (by kernel_rfl) (fun _ _ _ h => h) (by rfl) (by assumption) ?_ ?_
          rotate_left
          · intro w hSw
            obtain ⟨k0, k1, k2, l0, l1, l2, l3, _⟩ := hSw
            go_simp
            (try with_reducible rfl)
          (try simp only [Act.put, List.setIfInBounds_toArray, List.set_cons_zero, List.set_cons_succ])
          refine anyH_take (i := 15) (v := ?_) rfl (by kernel_rfl) (by kernel_rfl) (by kernel_rfl) (fun _ _ _ h => h) (by rfl) (by assumption) ?_ ?_
          rotate_left
          · intro w hSw
            go_simp
            (try with_reducible rfl)
          (try simp only [Act.put, List.setIfInBounds_toArray, List.set_cons_zero, List.set_cons_succ])
          refine anyH_take (i := 16) (v := ?_) rfl (by kernel_rfl) (by kernel_rfl) (by kernel_rfl) (fun _ _ _ h => h) (by rfl) (by assumption) ?_ ?_
          rotate_left
          · intro w hSw
            obtain ⟨k0, k1, k2, l0, l1, l2, l3, _⟩ := hSw
            go_simp
            (try with_reducible rfl)
          (try simp only [Act.put, List.setIfInBounds_toArray, List.set_cons_zero, List.set_cons_succ])
          refine anyH_take (i := 17) (v := ?_) rfl (by kernel_rfl) (by kernel_rfl) (by kernel_rfl) (fun _ _ _ h => h) (by rfl) (by assumption) ?_ ?_
          rotate_left
          · intro w hSw
            go_simp
            (try with_reducible rfl)
          (try simp only [Act.put, List.setIfInBounds_toArray, List.set_cons_zero, List.set_cons_succ])
          refine anyH_take (i := 18) (v := ?_) rfl (by kernel_rfl) (by kernel_rfl) (by kernel_rfl) (fun _ _ _ h => h) (by rfl) (by assumption) ?_ ?_
          rotate_left
          · intro w hSw
            go_simp
            (try with_reducible rfl)
          (try simp only [Act.put, List.setIfInBounds_toArray, List.set_cons_zero, List.set_cons_succ])
          refine anyH_take (i := 19) (v := ?_) rfl (by kernel_rfl) (by kernel_rfl) (by kernel_rfl) (fun _ _ _ h => h) (by rfl) (by assumption) ?_ ?_
          rotate_left
          · intro w hSw
            obtain ⟨k0, k1, k2, l0, l1, l2, l3, _⟩ := hSw
            go_simp
            (try with_reducible rfl)
          (try simp only [Act.put, List.setIfInBounds_toArray, List.set_cons_zero, List.set_cons_succ])
          refine wpAnyH_ready (rs := [20]) (by kernel_rfl) (by simp) ?_
          refine anyH_one rfl (fun K hK => ?_) ?_
          · go_simp
            refine (N4.go _).mono ?_
            rintro e w7 ⟨rfl, hb7⟩
            refine hK.out _ _ (reads_step (keeps_out hU5).2.1 (ctlIn_out hC5) (keeps_mid hU5) (ctlIn_lt hC5) hb7 hHeld) (fun hHeld => ?_)
            clear hK K
            (try simp only [Act.put, List.setIfInBounds_toArray, List.set_cons_zero, List.set_cons_succ])
            refine anyH_take (i := 21) (v := ?_) rfl (by kernel_rfl) (by kernel_rfl) (by kernel_rfl) (fun _ _ _ h => h) (by rfl) (by assumption) ?_ ?_
            rotate_left
            · intro w hSw
              go_simp
              (try with_reducible rfl)
            (try simp only [Act.put, List.setIfInBounds_toArray, List.set_cons_zero, List.set_cons_succ])
            refine anyH_take (i := 22) (v := ?_) rfl (by kernel_rfl) (by kernel_rfl) (by kernel_rfl) (fun _ _ _ h => h) (by rfl) (by assumption) ?_ ?_
            rotate_left
            · intro w hSw
              go_simp
              (try with_reducible rfl)
            (try simp only [Act.put, List.setIfInBounds_toArray, List.set_cons_zero, List.set_cons_succ])
            refine wpAnyH_done (by kernel_rfl) ?_ _
            obtain ⟨_, _, _, _, _, _, _, hk⟩ := hHeld
            have hUx := keeps_keep hU5 hk
            have hCx := ctlIn_keep hC5 hk
            obtain ⟨⟨_, _, _⟩, ⟨_, _, _⟩, ⟨_, _, _⟩⟩ := keeps_out hUx
            obtain ⟨_, _, _, _⟩ := ctlIn_out hCx
            clear hk
            rcases f0 with ⟨rfl, rfl⟩ | ⟨rfl, rfl⟩
            all_goals
              go_wp2_with (first | (go_at_call 11; (first | (with_reducible refine (N5.go _).mono ?_) | (with_reducible refine (N6.go _).mono ?_)); rintro e w5 ⟨rfl, hk⟩; have hUx := keeps_keep (by assumption) hk; have hCx := ctlIn_keep (by assumption) hk; obtain ⟨⟨_, _, _⟩, ⟨_, _, _⟩, ⟨_, _, _⟩⟩ := keeps_out hUx; obtain ⟨_, _, _, _⟩ := ctlIn_out hCx))
              go_roundw
              all_goals first | (simp [intOf]; omega) | exact ⟨n + 1, by omega, by go_num, by assumption⟩
          exact AllReadyH.nil
        exact AllReadyH.nil
      · refine wp_region_held_drew (S := fun w6 => w6.cell? ⟨w1.heap.size + 1, 0, none⟩ = some (.bool a) ∧ w6.cell? ⟨w1.heap.size + 1, 1, none⟩ = some (.bool true) ∧ w6.cell? ⟨w1.heap.size + 1, 2, none⟩ = some (.bool c) ∧ w6.cell? ⟨w3.heap.size, 0, none⟩ = some (.bool b0) ∧ w6.cell? ⟨w3.heap.size, 1, none⟩ = some (.bool b1) ∧ w6.cell? ⟨w3.heap.size, 2, none⟩ = some (.bool true) ∧ w6.cell? ⟨w3.heap.size, 3, none⟩ = some (.bool false) ∧ Kept w5 w6) (by kernel_rfl) (reads_and (keeps_out hU5).2.1 (ctlIn_out hC5) (keeps_mid hU5) (ctlIn_lt hC5) (Kept.drew0 _)) (fun hHeld => ?_)
        refine anyH_take (i := 0) (v := ?_) rfl (by kernel_rfl) (by kernel_rfl) (by kernel_rfl) (fun _ _ _ h => h) (by rfl) (by assumption) ?_ ?_
        rotate_left
        · intro w hSw
          obtain ⟨k0, k1, k2, l0, l1, l2, l3, _⟩ := hSw
          go_simp
          (try with_reducible rfl)
        (try simp only [Act.put, List.setIfInBounds_toArray, List.set_cons_zero, List.set_cons_succ])
        refine anyH_take (i := 1) (v := ?_) rfl (by kernel_rfl) (by kernel_rfl) (by kernel_rfl) (fun _ _ _ h => h) (by rfl) (by assumption) ?_ ?_
        rotate_left
        · intro w hSw
          go_simp
          (try with_reducible rfl)
        (try simp only [Act.put, List.setIfInBounds_toArray, List.set_cons_zero, List.set_cons_succ])
        refine anyH_take (i := 2) (v := ?_) rfl (by kernel_rfl) (by kernel_rfl) (by kernel_rfl) (fun _ _ _ h => h) (by rfl) (by assumption) ?_ ?_
        rotate_left
        · intro w hSw
          go_simp
          (try with_reducible rfl)
        (try simp only [Act.put, List.setIfInBounds_toArray, List.set_cons_zero, List.set_cons_succ])
        refine anyH_take (i := 3) (v := ?_) rfl (by kernel_rfl) (by kernel_rfl) (by kernel_rfl) (fun _ _ _ h => h) (by rfl) (by assumption) ?_ ?_
        rotate_left
        · intro w hSw
          obtain ⟨k0, k1, k2, l0, l1, l2, l3, _⟩ := hSw
          go_simp
          (try with_reducible rfl)
        (try simp only [Act.put, List.setIfInBounds_toArray, List.set_cons_zero, List.set_cons_succ])
        refine anyH_take (i := 5) (v := ?_) rfl (by kernel_rfl) (by kernel_rfl) (by kernel_rfl) (fun _ _ _ h => h) (by rfl) (by assumption) ?_ ?_
        rotate_left
        · intro w hSw
          go_simp
          (try with_reducible rfl)
        (try simp only [Act.put, List.setIfInBounds_toArray, List.set_cons_zero, List.set_cons_succ])
        refine anyH_take (i := 6) (v := ?_) rfl (by kernel_rfl) (by kernel_rfl) (by kernel_rfl) (fun _ _ _ h => h) (by rfl) (by assumption) ?_ ?_
        rotate_left
        · intro w hSw
          obtain ⟨k0, k1, k2, l0, l1, l2, l3, _⟩ := hSw
          go_simp
          (try with_reducible rfl)
        (try simp only [Act.put, List.setIfInBounds_toArray, List.set_cons_zero, List.set_cons_succ])
        refine anyH_take (i := 7) (v := ?_) rfl (by kernel_rfl) (by kernel_rfl) (by kernel_rfl) (fun _ _ _ h => h) (by rfl) (by assumption) ?_ ?_
        rotate_left
        · intro w hSw
          go_simp
          (try with_reducible rfl)
        (try simp only [Act.put, List.setIfInBounds_toArray, List.set_cons_zero, List.set_cons_succ])
        refine wpAnyH_ready (rs := [4]) (by kernel_rfl) (by simp) ?_
        refine anyH_one rfl (fun K hK => ?_) ?_
        · go_simp
          refine (N3.go _).mono ?_
          rintro e w6 ⟨rfl, hb6⟩
          refine hK.out _ _ (reads_step (keeps_out hU5).2.1 (ctlIn_out hC5) (keeps_mid hU5) (ctlIn_lt hC5) hb6 hHeld) (fun hHeld => ?_)
          clear hK K
          (try simp only [Act.put, List.setIfInBounds_toArray, List.set_cons_zero, List.set_cons_succ])
          refine anyH_take (i := 8) (v := ?_) rfl (by kernel_rfl) (by kernel_rfl) (by kernel_rfl) (fun _ _ _ h => h) (by rfl) (by assumption) ?_ ?_
          rotate_left
          · intro w hSw
            go_simp
            (try with_reducible rfl)
          (try simp only [Act.put, List.setIfInBounds_toArray, List.set_cons_zero, List.set_cons_succ])
          refine anyH_skip (i := 9) rfl (by kernel_rfl) (by kernel_rfl) (by kernel_rfl) (fun _ _ _ h => h) (by rfl) (by assumption) ?_
          (try simp only [Act.put, List.setIfInBounds_toArray, List.set_cons_zero, List.set_cons_succ])
          refine anyH_take (i := 10) (v := ?_) rfl (by kernel_rfl) (by kernel_rfl) (by kernel_rfl) (fun _ _ _ h => h) (by rfl) (by assumption) ?_ ?_
          rotate_left
          · intro w hSw
            go_simp
            (try with_reducible rfl)
          (try simp only [Act.put, List.setIfInBounds_toArray, List.set_cons_zero, List.set_cons_succ])
          refine anyH_take (i := 11) (v := ?_) rfl (by kernel_rfl) (by kernel_rfl) (by kernel_rfl) (fun _ _ _ h => h) (by rfl) (by assumption) ?_ ?_
          rotate_left
          · intro w hSw
            go_simp
            (try with_reducible rfl)
          (try simp only [Act.put, List.setIfInBounds_toArray, List.set_cons_zero, List.set_cons_succ])
          refine anyH_take (i := 12) (v := ?_) rfl (by kernel_rfl) (by kernel_rfl) (by kernel_rfl) (fun _ _ _ h => h) (by rfl) (by assumption) ?_ ?_
          rotate_left
          · intro w hSw
            go_simp
            (try with_reducible rfl)
          (try simp only [Act.put, List.setIfInBounds_toArray, List.set_cons_zero, List.set_cons_succ])
          refine anyH_take (i := 13) (v := ?_) rfl (by kernel_rfl) (by kernel_rfl) (by kernel_rfl) (fun _ _ _ h => h) (by rfl) (by assumption) ?_ ?_
          rotate_left
          · intro w hSw
            go_simp
            (try with_reducible rfl)
          (try simp only [Act.put, List.setIfInBounds_toArray, List.set_cons_zero, List.set_cons_succ])
          refine anyH_take (i := 14) (v := ?_) rfl (by kernel_rfl) (by kernel_rfl) (by kernel_rfl) (fun _ _ _ h => h) (by rfl) (by assumption) ?_ ?_
          rotate_left
          · intro w hSw
            obtain ⟨k0, k1, k2, l0, l1, l2, l3, _⟩ := hSw
            go_simp
            (try with_reducible rfl)
          (try simp only [Act.put, List.setIfInBounds_toArray, List.set_cons_zero, List.set_cons_succ])
          refine anyH_take (i := 15) (v := ?_) rfl (by kernel_rfl) (by kernel_rfl) (by kernel_rfl) (fun _ _ _ h => h) (by rfl) (by assumption) ?_ ?_
          rotate_left
          · intro w hSw
            go_simp
            (try with_reducible rfl)
          (try simp only [Act.put, List.setIfInBounds_toArray, List.set_cons_zero, List.set_cons_succ])
          refine anyH_take (i := 16) (v := ?_) rfl (by kernel_rfl) (by kernel_rfl) (by kernel_rfl) (fun _ _ _ h => h) (by rfl) (by assumption) ?_ ?_
          rotate_left
          · intro w hSw
            obtain ⟨k0, k1, k2, l0, l1, l2, l3, _⟩ := hSw
            go_simp
            (try with_reducible rfl)
          (try simp only [Act.put, List.setIfInBounds_toArray, List.set_cons_zero, List.set_cons_succ])
          refine anyH_take (i := 17) (v := ?_) rfl (by kernel_rfl) (by kernel_rfl) (by kernel_rfl) (fun _ _ _ h => h) (by rfl) (by assumption) ?_ ?_
          rotate_left
          · intro w hSw
            go_simp
            (try with_reducible rfl)
          (try simp only [Act.put, List.setIfInBounds_toArray, List.set_cons_zero, List.set_cons_succ])
          refine anyH_take (i := 18) (v := ?_) rfl (by kernel_rfl) (by kernel_rfl) (by kernel_rfl) (fun _ _ _ h => h) (by rfl) (by assumption) ?_ ?_
          rotate_left
          · intro w hSw
            go_simp
            (try with_reducible rfl)
          (try simp only [Act.put, List.setIfInBounds_toArray, List.set_cons_zero, List.set_cons_succ])
          refine anyH_take (i := 19) (v := ?_) rfl (by kernel_rfl) (by kernel_rfl) (by kernel_rfl) (fun _ _ _ h => h) (by rfl) (by assumption) ?_ ?_
          rotate_left
          · intro w hSw
            obtain ⟨k0, k1, k2, l0, l1, l2, l3, _⟩ := hSw
            go_simp
            (try with_reducible rfl)
          (try simp only [Act.put, List.setIfInBounds_toArray, List.set_cons_zero, List.set_cons_succ])
          refine wpAnyH_ready (rs := [20]) (by kernel_rfl) (by simp) ?_
          refine anyH_one rfl (fun K hK => ?_) ?_
          · go_simp
            refine (N4.go _).mono ?_
            rintro e w7 ⟨rfl, hb7⟩
            refine hK.out _ _ (reads_step (keeps_out hU5).2.1 (ctlIn_out hC5) (keeps_mid hU5) (ctlIn_lt hC5) hb7 hHeld) (fun hHeld => ?_)
            clear hK K
            (try simp only [Act.put, List.setIfInBounds_toArray, List.set_cons_zero, List.set_cons_succ])
            refine anyH_take (i := 21) (v := ?_) rfl (by kernel_rfl) (by kernel_rfl) (by kernel_rfl) (fun _ _ _ h => h) (by rfl) (by assumption) ?_ ?_
            rotate_left
            · intro w hSw
              go_simp
              (try with_reducible rfl)
            (try simp only [Act.put, List.setIfInBounds_toArray, List.set_cons_zero, List.set_cons_succ])
            refine anyH_take (i := 22) (v := ?_) rfl (by kernel_rfl) (by kernel_rfl) (by kernel_rfl) (fun _ _ _ h => h) (by rfl) (by assumption) ?_ ?_
            rotate_left
            · intro w hSw
              go_simp
              (try with_reducible rfl)
            (try simp only [Act.put, List.setIfInBounds_toArray, List.set_cons_zero, List.set_cons_succ])
            refine wpAnyH_done (by kernel_rfl) ?_ _
            obtain ⟨_, _, _, _, _, _, _, hk⟩ := hHeld
            have hUx := keeps_keep hU5 hk
            have hCx := ctlIn_keep hC5 hk
            obtain ⟨⟨_, _, _⟩, ⟨_, _, _⟩, ⟨_, _, _⟩⟩ := keeps_out hUx
            obtain ⟨_, _, _, _⟩ := ctlIn_out hCx
            clear hk
            rcases f0 with ⟨rfl, rfl⟩ | ⟨rfl, rfl⟩
            all_goals
              go_wp2_with (first | (go_at_call 11; (first | (with_reducible refine (N5.go _).mono ?_) | (with_reducible refine (N6.go _).mono ?_)); rintro e w5 ⟨rfl, hk⟩; have hUx := keeps_keep (by assumption) hk; have hCx := ctlIn_keep (by assumption) hk; obtain ⟨⟨_, _, _⟩, ⟨_, _, _⟩, ⟨_, _, _⟩⟩ := keeps_out hUx; obtain ⟨_, _, _, _⟩ := ctlIn_out hCx))
              go_roundw
              all_goals first | (simp [intOf]; omega) | exact ⟨n + 1, by omega, by go_num, by assumption⟩
          exact AllReadyH.nil
        exact AllReadyH.nil
      · refine wp_region_held_drew (S := fun w6 => w6.cell? ⟨w1.heap.size + 1, 0, none⟩ = some (.bool a) ∧ w6.cell? ⟨w1.heap.size + 1, 1, none⟩ = some (.bool true) ∧ w6.cell? ⟨w1.heap.size + 1, 2, none⟩ = some (.bool c) ∧ w6.cell? ⟨w3.heap.size, 0, none⟩ = some (.bool b0) ∧ w6.cell? ⟨w3.heap.size, 1, none⟩ = some (.bool b1) ∧ w6.cell? ⟨w3.heap.size, 2, none⟩ = some (.bool false) ∧ w6.cell? ⟨w3.heap.size, 3, none⟩ = some (.bool true) ∧ Kept w5 w6) (by kernel_rfl) (reads_and (keeps_out hU5).2.1 (ctlIn_out hC5) (keeps_mid hU5) (ctlIn_lt hC5) (Kept.drew0 _)) (fun hHeld => ?_)
        refine anyH_take (i := 0) (v := ?_) rfl (by kernel_rfl) (by kernel_rfl) (by kernel_rfl) (fun _ _ _ h => h) (by rfl) (by assumption) ?_ ?_
        rotate_left
        · intro w hSw
          obtain ⟨k0, k1, k2, l0, l1, l2, l3, _⟩ := hSw
          go_simp
          (try with_reducible rfl)
        (try simp only [Act.put, List.setIfInBounds_toArray, List.set_cons_zero, List.set_cons_succ])
        refine anyH_take (i := 1) (v := ?_) rfl (by kernel_rfl) (by kernel_rfl) (by kernel_rfl) (fun _ _ _ h => h) (by rfl) (by assumption) ?_ ?_
        rotate_left
        · intro w hSw
          go_simp
          (try with_reducible rfl)
        (try simp only [Act.put, List.setIfInBounds_toArray, List.set_cons_zero, List.set_cons_succ])
        refine anyH_take (i := 2) (v := ?_) rfl (by kernel_rfl) (by kernel_rfl) (by kernel_rfl) (fun _ _ _ h => h) (by rfl) (by assumption) ?_ ?_
        rotate_left
        · intro w hSw
          go_simp
          (try with_reducible rfl)
        (try simp only [Act.put, List.setIfInBounds_toArray, List.set_cons_zero, List.set_cons_succ])
        refine anyH_take (i := 3) (v := ?_) rfl (by kernel_rfl) (by kernel_rfl) (by kernel_rfl) (fun _ _ _ h => h) (by rfl) (by assumption) ?_ ?_
        rotate_left
        · intro w hSw
          obtain ⟨k0, k1, k2, l0, l1, l2, l3, _⟩ := hSw
          go_simp
          (try with_reducible rfl)
        (try simp only [Act.put, List.setIfInBounds_toArray, List.set_cons_zero, List.set_cons_succ])
        refine anyH_take (i := 5) (v := ?_) rfl (by kernel_rfl) (by kernel_rfl) (by kernel_rfl) (fun _ _ _ h => h) (by rfl) (by assumption) ?_ ?_
        rotate_left
        · intro w hSw
          go_simp
          (try with_reducible rfl)
        (try simp only [Act.put, List.setIfInBounds_toArray, List.set_cons_zero, List.set_cons_succ])
        refine anyH_take (i := 6) (v := ?_) rfl (by kernel_rfl) (by kernel_rfl) (by kernel_rfl) (fun _ _ _ h => h) (by rfl) (by assumption) ?_ ?_
        rotate_left
        · intro w hSw
          obtain ⟨k0, k1, k2, l0, l1, l2, l3, _⟩ := hSw
          go_simp
          (try with_reducible rfl)
        (try simp only [Act.put, List.setIfInBounds_toArray, List.set_cons_zero, List.set_cons_succ])
        refine anyH_take (i := 7) (v := ?_) rfl (by kernel_rfl) (by kernel_rfl) (by kernel_rfl) (fun _ _ _ h => h) (by rfl) (by assumption) ?_ ?_
        rotate_left
        · intro w hSw
          go_simp
          (try with_reducible rfl)
        (try simp only [Act.put, List.setIfInBounds_toArray, List.set_cons_zero, List.set_cons_succ])
        refine wpAnyH_ready (rs := [4]) (by kernel_rfl) (by simp) ?_
        refine anyH_one rfl (fun K hK => ?_) ?_
        · go_simp
          refine (N3.go _).mono ?_
          rintro e w6 ⟨rfl, hb6⟩
          refine hK.out _ _ (reads_step (keeps_out hU5).2.1 (ctlIn_out hC5) (keeps_mid hU5) (ctlIn_lt hC5) hb6 hHeld) (fun hHeld => ?_)
          clear hK K
          (try simp only [Act.put, List.setIfInBounds_toArray, List.set_cons_zero, List.set_cons_succ])
          refine anyH_take (i := 8) (v := ?_) rfl (by kernel_rfl) (by kernel_rfl) (by kernel_rfl) (fun _ _ _ h => h) (by rfl) (by assumption) ?_ ?_
          rotate_left
          · intro w hSw
            go_simp
            (try with_reducible rfl)
          (try simp only [Act.put, List.setIfInBounds_toArray, List.set_cons_zero, List.set_cons_succ])
          refine anyH_take (i := 9) (v := ?_) rfl (by kernel_rfl) (by kernel_rfl) (by kernel_rfl) (fun _ _ _ h => h) (by rfl) (by assumption) ?_ ?_
          rotate_left
          · intro w hSw
            go_simp
            (try with_reducible rfl)
          (try simp only [Act.put, List.setIfInBounds_toArray, List.set_cons_zero, List.set_cons_succ])
          refine anyH_take (i := 10) (v := ?_) rfl (by kernel_rfl) (by kernel_rfl) (by kernel_rfl) (fun _ _ _ h => h) (by rfl) (by assumption) ?_ ?_
          rotate_left
          · intro w hSw
            go_simp
            (try with_reducible rfl)
          (try simp only [Act.put, List.setIfInBounds_toArray, List.set_cons_zero, List.set_cons_succ])
          refine anyH_take (i := 11) (v := ?_) rfl (by kernel_rfl) (by kernel_rfl) (by kernel_rfl) (fun _ _ _ h => h) (by rfl) (by assumption) ?_ ?_
          rotate_left
          · intro w hSw
            go_simp
            (try with_reducible rfl)
          (try simp only [Act.put, List.setIfInBounds_toArray, List.set_cons_zero, List.set_cons_succ])
          refine anyH_take (i := 12) (v := ?_) rfl (by kernel_rfl) (by kernel_rfl) (by kernel_rfl) (fun _ _ _ h => h) (by rfl) (by assumption) ?_ ?_
          rotate_left
          · intro w hSw
            go_simp
            (try with_reducible rfl)
          (try simp only [Act.put, List.setIfInBounds_toArray, List.set_cons_zero, List.set_cons_succ])
          refine anyH_take (i := 13) (v := ?_) rfl (by kernel_rfl) (by kernel_rfl) (by kernel_rfl) (fun _ _ _ h => h) (by rfl) (by assumption) ?_ ?_
          rotate_left
          · intro w hSw
            go_simp
            (try with_reducible rfl)
          (try simp only [Act.put, List.setIfInBounds_toArray, List.set_cons_zero, List.set_cons_succ])
          refine anyH_take (i := 14) (v := ?_) rfl (by kernel_rfl) (by kernel_rfl) (by kernel_rfl) (fun _ _ _ h => h) (by rfl) (by assumption) ?_ ?_
          rotate_left
          · intro w hSw
            obtain ⟨k0, k1, k2, l0, l1, l2, l3, _⟩ := hSw
            go_simp
            (try with_reducible rfl)
          (try simp only [Act.put, List.setIfInBounds_toArray, List.set_cons_zero, List.set_cons_succ])
          refine anyH_take (i := 15) (v := ?_) rfl (by kernel_rfl) (by kernel_rfl) (by kernel_rfl) (fun _ _ _ h => h) (by rfl) (by assumption) ?_ ?_
          rotate_left
          · intro w hSw
            go_simp
            (try with_reducible rfl)
          (try simp only [Act.put, List.setIfInBounds_toArray, List.set_cons_zero, List.set_cons_succ])
          refine anyH_skip (i := 16) rfl (by kernel_rfl) (by kernel_rfl) (by kernel_rfl) (fun _ _ _ h => h) (by rfl) (by assumption) ?_
          (try simp only [Act.put, List.setIfInBounds_toArray, List.set_cons_zero, List.set_cons_succ])
          refine anyH_skip (i := 17) rfl (by kernel_rfl) (by kernel_rfl) (by kernel_rfl) (fun _ _ _ h => h) (by rfl) (by assumption) ?_
          (try simp only [Act.put, List.setIfInBounds_toArray, List.set_cons_zero, List.set_cons_succ])
          refine anyH_skip (i := 18) rfl (by kernel_rfl) (by kernel_rfl) (by kernel_rfl) (fun _ _ _ h => h) (by rfl) (by assumption) ?_
          (try simp only [Act.put, List.setIfInBounds_toArray, List.set_cons_zero, List.set_cons_succ])
          refine anyH_skip (i := 19) rfl (by kernel_rfl) (by kernel_rfl) (by kernel_rfl) (fun _ _ _ h => h) (by rfl) (by assumption) ?_
          (try simp only [Act.put, List.setIfInBounds_toArray, List.set_cons_zero, List.set_cons_succ])
          refine anyH_skip (i := 20) rfl (by kernel_rfl) (by kernel_rfl) (by kernel_rfl) (fun _ _ _ h => h) (by rfl) (by assumption) ?_
          (try simp only [Act.put, List.setIfInBounds_toArray, List.set_cons_zero, List.set_cons_succ])
          refine anyH_take (i := 21) (v := ?_) rfl (by kernel_rfl) (by kernel_rfl) (by kernel_rfl) (fun _ _ _ h => h) (by rfl) (by assumption) ?_ ?_
          rotate_left
          · intro w hSw
            go_simp
            (try with_reducible rfl)
          (try simp only [Act.put, List.setIfInBounds_toArray, List.set_cons_zero, List.set_cons_succ])
          refine anyH_take (i := 22) (v := ?_) rfl (by kernel_rfl) (by kernel_rfl) (by kernel_rfl) (fun _ _ _ h => h) (by rfl) (by assumption) ?_ ?_
          rotate_left
          · intro w hSw
            go_simp
            (try with_reducible rfl)
          (try simp only [Act.put, List.setIfInBounds_toArray, List.set_cons_zero, List.set_cons_succ])
          refine wpAnyH_done (by kernel_rfl) ?_ _
          obtain ⟨_, _, _, _, _, _, _, hk⟩ := hHeld
          have hUx := keeps_keep hU5 hk
          have hCx := ctlIn_keep hC5 hk
          obtain ⟨⟨_, _, _⟩, ⟨_, _, _⟩, ⟨_, _, _⟩⟩ := keeps_out hUx
          obtain ⟨_, _, _, _⟩ := ctlIn_out hCx
          clear hk
          rcases f0 with ⟨rfl, rfl⟩ | ⟨rfl, rfl⟩
          all_goals
            go_wp2_with (first | (go_at_call 11; (first | (with_reducible refine (N5.go _).mono ?_) | (with_reducible refine (N6.go _).mono ?_)); rintro e w5 ⟨rfl, hk⟩; have hUx := keeps_keep (by assumption) hk; have hCx := ctlIn_keep (by assumption) hk; obtain ⟨⟨_, _, _⟩, ⟨_, _, _⟩, ⟨_, _, _⟩⟩ := keeps_out hUx; obtain ⟨_, _, _, _⟩ := ctlIn_out hCx))
            go_roundw
            all_goals first | (simp [intOf]; omega) | exact ⟨n + 1, by omega, by go_num, by assumption⟩
        exact AllReadyH.nil
      · refine wp_region_held_drew (S := fun w6 => w6.cell? ⟨w1.heap.size + 1, 0, none⟩ = some (.bool a) ∧ w6.cell? ⟨w1.heap.size + 1, 1, none⟩ = some (.bool true) ∧ w6.cell? ⟨w1.heap.size + 1, 2, none⟩ = some (.bool c) ∧ w6.cell? ⟨w3.heap.size, 0, none⟩ = some (.bool b0) ∧ w6.cell? ⟨w3.heap.size, 1, none⟩ = some (.bool b1) ∧ w6.cell? ⟨w3.heap.size, 2, none⟩ = some (.bool false) ∧ w6.cell? ⟨w3.heap.size, 3, none⟩ = some (.bool false) ∧ Kept w5 w6) (by kernel_rfl) (reads_and (keeps_out hU5).2.1 (ctlIn_out hC5) (keeps_mid hU5) (ctlIn_lt hC5) (Kept.drew0 _)) (fun hHeld => ?_)
        refine anyH_take (i := 0) (v := ?_) rfl (by kernel_rfl) (by kernel_rfl) (by kernel_rfl) (fun _ _ _ h => h) (by rfl) (by assumption) ?_ ?_
        rotate_left
        · intro w hSw
          obtain ⟨k0, k1, k2, l0, l1, l2, l3, _⟩ := hSw
          go_simp
          (try with_reducible rfl)
        (try simp only [Act.put, List.setIfInBounds_toArray, List.set_cons_zero, List.set_cons_succ])
        refine anyH_take (i := 1) (v := ?_) rfl (by kernel_rfl) (by kernel_rfl) (by kernel_rfl) (fun _ _ _ h => h) (by rfl) (by assumption) ?_ ?_
        rotate_left
        · intro w hSw
          go_simp
          (try with_reducible rfl)
        (try simp only [Act.put, List.setIfInBounds_toArray, List.set_cons_zero, List.set_cons_succ])
        refine anyH_take (i := 2) (v := ?_) rfl (by kernel_rfl) (by kernel_rfl) (by kernel_rfl) (fun _ _ _ h => h) (by rfl) (by assumption) ?_ ?_
        rotate_left
        · intro w hSw
          go_simp
          (try with_reducible rfl)
        (try simp only [Act.put, List.setIfInBounds_toArray, List.set_cons_zero, List.set_cons_succ])
        refine anyH_take (i := 3) (v := ?_) rfl (by kernel_rfl) (by kernel_rfl) (by kernel_rfl) (fun _ _ _ h => h) (by rfl) (by assumption) ?_ ?_
        rotate_left
        · intro w hSw
          obtain ⟨k0, k1, k2, l0, l1, l2, l3, _⟩ := hSw
          go_simp
          (try with_reducible rfl)
        (try simp only [Act.put, List.setIfInBounds_toArray, List.set_cons_zero, List.set_cons_succ])
        refine anyH_take (i := 5) (v := ?_) rfl (by kernel_rfl) (by kernel_rfl) (by kernel_rfl) (fun _ _ _ h => h) (by rfl) (by assumption) ?_ ?_
        rotate_left
        · intro w hSw
          go_simp
          (try with_reducible rfl)
        (try simp only [Act.put, List.setIfInBounds_toArray, List.set_cons_zero, List.set_cons_succ])
        refine anyH_take (i := 6) (v := ?_) rfl (by kernel_rfl) (by kernel_rfl) (by kernel_rfl) (fun _ _ _ h => h) (by rfl) (by assumption) ?_ ?_
        rotate_left
        · intro w hSw
          obtain ⟨k0, k1, k2, l0, l1, l2, l3, _⟩ := hSw
          go_simp
          (try with_reducible rfl)
        (try simp only [Act.put, List.setIfInBounds_toArray, List.set_cons_zero, List.set_cons_succ])
        refine anyH_take (i := 7) (v := ?_) rfl (by kernel_rfl) (by kernel_rfl) (by kernel_rfl) (fun _ _ _ h => h) (by rfl) (by assumption) ?_ ?_
        rotate_left
        · intro w hSw
          go_simp
          (try with_reducible rfl)
        (try simp only [Act.put, List.setIfInBounds_toArray, List.set_cons_zero, List.set_cons_succ])
        refine wpAnyH_ready (rs := [4]) (by kernel_rfl) (by simp) ?_
        refine anyH_one rfl (fun K hK => ?_) ?_
        · go_simp
          refine (N3.go _).mono ?_
          rintro e w6 ⟨rfl, hb6⟩
          refine hK.out _ _ (reads_step (keeps_out hU5).2.1 (ctlIn_out hC5) (keeps_mid hU5) (ctlIn_lt hC5) hb6 hHeld) (fun hHeld => ?_)
          clear hK K
          (try simp only [Act.put, List.setIfInBounds_toArray, List.set_cons_zero, List.set_cons_succ])
          refine anyH_take (i := 8) (v := ?_) rfl (by kernel_rfl) (by kernel_rfl) (by kernel_rfl) (fun _ _ _ h => h) (by rfl) (by assumption) ?_ ?_
          rotate_left
          · intro w hSw
            go_simp
            (try with_reducible rfl)
          (try simp only [Act.put, List.setIfInBounds_toArray, List.set_cons_zero, List.set_cons_succ])
          refine anyH_skip (i := 9) rfl (by kernel_rfl) (by kernel_rfl) (by kernel_rfl) (fun _ _ _ h => h) (by rfl) (by assumption) ?_
          (try simp only [Act.put, List.setIfInBounds_toArray, List.set_cons_zero, List.set_cons_succ])
          refine anyH_take (i := 10) (v := ?_) rfl (by kernel_rfl) (by kernel_rfl) (by kernel_rfl) (fun _ _ _ h => h) (by rfl) (by assumption) ?_ ?_
          rotate_left
          · intro w hSw
            go_simp
            (try with_reducible rfl)
          (try simp only [Act.put, List.setIfInBounds_toArray, List.set_cons_zero, List.set_cons_succ])
          refine anyH_take (i := 11) (v := ?_) rfl (by kernel_rfl) (by kernel_rfl) (by kernel_rfl) (fun _ _ _ h => h) (by rfl) (by assumption) ?_ ?_
          rotate_left
          · intro w hSw
            go_simp
            (try with_reducible rfl)
          (try simp only [Act.put, List.setIfInBounds_toArray, List.set_cons_zero, List.set_cons_succ])
          refine anyH_take (i := 12) (v := ?_) rfl (by kernel_rfl) (by kernel_rfl) (by kernel_rfl) (fun _ _ _ h => h) (by rfl) (by assumption) ?_ ?_
          rotate_left
          · intro w hSw
            go_simp
            (try with_reducible rfl)
          (try simp only [Act.put, List.setIfInBounds_toArray, List.set_cons_zero, List.set_cons_succ])
          refine anyH_take (i := 13) (v := ?_) rfl (by kernel_rfl) (by kernel_rfl) (by kernel_rfl) (fun _ _ _ h => h) (by rfl) (by assumption) ?_ ?_
          rotate_left
          · intro w hSw
            go_simp
            (try with_reducible rfl)
          (try simp only [Act.put, List.setIfInBounds_toArray, List.set_cons_zero, List.set_cons_succ])
          refine anyH_take (i := 14) (v := ?_) rfl (by kernel_rfl) (by kernel_rfl) (by kernel_rfl) (fun _ _ _ h => h) (by rfl) (by assumption) ?_ ?_
          rotate_left
          · intro w hSw
            obtain ⟨k0, k1, k2, l0, l1, l2, l3, _⟩ := hSw
            go_simp
            (try with_reducible rfl)
          (try simp only [Act.put, List.setIfInBounds_toArray, List.set_cons_zero, List.set_cons_succ])
          refine anyH_take (i := 15) (v := ?_) rfl (by kernel_rfl) (by kernel_rfl) (by kernel_rfl) (fun _ _ _ h => h) (by rfl) (by assumption) ?_ ?_
          rotate_left
          · intro w hSw
            go_simp
            (try with_reducible rfl)
          (try simp only [Act.put, List.setIfInBounds_toArray, List.set_cons_zero, List.set_cons_succ])
          refine anyH_skip (i := 16) rfl (by kernel_rfl) (by kernel_rfl) (by kernel_rfl) (fun _ _ _ h => h) (by rfl) (by assumption) ?_
          (try simp only [Act.put, List.setIfInBounds_toArray, List.set_cons_zero, List.set_cons_succ])
          refine anyH_skip (i := 17) rfl (by kernel_rfl) (by kernel_rfl) (by kernel_rfl) (fun _ _ _ h => h) (by rfl) (by assumption) ?_
          (try simp only [Act.put, List.setIfInBounds_toArray, List.set_cons_zero, List.set_cons_succ])
          refine anyH_skip (i := 18) rfl (by kernel_rfl) (by kernel_rfl) (by kernel_rfl) (fun _ _ _ h => h) (by rfl) (by assumption) ?_
          (try simp only [Act.put, List.setIfInBounds_toArray, List.set_cons_zero, List.set_cons_succ])
          refine anyH_skip (i := 19) rfl (by kernel_rfl) (by kernel_rfl) (by kernel_rfl) (fun _ _ _ h => h) (by rfl) (by assumption) ?_
          (try simp only [Act.put, List.setIfInBounds_toArray, List.set_cons_zero, List.set_cons_succ])
          refine anyH_skip (i := 20) rfl (by kernel_rfl) (by kernel_rfl) (by kernel_rfl) (fun _ _ _ h => h) (by rfl) (by assumption) ?_
          (try simp only [Act.put, List.setIfInBounds_toArray, List.set_cons_zero, List.set_cons_succ])
          refine anyH_take (i := 21) (v := ?_) rfl (by kernel_rfl) (by kernel_rfl) (by kernel_rfl) (fun _ _ _ h => h) (by rfl) (by assumption) ?_ ?_
          rotate_left
          · intro w hSw
            go_simp
            (try with_reducible rfl)
          (try simp only [Act.put, List.setIfInBounds_toArray, List.set_cons_zero, List.set_cons_succ])
          refine anyH_take (i := 22) (v := ?_) rfl (by kernel_rfl) (by kernel_rfl) (by kernel_rfl) (fun _ _ _ h => h) (by rfl) (by assumption) ?_ ?_
          rotate_left
          · intro w hSw
            go_simp
            (try with_reducible rfl)
          (try simp only [Act.put, List.setIfInBounds_toArray, List.set_cons_zero, List.set_cons_succ])
          refine wpAnyH_done (by kernel_rfl) ?_ _
          obtain ⟨_, _, _, _, _, _, _, hk⟩ := hHeld
          have hUx := keeps_keep hU5 hk
          have hCx := ctlIn_keep hC5 hk
          obtain ⟨⟨_, _, _⟩, ⟨_, _, _⟩, ⟨_, _, _⟩⟩ := keeps_out hUx
          obtain ⟨_, _, _, _⟩ := ctlIn_out hCx
          clear hk
          rcases f0 with ⟨rfl, rfl⟩ | ⟨rfl, rfl⟩
          all_goals
            go_wp2_with (first | (go_at_call 11; (first | (with_reducible refine (N5.go _).mono ?_) | (with_reducible refine (N6.go _).mono ?_)); rintro e w5 ⟨rfl, hk⟩; have hUx := keeps_keep (by assumption) hk; have hCx := ctlIn_keep (by assumption) hk; obtain ⟨⟨_, _, _⟩, ⟨_, _, _⟩, ⟨_, _, _⟩⟩ := keeps_out hUx; obtain ⟨_, _, _, _⟩ := ctlIn_out hCx))
            go_roundw
            all_goals first | (simp [intOf]; omega) | exact ⟨n + 1, by omega, by go_num, by assumption⟩
        exact AllReadyH.nil
    · have hK := keeps_kept hU
      have A := all_kept
      have M0 : MayIs true true true 0 false false false false false false false := may_is rfl
      have M4 : MayIs true true true 4 false false false false false false false := may_is rfl
      have HA := Lib.hid A
      clear A hU
      go_wp2_with (first | (go_at_call 17; refine (HA.out _).mono ?_; rintro e w5 ⟨rfl, hk⟩; have hKx := Kept.step (w := w) hk (by assumption)) | (go_at_call 11; (first | (with_reducible refine (M0.go _).mono ?_) | (with_reducible refine (M4.go _).mono ?_)); rintro e w5 ⟨rfl, hk⟩; have hKx := Kept.step (w := w) hk (by assumption)))
      go_ret
      exact ⟨rfl, by assumption⟩
end Go.Proofs.Ytdkpahlkgdkloaa
