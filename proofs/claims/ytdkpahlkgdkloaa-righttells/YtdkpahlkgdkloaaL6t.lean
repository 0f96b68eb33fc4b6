/- The walk of RightTells. -/
import Derived.Test.YtdkpahlkgdkloaaL6u
import Derived.Test.YtdkpahlkgdkloaaL6o
import Derived.Test.YtdkpahlkgdkloaaGs
import Derived.Test.YtdkpahlkgdkloaaGr
import Derived.Test.YtdkpahlkgdkloaaGt
import Derived.Deep.RegionHeld3
namespace Go.Proofs.Ytdkpahlkgdkloaa
set_option linter.unusedVariables false
set_option linter.unusedSimpArgs false
open Go.ChangeShapes Go.WideShapes Go.ChangeAt Go.RowKit Go.Joins
attribute [local go_sem ↓] Go.wp_at_zero Go.wp_at_succ

/-- two rights lie in blocks h, h + 1, an access in block g; nothing that was there has turned -/
def Tells (w wr : World) (g h : Nat) (a b c a' b' c' : Bool) (k : Int) (u e : Bool) : Prop :=
  RgtAt wr h a b c ∧ RgtAt wr (h + 1) a' b' c' ∧ AccAt wr g k u e ∧ g < wr.heap.size ∧ h + 1 < wr.heap.size ∧ Kept w wr
theorem tells_keep {w w1 w2 : World} {g h : Nat} {a b c a' b' c' : Bool} {k : Int} {u e : Bool} (H : Tells w w1 g h a b c a' b' c' k u e) (hk : Kept w1 w2) : Tells w w2 g h a b c a' b' c' k u e := by
  obtain ⟨h1, h2, h3, h4, h5, h6⟩ := H
  have hs := hk.size
  exact ⟨rgt_keep h1 (by omega) hk, rgt_keep h2 (by omega) hk, acc_keep h3 (by omega) hk, by omega, by omega, Kept.step hk h6⟩

/-- what the region of a round reads -/
theorem tell_and {w w1 w2 : World} {g h f : Nat} {a b c a' b' c' : Bool} {k : Int} {u e b0 b1 b2 b3 : Bool} (H : Tells w w1 g h a b c a' b' c' k u e) (hc : CtlIn w1 f b0 b1 b2 b3) (hk : Kept w1 w2) :
    w2.cell? ⟨h, 0, none⟩ = some (.bool a) ∧ w2.cell? ⟨h, 1, none⟩ = some (.bool b) ∧ w2.cell? ⟨h, 2, none⟩ = some (.bool c) ∧ w2.cell? ⟨g, 0, none⟩ = some (.int .i64 k) ∧ w2.cell? ⟨g, 1, none⟩ = some (.bool u) ∧ w2.cell? ⟨g, 2, none⟩ = some (.bool e) ∧ w2.cell? ⟨f, 0, none⟩ = some (.bool b0) ∧ w2.cell? ⟨f, 1, none⟩ = some (.bool b1) ∧ w2.cell? ⟨f, 2, none⟩ = some (.bool b2) ∧ w2.cell? ⟨f, 3, none⟩ = some (.bool b3) ∧ Kept w1 w2 := by
  obtain ⟨⟨h0, h1, h2⟩, _, ⟨g0, g1, g2⟩, _⟩ := tells_keep H hk
  obtain ⟨⟨c0, c1, c2, c3⟩, _⟩ := ctlIn_keep hc hk
  exact ⟨h0, h1, h2, g0, g1, g2, c0, c1, c2, c3, hk⟩
theorem tell_step {w w1 w2 w3 : World} {g h f : Nat} {a b c a' b' c' : Bool} {k : Int} {u e b0 b1 b2 b3 : Bool} (H : Tells w w1 g h a b c a' b' c' k u e) (hc : CtlIn w1 f b0 b1 b2 b3) (hk : Kept w2 w3)
    (hs : w2.cell? ⟨h, 0, none⟩ = some (.bool a) ∧ w2.cell? ⟨h, 1, none⟩ = some (.bool b) ∧ w2.cell? ⟨h, 2, none⟩ = some (.bool c) ∧ w2.cell? ⟨g, 0, none⟩ = some (.int .i64 k) ∧ w2.cell? ⟨g, 1, none⟩ = some (.bool u) ∧ w2.cell? ⟨g, 2, none⟩ = some (.bool e) ∧ w2.cell? ⟨f, 0, none⟩ = some (.bool b0) ∧ w2.cell? ⟨f, 1, none⟩ = some (.bool b1) ∧ w2.cell? ⟨f, 2, none⟩ = some (.bool b2) ∧ w2.cell? ⟨f, 3, none⟩ = some (.bool b3) ∧ Kept w1 w2) :
    w3.cell? ⟨h, 0, none⟩ = some (.bool a) ∧ w3.cell? ⟨h, 1, none⟩ = some (.bool b) ∧ w3.cell? ⟨h, 2, none⟩ = some (.bool c) ∧ w3.cell? ⟨g, 0, none⟩ = some (.int .i64 k) ∧ w3.cell? ⟨g, 1, none⟩ = some (.bool u) ∧ w3.cell? ⟨g, 2, none⟩ = some (.bool e) ∧ w3.cell? ⟨f, 0, none⟩ = some (.bool b0) ∧ w3.cell? ⟨f, 1, none⟩ = some (.bool b1) ∧ w3.cell? ⟨f, 2, none⟩ = some (.bool b2) ∧ w3.cell? ⟨f, 3, none⟩ = some (.bool b3) ∧ Kept w1 w3 :=
  tell_and H hc (Kept.step hk hs.2.2.2.2.2.2.2.2.2.2)

/-- the box of two rights, the box of an access, and what was made behind them -/
theorem tell_boxes {w w1 : World} {a b c a' b' c' u e : Bool} {k : Int} {t1 t2 : TypeId}
    (hb : Below ((w.alloc (.cells #[.bool a, .bool b, .bool c, .bool a', .bool b', .bool c'] t1)).alloc (.cells #[.int .i64 k, .bool u, .bool e] t2)).heap.size ((w.alloc (.cells #[.bool a, .bool b, .bool c, .bool a', .bool b', .bool c'] t1)).alloc (.cells #[.int .i64 k, .bool u, .bool e] t2)) w1) :
    (w1.cell? ⟨w.heap.size, 0, none⟩ = some (.bool a) ∧ w1.cell? ⟨w.heap.size, 1, none⟩ = some (.bool b) ∧ w1.cell? ⟨w.heap.size, 2, none⟩ = some (.bool c) ∧ w1.cell? ⟨w.heap.size, 3, none⟩ = some (.bool a') ∧ w1.cell? ⟨w.heap.size, 4, none⟩ = some (.bool b') ∧ w1.cell? ⟨w.heap.size, 5, none⟩ = some (.bool c')) ∧
    AccAt w1 (w.heap.size + 1) k u e ∧ w.heap.size + 1 < w1.heap.size ∧ Kept w w1 := by
  have e2 : ∀ o o', ((w.alloc o).alloc o').heap.size = w.heap.size + 2 := fun o o' => by simp
  have hk : Kept (w.alloc (.cells #[.bool a, .bool b, .bool c, .bool a', .bool b', .bool c'] t1)) w1 := Kept.step hb (kept_alloc _ _)
  have hs : w.heap.size < (w.alloc (.cells #[.bool a, .bool b, .bool c, .bool a', .bool b', .bool c'] t1)).heap.size := by simp
  have hz := hb.size
  rw [e2] at hz
  refine ⟨⟨hk.cell (by simp) hs, hk.cell (by simp) hs, hk.cell (by simp) hs, hk.cell (by simp) hs, hk.cell (by simp) hs, hk.cell (by simp) hs⟩, ?_, by omega, Kept.step hk (kept_alloc _ _)⟩
  have h := acc_new (w.alloc (.cells #[.bool a, .bool b, .bool c, .bool a', .bool b', .bool c'] t1)) k u e t2
  rw [size_alloc'] at h
  exact acc_keep h (by rw [e2]; omega) hb

theorem tell_new {w w1 : World} {g : Nat} (a b c a' b' c' : Bool) {k : Int} {u e : Bool} (t : TypeId) (hA : AccAt w1 g k u e) (hg : g < w1.heap.size) (hk : Kept w w1) :
    Tells w ((w1.alloc (.cells #[.bool a, .bool b, .bool c] t)).alloc (.cells #[.bool a', .bool b', .bool c'] t)) g w1.heap.size a b c a' b' c' k u e := by
  have h2 := rgt_new (w1.alloc (.cells #[.bool a, .bool b, .bool c] t)) a' b' c' t
  rw [size_alloc'] at h2
  exact ⟨rgt_keep (rgt_new _ _ _ _ _) (by simp) (kept_alloc _ _), h2, acc_keep (acc_keep hA hg (kept_alloc _ _)) (by simp; omega) (kept_alloc _ _), by simp; omega, by simp, Kept.step (kept_alloc _ _) (Kept.step (kept_alloc _ _) hk)⟩

set_option maxRecDepth 100000 in
set_option maxHeartbeats 3200000 in
theorem rightTells_walk (a b c a' b' c' : Bool) (x : Int) (k : Int) (u ac : Bool) (w : World) (hx : W64 x) :
    Calls Try.prog 3 #[.agg #[.bool a, .bool b, .bool c, .bool a', .bool b', .bool c'], .int .u64 x, accV k u ac] w fun e w' => e = .returned (.bool true) ∧ Below w.heap.size w w' := by
  go_enter Try.func3, Try.ntmps3
  go_wp2_with fail
  refine (awake6_any _).mono ?_
  rintro e w1 ⟨rfl, hb1⟩
  obtain ⟨⟨c0, c1, c2, c3, c4, c5⟩, A1, lt1, K1⟩ := tell_boxes hb1
  have T1 := tell_new a b c a' b' c' 23 A1 lt1 K1
  have lt2 : w.heap.size < w1.heap.size := by omega
  clear hb1 A1 K1
  go_upto_region 4 with fail
  generalize (w1.alloc (.cells #[.bool a, .bool b, .bool c] 23)).alloc (.cells #[.bool a', .bool b', .bool c'] 23) = w2 at *
  clear c0 c1 c2 c3 c4 c5
  go_wp2
  go_loopw [10] (fun i wr => ∃ n : Nat, n ≤ 16 ∧ i = .int .i64 n ∧ Tells w wr (w.heap.size + 1) w1.heap.size a b c a' b' c' k u ac) (fun i _ => (16 - intOf i).toNat)
  case atStart => exact ⟨0, by omega, rfl, T1⟩
  case round =>
    obtain ⟨n, hn, rfl, hT⟩ := hrel
    clear T1
    by_cases hl : n < 16
    · obtain ⟨b0, b1, b2, b3, C0⟩ := ctl_some n hl
      have C := Lib.hid C0
      clear C0
      go_wp2_with fail
      refine (C.out _).mono ?_
      rintro e w3 ⟨rfl, hb3⟩
      have hT3 := tells_keep (tells_keep hT hb3) (kept_alloc _ (.cells #[.bool b0, .bool b1, .bool b2, .bool b3] 30))
      have hC3 := ctlIn_new w3 b0 b1 b2 b3 30
      clear hb3 hT
      go_upto_region 8 with fail
      generalize w3.alloc (.cells #[.bool b0, .bool b1, .bool b2, .bool b3] 30) = w4 at *
      go_region_held3 (fun w5 => w5.cell? ⟨w1.heap.size, 0, none⟩ = some (.bool a) ∧ w5.cell? ⟨w1.heap.size, 1, none⟩ = some (.bool b) ∧ w5.cell? ⟨w1.heap.size, 2, none⟩ = some (.bool c) ∧ w5.cell? ⟨w.heap.size + 1, 0, none⟩ = some (.int .i64 k) ∧ w5.cell? ⟨w.heap.size + 1, 1, none⟩ = some (.bool u) ∧ w5.cell? ⟨w.heap.size + 1, 2, none⟩ = some (.bool ac) ∧ w5.cell? ⟨w3.heap.size, 0, none⟩ = some (.bool b0) ∧ w5.cell? ⟨w3.heap.size, 1, none⟩ = some (.bool b1) ∧ w5.cell? ⟨w3.heap.size, 2, none⟩ = some (.bool b2) ∧ w5.cell? ⟨w3.heap.size, 3, none⟩ = some (.bool b3) ∧ Kept w4 w5)
        (first | assumption | exact tell_and hT3 hC3 (Kept.drew0 _) | exact tell_step hT3 hC3 (by assumption) (by assumption))
        (first | (go_at_call 11; refine (calls_kept (may_any _ _ _ _ _ _ _ _ _ _ _)).mono ?_; rintro e w5 ⟨rfl, hb5⟩) | (go_at_call 12; refine (calls_kept (rmay_any _ _ _ _ _ _ _ _ _ _ _)).mono ?_; rintro e w5 ⟨rfl, hb5⟩))
      all_goals go_wp2
      all_goals go_roundw
      all_goals first | (simp [intOf]; omega) | (rename_i hH; exact ⟨n + 1, by omega, by go_num, tells_keep hT3 hH.2.2.2.2.2.2.2.2.2.2⟩)
    · obtain ⟨R, Q, _, _, ltw, KK⟩ := hT
      have R4 := Lib.hid R
      have Q4 := Lib.hid Q
      have K4 := Lib.hid KK
      have lt0 : w1.heap.size < wr.heap.size := by omega
      clear R Q KK
      go_wp2
      go_region_held3 (fun w5 => w5.cell? ⟨w1.heap.size, 0, none⟩ = some (.bool a) ∧ w5.cell? ⟨w1.heap.size, 1, none⟩ = some (.bool b) ∧ w5.cell? ⟨w1.heap.size, 2, none⟩ = some (.bool c) ∧ w5.cell? ⟨w1.heap.size + 1, 0, none⟩ = some (.bool a') ∧ w5.cell? ⟨w1.heap.size + 1, 1, none⟩ = some (.bool b') ∧ w5.cell? ⟨w1.heap.size + 1, 2, none⟩ = some (.bool c') ∧ Kept wr w5)
        (first | assumption | exact two_and R4.out Q4.out lt0 ltw (Kept.drew0 _) | exact two_step R4.out Q4.out lt0 ltw (by assumption) (by assumption))
        (first | (go_at_call 17; refine (all_kept _).mono ?_; rintro e w5 ⟨rfl, hb5⟩) | (go_at_call 13; refine (calls_kept (and_any _ _ _ _ _)).mono ?_; rintro e w5 ⟨rfl, hb5⟩) | (go_at_call 14; refine (calls_kept (rand_any _ _ _ _ _ hx)).mono ?_; rintro e w5 ⟨rfl, hb5⟩) | (go_at_call 15; refine (calls_kept (least_any _ _ _ _ _ _ _)).mono ?_; rintro e w5 ⟨rfl, hb5⟩) | (go_at_call 16; refine (calls_kept (rleast_any _ _ _ _ _ _ _)).mono ?_; rintro e w5 ⟨rfl, hb5⟩))
      all_goals go_wp2
      all_goals go_ret
      all_goals (rename_i hH; exact ⟨rfl, Kept.step hH.2.2.2.2.2.2 K4.out⟩)
end Go.Proofs.Ytdkpahlkgdkloaa
