/- The walk of CacheNobody. -/
import Derived.Test.YtefllfoilkbboaaGCrCsCt
namespace Go.Proofs.Ytefllfoilkbboaa
set_option linter.unusedVariables false
set_option linter.unusedSimpArgs false
open Go.ChangeShapes Go.WideShapes Go.ChangeAt Go.RowKit Go.Joins

set_option maxRecDepth 100000 in
set_option maxHeartbeats 8000000 in
theorem cacheNobody_walk (kd pk p q t f m : Int) (x1 x2 x3 x4 : Bool) (w : World) (hk : OkK (p, q, t)) (hpk : I64 pk) :
    Calls Try.prog 8 #[.agg #[.int .i64 kd, .int .i64 pk, .int .i64 p, .int .i64 q, .int .u64 t, .int .u64 f, .bool x1, .bool x2, .bool x3, .bool x4, .int .u8 m]] w fun e w' => e = .returned (.bool true) ∧ Below w.heap.size w w' := by
  have HK := Lib.hid hk
  have HPK := Lib.hid hpk
  have H0 := Lib.hid ((Mine.start w).new (b := w.heap.size) rfl #[.int .i64 kd, .int .i64 pk, .int .i64 p, .int .i64 q, .int .u64 t, .int .u64 f, .bool x1, .bool x2, .bool x3, .bool x4, .int .u8 m] 40)
  clear hk hpk
  go_enter Try.func8, Try.ntmps8
  go_upto_region 1 with fail
  generalize hw0 : w.alloc _ = w0
  have H1 := Lib.hid (H0.out.world hw0)
  clear hw0 H0
  go_upto_region 3 with (go_at_call 9; refine (awake10_any _).mono ?_; rintro e w1 ⟨rfl, hb1⟩; have H2 := Lib.hid (H1.out.quiet hb1); clear hb1 H1)
  obtain ⟨d0, d1, d2, d3, d4, d5, d6, d7, d8, d9, d10⟩ := (H2.out.at_ 0 rfl).c11
  go_upto_region 4 with (go_at_call 19; refine (putC_nil p q t f m pk x1 x2 x3 x4 _).mono ?_; rintro e w2 ⟨rfl, hb2⟩; have H3 := Lib.hid (H2.out.quiet hb2); clear hb2 H2 d0 d1 d2 d3 d4 d5 d6 d7 d8 d9 d10)
  obtain ⟨d0, d1, d2, d3, d4, d5, d6, d7, d8, d9, d10⟩ := (H3.out.at_ 0 rfl).c11
  go_upto_region 5 with (go_at_call 20; refine (dropC_nil p q t _).mono ?_; rintro e w3 ⟨rfl, hb3⟩; have H4 := Lib.hid (H3.out.quiet hb3); clear hb3 H3 d0 d1 d2 d3 d4 d5 d6 d7 d8 d9 d10)
  obtain ⟨d0, d1, d2, d3, d4, d5, d6, d7, d8, d9, d10⟩ := (H4.out.at_ 0 rfl).c11
  go_upto_region 9 with (first | (go_at_call 21; refine (dropOfC_nil p _).mono ?_; rintro e w' ⟨rfl, rfl⟩) | (go_at_call 24; refine (clearC_nil _).mono ?_; rintro e w' ⟨rfl, rfl⟩) | (go_at_call 22; refine (evictC_nil pk _).mono ?_; rintro e w' ⟨rfl, rfl⟩) | (go_at_call 14; refine (getC_nil p q t _).mono ?_; rintro e w4 ⟨rfl, hb4⟩; have H5 := Lib.hid ((H4.out.quiet hb4).quiet (below_alloc1 _ (.cells #[.int .u64 0, .bool false, .bool false, .bool false, .bool false, .int .u8 0] 38))); clear hb4 H4 d0 d1 d2 d3 d4 d5 d6 d7 d8 d9 d10))
  generalize hw5 : w4.alloc _ = w5 at H5 ⊢
  clear hw5
  go_upto_region 10 with (go_at_call 10; refine (newC_any _ _).mono ?_; rw [show roomF (-1) = 0 from rfl]; rintro e w6 ⟨rfl, hc6, hb6⟩; have H6 := Lib.hid (LawC.first H5.out hc6 hb6); clear hc6 hb6 H5)
  obtain ⟨cn, hcn⟩ : ∃ c, w5.heap.size + 1 = c := ⟨_, rfl⟩
  rw [hcn] at H6 ⊢
  clear hcn
  obtain ⟨G, hG⟩ : ∃ G, (fun i => From w5.heap.size i ∧ i < w6.heap.size) = G := ⟨_, rfl⟩
  rw [hG] at H6
  clear hG
  go_upto_region 13 with (go_at_call 10; refine (newC_any _ _).mono ?_; rw [show roomF 1000 = 64 from rfl]; rintro e w7 ⟨rfl, hc7, hb7⟩; have H7 := Lib.hid (H6.out.quiet hb7); have HM : Hid (Cac w7 (From w6.heap.size) (w6.heap.size + 1) 64 []) := Lib.hid hc7; have HG : Hid (∀ i, G i → i < w6.heap.size) := Lib.hid H6.out.hold.lt; clear hc7 hb7 H6)
  obtain ⟨cm, hcm⟩ : ∃ c, w6.heap.size + 1 = c := ⟨_, rfl⟩
  rw [hcm] at HM ⊢
  clear hcm
  obtain ⟨d0, d1, d2, d3, d4, d5, d6, d7, d8, d9, d10⟩ := (H7.out.at_ 0 rfl).c11
  go_upto_region 14 with (go_at_call 19; refine (putC_any H7.out.wk.cac p q t f m pk x1 x2 x3 x4 HK.out HPK.out).mono ?_; rw [show putK 0 [] (p, q, t) (f, x1, x2, x3, x4, m) pk = [] from rfl]; rintro e w8 ⟨rfl, hc8, ht8⟩; have H8 := Lib.hid (H7.out.did hc8 ht8); have HM8 : Hid (Cac w8 (From w6.heap.size) cm 64 []) := Lib.hid (HM.out.turned ht8 (fun i _ hf hg => Nat.lt_irrefl _ (Nat.lt_of_lt_of_le (HG.out i hg) hf))); clear hc8 ht8 H7 HM HG d0 d1 d2 d3 d4 d5 d6 d7 d8 d9 d10)
  go_wp2_with (first | (go_at_call 13; refine (keysC_nil _).mono ?_; rintro e w' ⟨rfl, rfl⟩) | (go_at_call 17; refine (roomC_nil _).mono ?_; rintro e w' ⟨rfl, rfl⟩) | (go_at_call 17; refine (roomC_any H8.out.wk.cac).mono ?_; rintro e w' ⟨rfl, rfl⟩) | (go_at_call 13; refine (keysC_any H8.out.wk.cac).mono ?_; rw [show ([] : List Pr).length = 0 from rfl]; rintro e w9 ⟨A9, c9, rfl, hk9, hb9⟩; have H9 := Lib.hid (H8.out.quiet hb9); have HM9 := Lib.hid (HM8.out.kept hb9); clear hk9 hb9 H8 HM8) | (go_at_call 17; refine (roomC_any HM9.out).mono ?_; rintro e w' ⟨rfl, rfl⟩))
  go_ret
  exact ⟨rfl, H9.out.below⟩
end Go.Proofs.Ytefllfoilkbboaa
