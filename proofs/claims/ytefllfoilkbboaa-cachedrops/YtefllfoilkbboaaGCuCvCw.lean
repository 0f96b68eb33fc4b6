/- Several texts of ours in one: Cu, Cv, Cw. -/
import Derived.Test.YtefllfoilkbboaaGCrCsCt
import Derived.Deep.DrawnRows
/- Layer 10: do, kind by kind. -/
namespace Go.Proofs.Ytefllfoilkbboaa
set_option linter.unusedVariables false
set_option linter.unusedSimpArgs false
open Go.ChangeShapes Go.WideShapes Go.ChangeAt Go.RowKit Go.Joins

section
variable {w w1 : World} {F : Nat → Prop} {c R b : Nat} {L : List Pr} {v : Value} {M : List Pr} {S' kd pk p q t f m : Int} {x1 x2 x3 x4 : Bool}
theorem DoM.kind (h : DoM w w1 F c R L b v M S' kd pk p q t f m x1 x2 x3 x4) : w1.cell? ⟨b + 1, 0, none⟩ = some (.int .i64 kd) ∧ b + 1 < w1.heap.size := by
  obtain ⟨y0, y1, G, hL⟩ := h.law
  exact ⟨(hL.at_ 1 rfl).c11.1, (hL.at_ 1 rfl).lt⟩
theorem rdropOf_do (h : DoS w w1 F c R L b v M S' kd pk p q t f m x1 x2 x3 x4) (hM : M.length ≤ 900) (a : Int) :
    Calls Try.prog 28 #[.agg #[v, .int .i64 S'], .int .i64 a] w1 fun e w2 => ∃ A d, e = .returned (.agg #[.slice A (ofK M a).length d, .int .i64 S']) ∧
      Hid (DoN w w2 F c R L b v (.slice A (ofK M a).length d) (ofK M a) S' kd pk p q t f m x1 x2 x3 x4) ∧ DoS w w2 F c R L b v M S' kd pk p q t f m x1 x2 x3 x4 ∧
      ∃ y0 y1, w2.cell? ⟨b + 1 + 1, 0, none⟩ = some y0 ∧ w2.cell? ⟨b + 1 + 1, 1, none⟩ = some y1 ∧ w2.frozen? ⟨b + 1 + 1, 0, none⟩ = false ∧ w2.frozen? ⟨b + 1 + 1, 1, none⟩ = false :=
  (rdropOf_any w1 v M S' a (doS_m h).pairs (by omega)).mono fun _ _ ⟨A, d, e, ho, hb⟩ => ⟨A, d, e, (doS_m h).newRow ho.new hb, doS_step h hb, ((doS_m h).quiet hb).res⟩
theorem revict_do (h : DoS w w1 F c R L b v M S' kd pk p q t f m x1 x2 x3 x4) (hM : M.length ≤ 900) (a : Int) (ha : I64 a) :
    Calls Try.prog 29 #[.agg #[v, .int .i64 S'], .int .i64 a] w1 fun e w2 => ∃ A d, e = .returned (.agg #[.slice A (evK M a).length d, .int .i64 S']) ∧
      Hid (DoN w w2 F c R L b v (.slice A (evK M a).length d) (evK M a) S' kd pk p q t f m x1 x2 x3 x4) ∧ DoS w w2 F c R L b v M S' kd pk p q t f m x1 x2 x3 x4 ∧
      ∃ y0 y1, w2.cell? ⟨b + 1 + 1, 0, none⟩ = some y0 ∧ w2.cell? ⟨b + 1 + 1, 1, none⟩ = some y1 ∧ w2.frozen? ⟨b + 1 + 1, 0, none⟩ = false ∧ w2.frozen? ⟨b + 1 + 1, 1, none⟩ = false :=
  (revictC_any w1 v M S' a (doS_m h).pairs (by omega) ha).mono fun _ _ ⟨A, d, e, hn, hb⟩ => ⟨A, d, e, (doS_m h).newRow hn hb, doS_step h hb, ((doS_m h).quiet hb).res⟩
/-- the document's cache has no lines more -/
theorem DoM.fin4 (h : DoM w w1 F c R L b v M S' kd pk p q t f m x1 x2 x3 x4) :
    DoE w (((w1.setCell ⟨b, 0, none⟩ (.slice none 0 0)).setCell ⟨b + 1 + 1, 0, none⟩ (.slice none 0 0)).setCell ⟨b + 1 + 1, 1, none⟩ (.int .i64 S')) F c R L (.slice none 0 0) [] := by
  obtain ⟨y0, y1, G, hL⟩ := h.law
  have h5 := hL.put 2 rfl (turn1 w1 b 0 (.slice none 0 0)) ((hL.at_ 2 rfl).set1 0 _) (by rfl)
  have h6 := h5.put 0 rfl (turnB2 _ (b + 1 + 1) (.slice none 0 0) (.int .i64 S')) (setB2 (h5.at_ 0 rfl) _ _) (by rfl)
  exact ⟨PairsOwn.nil _ _, G, h6.wk, by simp [Value.ownBlock]⟩

set_option maxRecDepth 100000 in
set_option maxHeartbeats 3200000 in
theorem do_put (h : Cac w F c R L) (hx : PairsOwn w 0 v M) (hoff : ∀ i, v.ownBlock = some i → ¬ F i) (hM : M.length ≤ 900) (S : Nat) (pk p q t f m : Int) (x1 x2 x3 x4 : Bool) (hk : OkK (p, q, t)) (hpk : I64 pk) :
    Calls Try.prog 12 #[.pointer (some ⟨c, 0, none⟩), .agg #[v, .int .i64 S], .agg #[.int .i64 1, .int .i64 pk, .int .i64 p, .int .i64 q, .int .u64 t, .int .u64 f, .bool x1, .bool x2, .bool x3, .bool x4, .int .u8 m]] w fun e w' => ∃ A d, e = .returned (.tuple #[.agg #[.slice A (putK S M (p, q, t) (f, x1, x2, x3, x4, m) pk).length d, .int .i64 S], .bool true]) ∧ DoE w w' F c R (putK R L (p, q, t) (f, x1, x2, x3, x4, m) pk) (.slice A (putK S M (p, q, t) (f, x1, x2, x3, x4, m) pk).length d) (putK S M (p, q, t) (f, x1, x2, x3, x4, m) pk) := by
  obtain ⟨A, cap, rfl⟩ := hx.form
  have H0 := Lib.hid (DoM.start h hx hoff S (1) pk p q t f m x1 x2 x3 x4)
  obtain ⟨n, hn⟩ : ∃ n, M.length = n := ⟨_, rfl⟩
  rw [hn] at H0 hM ⊢
  have HK := Lib.hid hk
  have HPK := Lib.hid hpk
  have hP : ∀ w1, DoS w w1 F c R (putK R L (p, q, t) (f, x1, x2, x3, x4, m) pk) w.heap.size (.slice A n cap) M S 1 pk p q t f m x1 x2 x3 x4 → _ := fun w1 hs => rput_do hs (by rw [hn]; exact hM) hpk
  generalize putK S M (p, q, t) (f, x1, x2, x3, x4, m) pk = D at hP ⊢
  generalize D.length = dn at hP ⊢
  have HP := Lib.hid hP
  clear hP hk hpk hn
  clear h hx hoff
  go_enter Try.func12, Try.ntmps12
  go_upto_region 1 with fail
  generalize hw0 : ((w.alloc _).alloc _).alloc _ = w0
  have H1 : Hid (DoM w w0 F c R L w.heap.size (.slice A n cap) M S (1) pk p q t f m x1 x2 x3 x4) := Lib.hid (by rw [← hw0]; exact H0.out)
  clear hw0 H0
  obtain ⟨d0, _⟩ := H1.out.kind
  obtain ⟨a0, a1, d1, d2, d3, d4, d5, d6, d7, d8, d9, d10, _⟩ := H1.out.s
  obtain ⟨G1, hcac, hgo⟩ := H1.out.cac
  have HC := Lib.hid hcac
  have HG := Lib.hid hgo
  clear hcac hgo
  go_upto_region 4 with (go_at_call 19; refine (putC_any HC.out p q t f m pk x1 x2 x3 x4 HK.out HPK.out).mono ?_; rintro e w3 ⟨rfl, hc3, ht3⟩; have H3 := Lib.hid (HG.out w3 _ hc3 ht3); clear hc3 ht3 HG HC H1)
  clear a0 a1 d0 d1 d2 d3 d4 d5 d6 d7 d8 d9 d10
  have HS := (H3.out.quiet (Kept.drew0 w3)).s
  go_region_held3 (fun w' => w'.cell? ⟨w.heap.size, 0, none⟩ = some (.slice A n cap) ∧ w'.cell? ⟨w.heap.size, 1, none⟩ = some (.int .i64 S) ∧ w'.cell? ⟨w.heap.size + 1, 1, none⟩ = some (.int .i64 pk) ∧ w'.cell? ⟨w.heap.size + 1, 2, none⟩ = some (.int .i64 p) ∧ w'.cell? ⟨w.heap.size + 1, 3, none⟩ = some (.int .i64 q) ∧ w'.cell? ⟨w.heap.size + 1, 4, none⟩ = some (.int .u64 t) ∧ w'.cell? ⟨w.heap.size + 1, 5, none⟩ = some (.int .u64 f) ∧ w'.cell? ⟨w.heap.size + 1, 6, none⟩ = some (.bool x1) ∧ w'.cell? ⟨w.heap.size + 1, 7, none⟩ = some (.bool x2) ∧ w'.cell? ⟨w.heap.size + 1, 8, none⟩ = some (.bool x3) ∧ w'.cell? ⟨w.heap.size + 1, 9, none⟩ = some (.bool x4) ∧ w'.cell? ⟨w.heap.size + 1, 10, none⟩ = some (.int .u8 m) ∧ DoM w w' F c R (putK R L (p, q, t) (f, x1, x2, x3, x4, m) pk) w.heap.size (.slice A n cap) M S 1 pk p q t f m x1 x2 x3 x4)
    (first | assumption | exact HS | exact doS_set (by assumption) _ _)
    (first | (go_at_call 15; refine (real_do (by assumption)).mono ?_; rintro e w4 ⟨rfl, hS4⟩) | (go_at_call 16; refine (lined_do (by assumption)).mono ?_; rintro e w5 ⟨rfl, hS5⟩) | (go_at_call 26; refine (HP.out _ (by assumption)).mono ?_; rintro e w6 ⟨A6, c6, rfl, HN, hS6, y0, y1, r0, r1, f0, f1⟩))
  all_goals
    go_wp2
    refine bodyPost_ret (v := .tuple #[.agg #[.slice A6 dn c6, .int .i64 S], .bool true]) ?_ rfl ⟨A6, c6, rfl, (HN.out.fin _ _).2⟩
    rw [results_cell_tmp rfl]; go_simp

set_option maxRecDepth 100000 in
set_option maxHeartbeats 3200000 in
theorem do_drop (h : Cac w F c R L) (hx : PairsOwn w 0 v M) (hoff : ∀ i, v.ownBlock = some i → ¬ F i) (hM : M.length ≤ 900) (S : Nat) (pk p q t f m : Int) (x1 x2 x3 x4 : Bool)  :
    Calls Try.prog 12 #[.pointer (some ⟨c, 0, none⟩), .agg #[v, .int .i64 S], .agg #[.int .i64 2, .int .i64 pk, .int .i64 p, .int .i64 q, .int .u64 t, .int .u64 f, .bool x1, .bool x2, .bool x3, .bool x4, .int .u8 m]] w fun e w' => ∃ A d, e = .returned (.tuple #[.agg #[.slice A (dropK M (p, q, t)).length d, .int .i64 S], .bool true]) ∧ DoE w w' F c R (dropK L (p, q, t)) (.slice A (dropK M (p, q, t)).length d) (dropK M (p, q, t)) := by
  obtain ⟨A, cap, rfl⟩ := hx.form
  have H0 := Lib.hid (DoM.start h hx hoff S (2) pk p q t f m x1 x2 x3 x4)
  obtain ⟨n, hn⟩ : ∃ n, M.length = n := ⟨_, rfl⟩
  rw [hn] at H0 hM ⊢
  have hP : ∀ w1, DoS w w1 F c R (dropK L (p, q, t)) w.heap.size (.slice A n cap) M S 2 pk p q t f m x1 x2 x3 x4 → _ := fun w1 hs => rdrop_do hs (by rw [hn]; exact hM)
  generalize dropK M (p, q, t) = D at hP ⊢
  generalize D.length = dn at hP ⊢
  have HP := Lib.hid hP
  clear hP hn
  clear h hx hoff
  go_enter Try.func12, Try.ntmps12
  go_upto_region 1 with fail
  generalize hw0 : ((w.alloc _).alloc _).alloc _ = w0
  have H1 : Hid (DoM w w0 F c R L w.heap.size (.slice A n cap) M S (2) pk p q t f m x1 x2 x3 x4) := Lib.hid (by rw [← hw0]; exact H0.out)
  clear hw0 H0
  obtain ⟨d0, _⟩ := H1.out.kind
  obtain ⟨a0, a1, d1, d2, d3, d4, d5, d6, d7, d8, d9, d10, _⟩ := H1.out.s
  obtain ⟨G1, hcac, hgo⟩ := H1.out.cac
  have HC := Lib.hid hcac
  have HG := Lib.hid hgo
  clear hcac hgo
  go_upto_region 7 with (go_at_call 20; refine (dropC_any HC.out p q t).mono ?_; rintro e w3 ⟨rfl, hc3, ht3⟩; have H3 := Lib.hid (HG.out w3 _ hc3 ht3); clear hc3 ht3 HG HC H1)
  clear a0 a1 d0 d1 d2 d3 d4 d5 d6 d7 d8 d9 d10
  have HS := (H3.out.quiet (Kept.drew0 w3)).s
  go_region_held3 (fun w' => w'.cell? ⟨w.heap.size, 0, none⟩ = some (.slice A n cap) ∧ w'.cell? ⟨w.heap.size, 1, none⟩ = some (.int .i64 S) ∧ w'.cell? ⟨w.heap.size + 1, 1, none⟩ = some (.int .i64 pk) ∧ w'.cell? ⟨w.heap.size + 1, 2, none⟩ = some (.int .i64 p) ∧ w'.cell? ⟨w.heap.size + 1, 3, none⟩ = some (.int .i64 q) ∧ w'.cell? ⟨w.heap.size + 1, 4, none⟩ = some (.int .u64 t) ∧ w'.cell? ⟨w.heap.size + 1, 5, none⟩ = some (.int .u64 f) ∧ w'.cell? ⟨w.heap.size + 1, 6, none⟩ = some (.bool x1) ∧ w'.cell? ⟨w.heap.size + 1, 7, none⟩ = some (.bool x2) ∧ w'.cell? ⟨w.heap.size + 1, 8, none⟩ = some (.bool x3) ∧ w'.cell? ⟨w.heap.size + 1, 9, none⟩ = some (.bool x4) ∧ w'.cell? ⟨w.heap.size + 1, 10, none⟩ = some (.int .u8 m) ∧ DoM w w' F c R (dropK L (p, q, t)) w.heap.size (.slice A n cap) M S 2 pk p q t f m x1 x2 x3 x4)
    (first | assumption | exact HS | exact doS_set (by assumption) _ _)
    (first | (go_at_call 15; refine (real_do (by assumption)).mono ?_; rintro e w4 ⟨rfl, hS4⟩) | (go_at_call 27; refine (HP.out _ (by assumption)).mono ?_; rintro e w6 ⟨A6, c6, rfl, HN, hS6, y0, y1, r0, r1, f0, f1⟩))
  all_goals
    go_wp2
    refine bodyPost_ret (v := .tuple #[.agg #[.slice A6 dn c6, .int .i64 S], .bool true]) ?_ rfl ⟨A6, c6, rfl, (HN.out.fin _ _).2⟩
    rw [results_cell_tmp rfl]; go_simp

set_option maxRecDepth 100000 in
set_option maxHeartbeats 3200000 in
theorem do_dropOf (h : Cac w F c R L) (hx : PairsOwn w 0 v M) (hoff : ∀ i, v.ownBlock = some i → ¬ F i) (hM : M.length ≤ 900) (S : Nat) (pk p q t f m : Int) (x1 x2 x3 x4 : Bool)  :
    Calls Try.prog 12 #[.pointer (some ⟨c, 0, none⟩), .agg #[v, .int .i64 S], .agg #[.int .i64 3, .int .i64 pk, .int .i64 p, .int .i64 q, .int .u64 t, .int .u64 f, .bool x1, .bool x2, .bool x3, .bool x4, .int .u8 m]] w fun e w' => ∃ A d, e = .returned (.tuple #[.agg #[.slice A (ofK M p).length d, .int .i64 S], .bool true]) ∧ DoE w w' F c R (ofK L p) (.slice A (ofK M p).length d) (ofK M p) := by
  obtain ⟨A, cap, rfl⟩ := hx.form
  have H0 := Lib.hid (DoM.start h hx hoff S (3) pk p q t f m x1 x2 x3 x4)
  obtain ⟨n, hn⟩ : ∃ n, M.length = n := ⟨_, rfl⟩
  rw [hn] at H0 hM ⊢
  have hP : ∀ w1, DoS w w1 F c R (ofK L p) w.heap.size (.slice A n cap) M S 3 pk p q t f m x1 x2 x3 x4 → _ := fun w1 hs => rdropOf_do hs (by rw [hn]; exact hM) p
  generalize ofK M p = D at hP ⊢
  generalize D.length = dn at hP ⊢
  have HP := Lib.hid hP
  clear hP hn
  clear h hx hoff
  go_enter Try.func12, Try.ntmps12
  go_upto_region 1 with fail
  generalize hw0 : ((w.alloc _).alloc _).alloc _ = w0
  have H1 : Hid (DoM w w0 F c R L w.heap.size (.slice A n cap) M S (3) pk p q t f m x1 x2 x3 x4) := Lib.hid (by rw [← hw0]; exact H0.out)
  clear hw0 H0
  obtain ⟨d0, _⟩ := H1.out.kind
  obtain ⟨a0, a1, d1, d2, d3, d4, d5, d6, d7, d8, d9, d10, _⟩ := H1.out.s
  obtain ⟨G1, hcac, hgo⟩ := H1.out.cac
  have HC := Lib.hid hcac
  have HG := Lib.hid hgo
  clear hcac hgo
  go_upto_region 10 with (go_at_call 21; refine (dropOfC_any HC.out p).mono ?_; rintro e w3 ⟨rfl, hc3, ht3⟩; have H3 := Lib.hid (HG.out w3 _ hc3 ht3); clear hc3 ht3 HG HC H1)
  clear a0 a1 d0 d1 d2 d3 d4 d5 d6 d7 d8 d9 d10
  obtain ⟨a0, a1, d1, d2, d3, d4, d5, d6, d7, d8, d9, d10, _⟩ := H3.out.s
  go_wp2_with (go_at_call 28; refine (HP.out _ H3.out.s).mono ?_; rintro e w6 ⟨A6, c6, rfl, HN, hS6, y0, y1, r0, r1, f0, f1⟩)
  refine bodyPost_ret (v := .tuple #[.agg #[.slice A6 dn c6, .int .i64 S], .bool true]) ?_ rfl ⟨A6, c6, rfl, (HN.out.fin _ _).2⟩
  rw [results_cell_tmp rfl]; go_simp

set_option maxRecDepth 100000 in
set_option maxHeartbeats 3200000 in
theorem do_evict (h : Cac w F c R L) (hx : PairsOwn w 0 v M) (hoff : ∀ i, v.ownBlock = some i → ¬ F i) (hM : M.length ≤ 900) (S : Nat) (pk p q t f m : Int) (x1 x2 x3 x4 : Bool) (hpk : I64 pk) :
    Calls Try.prog 12 #[.pointer (some ⟨c, 0, none⟩), .agg #[v, .int .i64 S], .agg #[.int .i64 5, .int .i64 pk, .int .i64 p, .int .i64 q, .int .u64 t, .int .u64 f, .bool x1, .bool x2, .bool x3, .bool x4, .int .u8 m]] w fun e w' => ∃ A d, e = .returned (.tuple #[.agg #[.slice A (evK M pk).length d, .int .i64 S], .bool true]) ∧ DoE w w' F c R (evK L pk) (.slice A (evK M pk).length d) (evK M pk) := by
  obtain ⟨A, cap, rfl⟩ := hx.form
  have H0 := Lib.hid (DoM.start h hx hoff S (5) pk p q t f m x1 x2 x3 x4)
  obtain ⟨n, hn⟩ : ∃ n, M.length = n := ⟨_, rfl⟩
  rw [hn] at H0 hM ⊢
  have HPK := Lib.hid hpk
  have hP : ∀ w1, DoS w w1 F c R (evK L pk) w.heap.size (.slice A n cap) M S 5 pk p q t f m x1 x2 x3 x4 → _ := fun w1 hs => revict_do hs (by rw [hn]; exact hM) pk hpk
  generalize evK M pk = D at hP ⊢
  generalize D.length = dn at hP ⊢
  have HP := Lib.hid hP
  clear hP hn
  clear hpk
  clear h hx hoff
  go_enter Try.func12, Try.ntmps12
  go_upto_region 1 with fail
  generalize hw0 : ((w.alloc _).alloc _).alloc _ = w0
  have H1 : Hid (DoM w w0 F c R L w.heap.size (.slice A n cap) M S (5) pk p q t f m x1 x2 x3 x4) := Lib.hid (by rw [← hw0]; exact H0.out)
  clear hw0 H0
  obtain ⟨d0, _⟩ := H1.out.kind
  obtain ⟨a0, a1, d1, d2, d3, d4, d5, d6, d7, d8, d9, d10, _⟩ := H1.out.s
  obtain ⟨G1, hcac, hgo⟩ := H1.out.cac
  have HC := Lib.hid hcac
  have HG := Lib.hid hgo
  clear hcac hgo
  go_upto_region 17 with (go_at_call 22; refine (evictC_any HC.out pk HPK.out).mono ?_; rintro e w3 ⟨rfl, hc3, ht3⟩; have H3 := Lib.hid (HG.out w3 _ hc3 ht3); clear hc3 ht3 HG HC H1)
  clear a0 a1 d0 d1 d2 d3 d4 d5 d6 d7 d8 d9 d10
  obtain ⟨a0, a1, d1, d2, d3, d4, d5, d6, d7, d8, d9, d10, _⟩ := H3.out.s
  go_wp2_with (go_at_call 29; refine (HP.out _ H3.out.s).mono ?_; rintro e w6 ⟨A6, c6, rfl, HN, hS6, y0, y1, r0, r1, f0, f1⟩)
  refine bodyPost_ret (v := .tuple #[.agg #[.slice A6 dn c6, .int .i64 S], .bool true]) ?_ rfl ⟨A6, c6, rfl, (HN.out.fin _ _).2⟩
  rw [results_cell_tmp rfl]; go_simp

set_option maxRecDepth 100000 in
set_option maxHeartbeats 3200000 in
theorem do_clear (h : Cac w F c R L) (hx : PairsOwn w 0 v M) (hoff : ∀ i, v.ownBlock = some i → ¬ F i) (hM : M.length ≤ 900) (S : Nat) (pk p q t f m : Int) (x1 x2 x3 x4 : Bool)  :
    Calls Try.prog 12 #[.pointer (some ⟨c, 0, none⟩), .agg #[v, .int .i64 S], .agg #[.int .i64 4, .int .i64 pk, .int .i64 p, .int .i64 q, .int .u64 t, .int .u64 f, .bool x1, .bool x2, .bool x3, .bool x4, .int .u8 m]] w fun e w' => ∃ A d, e = .returned (.tuple #[.agg #[.slice A (([] : List Pr)).length d, .int .i64 S], .bool true]) ∧ DoE w w' F c R (([] : List Pr)) (.slice A (([] : List Pr)).length d) (([] : List Pr)) := by
  obtain ⟨A, cap, rfl⟩ := hx.form
  have H0 := Lib.hid (DoM.start h hx hoff S (4) pk p q t f m x1 x2 x3 x4)
  obtain ⟨n, hn⟩ : ∃ n, M.length = n := ⟨_, rfl⟩
  rw [hn] at H0 hM ⊢
  clear h hx hoff
  go_enter Try.func12, Try.ntmps12
  go_upto_region 1 with fail
  generalize hw0 : ((w.alloc _).alloc _).alloc _ = w0
  have H1 : Hid (DoM w w0 F c R L w.heap.size (.slice A n cap) M S (4) pk p q t f m x1 x2 x3 x4) := Lib.hid (by rw [← hw0]; exact H0.out)
  clear hw0 H0
  obtain ⟨d0, _⟩ := H1.out.kind
  obtain ⟨a0, a1, d1, d2, d3, d4, d5, d6, d7, d8, d9, d10, _⟩ := H1.out.s
  obtain ⟨G1, hcac, hgo⟩ := H1.out.cac
  have HC := Lib.hid hcac
  have HG := Lib.hid hgo
  clear hcac hgo
  go_upto_region 13 with (go_at_call 24; refine (clearC_any HC.out).mono ?_; rintro e w3 ⟨rfl, hc3, ht3⟩; have H3 := Lib.hid (HG.out w3 _ hc3 ht3); clear hc3 ht3 HG HC H1)
  clear a0 a1 d0 d1 d2 d3 d4 d5 d6 d7 d8 d9 d10
  obtain ⟨a0, a1, _⟩ := H3.out.s
  obtain ⟨y0, y1, r0, r1, f0, f1⟩ := H3.out.res
  have z0 : w3.frozen? ⟨w.heap.size, 0, none⟩ = false := by
    obtain ⟨_, _, _, hL⟩ := H3.out.law
    exact (hL.at_ 2 rfl).fz 0
  go_wp2
  refine bodyPost_ret (v := .tuple #[.agg #[.slice none 0 0, .int .i64 S], .bool true]) ?_ rfl ⟨none, 0, rfl, H3.out.fin4⟩
  rw [results_cell_tmp rfl]; go_simp
end
end Go.Proofs.Ytefllfoilkbboaa
/- Layer 10: do, a deed that gets. -/
namespace Go.Proofs.Ytefllfoilkbboaa
set_option linter.unusedVariables false
set_option linter.unusedSimpArgs false
open Go.ChangeShapes Go.WideShapes Go.ChangeAt Go.RowKit Go.Joins

theorem eqlL (f1 m1 f2 m2 : Int) (y1 y2 y3 y4 z1 z2 z3 z4 : Bool) (w : World) : (binOp .eql 49 (.agg #[.int .u64 f1, .bool y1, .bool y2, .bool y3, .bool y4, .int .u8 m1]) (.agg #[.int .u64 f2, .bool z1, .bool z2, .bool z3, .bool z4, .int .u8 m2])).run Try.prog w = .ok (.bool (decide ((f1, y1, y2, y3, y4, m1) = (f2, z1, z2, z3, z4, m2)))) w := by
  have e : (binOp .eql 49 (.agg #[.int .u64 f1, .bool y1, .bool y2, .bool y3, .bool y4, .int .u8 m1]) (.agg #[.int .u64 f2, .bool z1, .bool z2, .bool z3, .bool z4, .int .u8 m2])).run Try.prog w = .ok (.bool (f1 == f2 && ((y1 == z1 && (y2 == z2 && y3 == z3)) && (y4 == z4 && m1 == m2)))) w := by
    have hs : Try.prog.stoodInHeld 49 = false := by kernel_rfl
    have hs2 : Try.prog.stoodInHeld 47 = false := by kernel_rfl
    simp only [binOp]
    simp [Op.equal, Op.maxDepth, run_equalIn_struct w 9999 49 _ _ (by simp [Program.fieldsOf, Try.underlying49]) hs, Program.fieldsOf, Try.underlying49, Op.eqFields, go_sem]
    by_cases h1 : f1 = f2 <;> by_cases h2 : m1 = m2 <;> cases y1 <;> cases z1 <;> cases y2 <;> cases z2 <;> cases y3 <;> cases z3 <;> cases y4 <;> cases z4 <;> simp [h1, h2]
  rw [e]
  congr 2
  by_cases h1 : f1 = f2 <;> by_cases h2 : m1 = m2 <;> cases y1 <;> cases z1 <;> cases y2 <;> cases z2 <;> cases y3 <;> cases z3 <;> cases y4 <;> cases z4 <;> simp [h1, h2]

/-- were the answers the same -/
def ansK (L M : List Pr) (k : Ky) : Bool := decide ((getK L k).getD zL = (getK M k).getD zL) && ((getK L k).isSome == (getK M k).isSome)
theorem ansK_same (L : List Pr) (k : Ky) : ansK L L k = true := by unfold ansK; simp

/-- what do's last region keeps: its boxes, both answers' -/
structure DoG (w w' : World) (F : Nat → Prop) (c R : Nat) (L : List Pr) (b : Nat) (v : Value) (M : List Pr) (S kd pk p q t f m : Int) (x1 x2 x3 x4 : Bool) (n8 : Nat) (o1 : Array Value) (n10 : Nat) (o2 : Array Value) : Prop where
  dom : DoM w w' F c R L b v M S kd pk p q t f m x1 x2 x3 x4
  b8 : Blk w' n8 o1 38
  b10 : Blk w' n10 o2 49
  e8 : n8 ≠ b + 1 + 1
  e10 : n10 ≠ b + 1 + 1
section
variable {w w1 w2 : World} {F : Nat → Prop} {c R b n8 n10 : Nat} {L : List Pr} {v : Value} {M : List Pr} {S' kd pk p q t f m : Int} {x1 x2 x3 x4 : Bool} {o1 o2 : Array Value}
theorem DoG.quiet (h : DoG w w1 F c R L b v M S' kd pk p q t f m x1 x2 x3 x4 n8 o1 n10 o2) (hb : Below w1.heap.size w1 w2) : DoG w w2 F c R L b v M S' kd pk p q t f m x1 x2 x3 x4 n8 o1 n10 o2 := ⟨h.dom.quiet hb, h.b8.below hb, h.b10.below hb, h.e8, h.e10⟩
theorem DoG.set (h : DoG w w1 F c R L b v M S' kd pk p q t f m x1 x2 x3 x4 n8 o1 n10 o2) (u0 u1 : Value) : DoG w ((w1.setCell ⟨b + 1 + 1, 0, none⟩ u0).setCell ⟨b + 1 + 1, 1, none⟩ u1) F c R L b v M S' kd pk p q t f m x1 x2 x3 x4 n8 o1 n10 o2 :=
  ⟨doS_m (doS_set h.dom.s u0 u1), h.b8.turn (turnB2 _ _ _ _) h.e8, h.b10.turn (turnB2 _ _ _ _) h.e10, h.e8, h.e10⟩
end

section
variable {w : World} {F : Nat → Prop} {c R : Nat} {L : List Pr} {v : Value} {M : List Pr}
set_option maxRecDepth 100000 in
set_option maxHeartbeats 3200000 in
theorem do_get (h : Cac w F c R L) (hx : PairsOwn w 0 v M) (hoff : ∀ i, v.ownBlock = some i → ¬ F i) (hM : M.length ≤ 900) (S : Nat) (kd pk p q t f m : Int) (x1 x2 x3 x4 : Bool) (hk : OkK (p, q, t)) (k1 : kd ≠ 1) (k2 : kd ≠ 2) (k3 : kd ≠ 3) (k4 : kd ≠ 4) (k5 : kd ≠ 5) :
    Calls Try.prog 12 #[.pointer (some ⟨c, 0, none⟩), .agg #[v, .int .i64 S], .agg #[.int .i64 kd, .int .i64 pk, .int .i64 p, .int .i64 q, .int .u64 t, .int .u64 f, .bool x1, .bool x2, .bool x3, .bool x4, .int .u8 m]] w fun e w' => ∃ A d, e = .returned (.tuple #[.agg #[.slice A M.length d, .int .i64 S], .bool (ansK L M (p, q, t))]) ∧ DoE w w' F c R L (.slice A M.length d) M := by
  obtain ⟨A, cap, rfl⟩ := hx.form
  have H0 := Lib.hid (DoM.start h hx hoff S kd pk p q t f m x1 x2 x3 x4)
  obtain ⟨⟨f1, y1, y2, y3, y4, m1⟩, hv1⟩ : ∃ y : Ln, (getK L (p, q, t)).getD zL = y := ⟨_, rfl⟩
  obtain ⟨⟨f2, z1, z2, z3, z4, m2⟩, hv2⟩ : ∃ y : Ln, (getK M (p, q, t)).getD zL = y := ⟨_, rfl⟩
  obtain ⟨is1, hi1⟩ : ∃ i, (getK L (p, q, t)).isSome = i := ⟨_, rfl⟩
  obtain ⟨is2, hi2⟩ : ∃ i, (getK M (p, q, t)).isSome = i := ⟨_, rfl⟩
  have HANS : Hid (ansK L M (p, q, t) = (decide ((f1, y1, y2, y3, y4, m1) = (f2, z1, z2, z3, z4, m2)) && (is1 == is2))) := Lib.hid (by unfold ansK; rw [hv1, hv2, hi1, hi2])
  have HG1 : Hid (∀ (w1 : World) (G : Nat → Prop), Cac w1 G c R L → _) := Lib.hid fun (w1 : World) (G : Nat → Prop) (hc : Cac w1 G c R L) => getC_any hc p q t f1 m1 y1 y2 y3 y4 hk hv1 is1 hi1
  have hG2 := fun w1 (hp : PairsOwn w1 0 (.slice A M.length cap) M) => rgetC_any w1 (.slice A M.length cap) M S p q t f2 m2 z1 z2 z3 z4 hp (by omega) hv2 is2 hi2
  obtain ⟨n, hn⟩ : ∃ n, M.length = n := ⟨_, rfl⟩
  rw [hn] at H0 hM hG2 ⊢
  have HP2 := Lib.hid hG2
  clear h hx hoff hv1 hv2 hi1 hi2 hG2 hn hk
  have e1 : (kd == 1) = false := by simpa using k1
  have e2 : (kd == 2) = false := by simpa using k2
  have e3 : (kd == 3) = false := by simpa using k3
  have e4 : (kd == 4) = false := by simpa using k4
  have e5 : (kd == 5) = false := by simpa using k5
  clear k1 k2 k3 k4 k5
  go_enter Try.func12, Try.ntmps12
  go_upto_region 1 with fail
  generalize hw0 : ((w.alloc _).alloc _).alloc _ = w0
  have H1 : Hid (DoM w w0 F c R L w.heap.size (.slice A n cap) M S kd pk p q t f m x1 x2 x3 x4) := Lib.hid (by rw [← hw0]; exact H0.out)
  clear hw0 H0
  obtain ⟨d0, _⟩ := H1.out.kind
  obtain ⟨a0, a1, d1, d2, d3, d4, d5, d6, d7, d8, d9, d10, _⟩ := H1.out.s
  obtain ⟨G1, hcac, _⟩ := H1.out.cac
  have HC := Lib.hid hcac
  clear hcac
  go_upto_region 19 with (go_at_call 14; refine (HG1.out _ _ HC.out).mono ?_; rintro e w3 ⟨rfl, hb3⟩; have H3 := Lib.hid (H1.out.quiet hb3); clear hb3 HC H1)
  generalize hw4 : w3.alloc _ = w4
  have H4 : Hid (DoM w w4 F c R L w.heap.size (.slice A n cap) M S kd pk p q t f m x1 x2 x3 x4) := Lib.hid (by rw [← hw4]; exact H3.out.quiet (below_alloc1 _ _))
  have hn8 : w.heap.size + 1 < w3.heap.size := H3.out.kind.2
  have hn9 : w.heap.size + 1 + 1 < w3.heap.size := by
    obtain ⟨_, _, _, hL⟩ := H3.out.law
    exact (hL.at_ 0 rfl).lt
  generalize hk8 : w3.heap.size = n8 at *
  have HB8 : Hid (Blk w4 n8 #[.int .u64 f1, .bool y1, .bool y2, .bool y3, .bool y4, .int .u8 m1] 38) := Lib.hid (by rw [← hw4, ← hk8]; exact Blk.new _ _ _)
  have hn4 : n8 < w4.heap.size := HB8.out.lt
  clear hw4 hk8 H3 a0 a1 d0 d1 d2 d3 d4 d5 d6 d7 d8 d9 d10 e1 e2 e3 e4 e5
  have HG2 : Hid (∀ w1, Below w4.heap.size w4 w1 → _) := Lib.hid fun w1 (hb : Below w4.heap.size w4 w1) => HP2.out w1 (H4.out.quiet hb).pairs
  go_cut [10, 11] from 80 (fun s10 s11 wc => ∃ n10 : Nat, s10 = .pointer (some ⟨n10, 0, none⟩) ∧ s11 = .bool is2 ∧ Hid (Below w4.heap.size w4 wc) ∧ Hid (Blk wc n10 #[.int .u64 f2, .bool z1, .bool z2, .bool z3, .bool z4, .int .u8 m2] 49) ∧ w4.heap.size ≤ n10)
  case first =>
    refine wp_region_held_drew (S := fun w' => Below w4.heap.size w4 w') (by kernel_rfl) (Kept.drew0 _) (fun hHeld => ?_)
    have B0 : Hid (Below w4.heap.size w4 w4.drew) := Lib.hid (Kept.drew0 _)
    generalize w4.drew = v0 at *
    refine tk (v := ?_) 0 ?_ ?_
    rotate_left
    · intro w hSw
      obtain ⟨a0, a1, d1, d2, d3, d4, _⟩ := (H4.out.quiet hSw).s
      go_simp
      (try with_reducible rfl)
    (try simp only [Act.put, List.setIfInBounds_toArray, List.set_cons_zero, List.set_cons_succ])
    refine tk (v := ?_) 1 ?_ ?_
    rotate_left
    · intro w hSw
      go_simp
      (try with_reducible rfl)
    (try simp only [Act.put, List.setIfInBounds_toArray, List.set_cons_zero, List.set_cons_succ])
    refine tk (v := ?_) 2 ?_ ?_
    rotate_left
    · intro w hSw
      obtain ⟨a0, a1, d1, d2, d3, d4, _⟩ := (H4.out.quiet hSw).s
      go_simp
      (try with_reducible rfl)
    (try simp only [Act.put, List.setIfInBounds_toArray, List.set_cons_zero, List.set_cons_succ])
    refine wpAnyH_ready (rs := [3, 8]) (by kernel_rfl) (by simp) ?_
    refine anyH_one rfl (fun K hK => ?_) ?_
    · go_simp
      refine (realK_any p q t _).mono ?_
      rintro e v1 ⟨rfl, hB⟩
      have B1 : Hid (Below w4.heap.size w4 v1) := Lib.hid (B0.out.trans (hB.mono B0.out.size))
      clear hB B0
      refine hK.out _ _ (B1.out) (fun hHeld => ?_)
      clear hK K
      (try simp only [Act.put, List.setIfInBounds_toArray, List.set_cons_zero, List.set_cons_succ])
      refine wpAnyH_ready (rs := [4, 8]) (by kernel_rfl) (by simp) ?_
      refine anyH_one rfl (fun K hK => ?_) ?_
      · go_simp
        refine (HG2.out _ B1.out).mono ?_
        rintro e v2 ⟨rfl, hB⟩
        have B2 : Hid (Below w4.heap.size w4 v2) := Lib.hid (B1.out.trans (hB.mono B1.out.size))
        clear hB B1
        refine hK.out _ _ (B2.out) (fun hHeld => ?_)
        clear hK K
        (try simp only [Act.put, List.setIfInBounds_toArray, List.set_cons_zero, List.set_cons_succ])
        refine tk (v := ?_) 5 ?_ ?_
        rotate_left
        · intro w hSw
          go_simp
          (try with_reducible rfl)
        (try simp only [Act.put, List.setIfInBounds_toArray, List.set_cons_zero, List.set_cons_succ])
        refine tk (v := ?_) 6 ?_ ?_
        rotate_left
        · intro w hSw
          go_simp
          (try with_reducible rfl)
        (try simp only [Act.put, List.setIfInBounds_toArray, List.set_cons_zero, List.set_cons_succ])
        refine tk (v := ?_) 7 ?_ ?_
        rotate_left
        · intro w hSw
          go_simp
          (try with_reducible rfl)
        (try simp only [Act.put, List.setIfInBounds_toArray, List.set_cons_zero, List.set_cons_succ])
        refine wpAnyH_ready (rs := [8]) (by kernel_rfl) (by simp) ?_
        refine anyH_one rfl (fun K hK => ?_) ?_
        · go_simp
          generalize hq : v2.alloc _ = v3
          have B3 : Hid (Below w4.heap.size w4 v3) := Lib.hid (by rw [← hq]; exact B2.out.alloc B2.out.size _)
          have hn10 := B2.out.size
          generalize hk : v2.heap.size = n10 at hn10 ⊢
          have Y3 : Hid (Blk v3 n10 #[.int .u64 0, .bool false, .bool false, .bool false, .bool false, .int .u8 0] 49) := Lib.hid (by rw [← hq, ← hk]; exact Blk.new _ _ _)
          clear hq hk B2
          refine hK.out _ _ (B3.out) (fun hHeld => ?_)
          clear hK K
          (try simp only [Act.put, List.setIfInBounds_toArray, List.set_cons_zero, List.set_cons_succ])
          refine wpAnyH_ready (rs := [9]) (by kernel_rfl) (by simp) ?_
          refine anyH_one rfl (fun K hK => ?_) ?_
          · obtain ⟨r0, r1, r2, r3, r4, r5⟩ := Y3.out.c6
            have s0 := Y3.out.fz 0; have s1 := Y3.out.fz 1; have s2 := Y3.out.fz 2; have s3 := Y3.out.fz 3; have s4 := Y3.out.fz 4; have s5 := Y3.out.fz 5
            go_simp
            generalize hq : (((((v3.setCell _ _).setCell _ _).setCell _ _).setCell _ _).setCell _ _).setCell _ _ = v4
            have B4 : Hid (Below w4.heap.size w4 v4) := Lib.hid (by rw [← hq]; exact turn_below B3.out (turnB6 _ _ _ _ _ _ _ _) hn10 B3.out.size)
            have Y4 : Hid (Blk v4 n10 #[.int .u64 f2, .bool z1, .bool z2, .bool z3, .bool z4, .int .u8 m2] 49) := Lib.hid (by rw [← hq]; exact setB6 Y3.out _ _ _ _ _ _)
            clear hq B3 Y3 r0 r1 r2 r3 r4 r5 s0 s1 s2 s3 s4 s5
            refine hK.out _ _ (B4.out) (fun hHeld => ?_)
            clear hK K
            (try simp only [Act.put, List.setIfInBounds_toArray, List.set_cons_zero, List.set_cons_succ])
            refine tk (v := ?_) 10 ?_ ?_
            rotate_left
            · intro w hSw
              go_simp
              (try with_reducible rfl)
            (try simp only [Act.put, List.setIfInBounds_toArray, List.set_cons_zero, List.set_cons_succ])
            refine wpAnyH_done (by kernel_rfl) ?_ _
            go_wp2
            go_meet
            case rel => exact ⟨n10, rfl, rfl, B4, Y4, hn10⟩
          exact AllReadyH.nil
        exact AllReadyH.nil
      refine anyH_one rfl (fun K hK => ?_) ?_
      · go_simp
        generalize hq : v1.alloc _ = v2
        have B2 : Hid (Below w4.heap.size w4 v2) := Lib.hid (by rw [← hq]; exact B1.out.alloc B1.out.size _)
        have hn10 := B1.out.size
        generalize hk : v1.heap.size = n10 at hn10 ⊢
        have Y2 : Hid (Blk v2 n10 #[.int .u64 0, .bool false, .bool false, .bool false, .bool false, .int .u8 0] 49) := Lib.hid (by rw [← hq, ← hk]; exact Blk.new _ _ _)
        clear hq hk B1
        refine hK.out _ _ (B2.out) (fun hHeld => ?_)
        clear hK K
        (try simp only [Act.put, List.setIfInBounds_toArray, List.set_cons_zero, List.set_cons_succ])
        refine wpAnyH_ready (rs := [4]) (by kernel_rfl) (by simp) ?_
        refine anyH_one rfl (fun K hK => ?_) ?_
        · go_simp
          refine (HG2.out _ B2.out).mono ?_
          rintro e v3 ⟨rfl, hB⟩
          have B3 : Hid (Below w4.heap.size w4 v3) := Lib.hid (B2.out.trans (hB.mono B2.out.size))
          have Y3 := Lib.hid (Y2.out.below hB)
          clear Y2
          clear hB B2
          refine hK.out _ _ (B3.out) (fun hHeld => ?_)
          clear hK K
          (try simp only [Act.put, List.setIfInBounds_toArray, List.set_cons_zero, List.set_cons_succ])
          refine tk (v := ?_) 5 ?_ ?_
          rotate_left
          · intro w hSw
            go_simp
            (try with_reducible rfl)
          (try simp only [Act.put, List.setIfInBounds_toArray, List.set_cons_zero, List.set_cons_succ])
          refine tk (v := ?_) 6 ?_ ?_
          rotate_left
          · intro w hSw
            go_simp
            (try with_reducible rfl)
          (try simp only [Act.put, List.setIfInBounds_toArray, List.set_cons_zero, List.set_cons_succ])
          refine tk (v := ?_) 7 ?_ ?_
          rotate_left
          · intro w hSw
            go_simp
            (try with_reducible rfl)
          (try simp only [Act.put, List.setIfInBounds_toArray, List.set_cons_zero, List.set_cons_succ])
          refine wpAnyH_ready (rs := [9]) (by kernel_rfl) (by simp) ?_
          refine anyH_one rfl (fun K hK => ?_) ?_
          · obtain ⟨r0, r1, r2, r3, r4, r5⟩ := Y3.out.c6
            have s0 := Y3.out.fz 0; have s1 := Y3.out.fz 1; have s2 := Y3.out.fz 2; have s3 := Y3.out.fz 3; have s4 := Y3.out.fz 4; have s5 := Y3.out.fz 5
            go_simp
            generalize hq : (((((v3.setCell _ _).setCell _ _).setCell _ _).setCell _ _).setCell _ _).setCell _ _ = v4
            have B4 : Hid (Below w4.heap.size w4 v4) := Lib.hid (by rw [← hq]; exact turn_below B3.out (turnB6 _ _ _ _ _ _ _ _) hn10 B3.out.size)
            have Y4 : Hid (Blk v4 n10 #[.int .u64 f2, .bool z1, .bool z2, .bool z3, .bool z4, .int .u8 m2] 49) := Lib.hid (by rw [← hq]; exact setB6 Y3.out _ _ _ _ _ _)
            clear hq B3 Y3 r0 r1 r2 r3 r4 r5 s0 s1 s2 s3 s4 s5
            refine hK.out _ _ (B4.out) (fun hHeld => ?_)
            clear hK K
            (try simp only [Act.put, List.setIfInBounds_toArray, List.set_cons_zero, List.set_cons_succ])
            refine tk (v := ?_) 10 ?_ ?_
            rotate_left
            · intro w hSw
              go_simp
              (try with_reducible rfl)
            (try simp only [Act.put, List.setIfInBounds_toArray, List.set_cons_zero, List.set_cons_succ])
            refine wpAnyH_done (by kernel_rfl) ?_ _
            go_wp2
            go_meet
            case rel => exact ⟨n10, rfl, rfl, B4, Y4, hn10⟩
          exact AllReadyH.nil
        exact AllReadyH.nil
      exact AllReadyH.nil
    refine anyH_one rfl (fun K hK => ?_) ?_
    · go_simp
      generalize hq : v0.alloc _ = v1
      have B1 : Hid (Below w4.heap.size w4 v1) := Lib.hid (by rw [← hq]; exact B0.out.alloc B0.out.size _)
      have hn10 := B0.out.size
      generalize hk : v0.heap.size = n10 at hn10 ⊢
      have Y1 : Hid (Blk v1 n10 #[.int .u64 0, .bool false, .bool false, .bool false, .bool false, .int .u8 0] 49) := Lib.hid (by rw [← hq, ← hk]; exact Blk.new _ _ _)
      clear hq hk B0
      refine hK.out _ _ (B1.out) (fun hHeld => ?_)
      clear hK K
      (try simp only [Act.put, List.setIfInBounds_toArray, List.set_cons_zero, List.set_cons_succ])
      refine wpAnyH_ready (rs := [3]) (by kernel_rfl) (by simp) ?_
      refine anyH_one rfl (fun K hK => ?_) ?_
      · go_simp
        refine (realK_any p q t _).mono ?_
        rintro e v2 ⟨rfl, hB⟩
        have B2 : Hid (Below w4.heap.size w4 v2) := Lib.hid (B1.out.trans (hB.mono B1.out.size))
        have Y2 := Lib.hid (Y1.out.below hB)
        clear Y1
        clear hB B1
        refine hK.out _ _ (B2.out) (fun hHeld => ?_)
        clear hK K
        (try simp only [Act.put, List.setIfInBounds_toArray, List.set_cons_zero, List.set_cons_succ])
        refine wpAnyH_ready (rs := [4]) (by kernel_rfl) (by simp) ?_
        refine anyH_one rfl (fun K hK => ?_) ?_
        · go_simp
          refine (HG2.out _ B2.out).mono ?_
          rintro e v3 ⟨rfl, hB⟩
          have B3 : Hid (Below w4.heap.size w4 v3) := Lib.hid (B2.out.trans (hB.mono B2.out.size))
          have Y3 := Lib.hid (Y2.out.below hB)
          clear Y2
          clear hB B2
          refine hK.out _ _ (B3.out) (fun hHeld => ?_)
          clear hK K
          (try simp only [Act.put, List.setIfInBounds_toArray, List.set_cons_zero, List.set_cons_succ])
          refine tk (v := ?_) 5 ?_ ?_
          rotate_left
          · intro w hSw
            go_simp
            (try with_reducible rfl)
          (try simp only [Act.put, List.setIfInBounds_toArray, List.set_cons_zero, List.set_cons_succ])
          refine tk (v := ?_) 6 ?_ ?_
          rotate_left
          · intro w hSw
            go_simp
            (try with_reducible rfl)
          (try simp only [Act.put, List.setIfInBounds_toArray, List.set_cons_zero, List.set_cons_succ])
          refine tk (v := ?_) 7 ?_ ?_
          rotate_left
          · intro w hSw
            go_simp
            (try with_reducible rfl)
          (try simp only [Act.put, List.setIfInBounds_toArray, List.set_cons_zero, List.set_cons_succ])
          refine wpAnyH_ready (rs := [9]) (by kernel_rfl) (by simp) ?_
          refine anyH_one rfl (fun K hK => ?_) ?_
          · obtain ⟨r0, r1, r2, r3, r4, r5⟩ := Y3.out.c6
            have s0 := Y3.out.fz 0; have s1 := Y3.out.fz 1; have s2 := Y3.out.fz 2; have s3 := Y3.out.fz 3; have s4 := Y3.out.fz 4; have s5 := Y3.out.fz 5
            go_simp
            generalize hq : (((((v3.setCell _ _).setCell _ _).setCell _ _).setCell _ _).setCell _ _).setCell _ _ = v4
            have B4 : Hid (Below w4.heap.size w4 v4) := Lib.hid (by rw [← hq]; exact turn_below B3.out (turnB6 _ _ _ _ _ _ _ _) hn10 B3.out.size)
            have Y4 : Hid (Blk v4 n10 #[.int .u64 f2, .bool z1, .bool z2, .bool z3, .bool z4, .int .u8 m2] 49) := Lib.hid (by rw [← hq]; exact setB6 Y3.out _ _ _ _ _ _)
            clear hq B3 Y3 r0 r1 r2 r3 r4 r5 s0 s1 s2 s3 s4 s5
            refine hK.out _ _ (B4.out) (fun hHeld => ?_)
            clear hK K
            (try simp only [Act.put, List.setIfInBounds_toArray, List.set_cons_zero, List.set_cons_succ])
            refine tk (v := ?_) 10 ?_ ?_
            rotate_left
            · intro w hSw
              go_simp
              (try with_reducible rfl)
            (try simp only [Act.put, List.setIfInBounds_toArray, List.set_cons_zero, List.set_cons_succ])
            refine wpAnyH_done (by kernel_rfl) ?_ _
            go_wp2
            go_meet
            case rel => exact ⟨n10, rfl, rfl, B4, Y4, hn10⟩
          exact AllReadyH.nil
        exact AllReadyH.nil
      exact AllReadyH.nil
    exact AllReadyH.nil
  case rest =>
    obtain ⟨n10, rfl, rfl, HB, HB10, hn10⟩ := hcut
    have H5 : Hid (DoG w wc F c R L w.heap.size (.slice A n cap) M S kd pk p q t f m x1 x2 x3 x4 n8 #[.int .u64 f1, .bool y1, .bool y2, .bool y3, .bool y4, .int .u8 m1] n10 #[.int .u64 f2, .bool z1, .bool z2, .bool z3, .bool z4, .int .u8 m2]) := Lib.hid ⟨H4.out.quiet HB.out, HB8.out.below HB.out, HB10.out, by omega, by omega⟩
    clear H4 HB HB8 HB10 HG2 HP2
    by_cases he : (f1, y1, y2, y3, y4, m1) = (f2, z1, z2, z3, z4, m2)
    · have hq := fun w => (eqlL f1 m1 f2 m2 y1 y2 y3 y4 z1 z2 z3 z4 w).trans (by rw [decide_eq_true he])
      have HA : Hid (ansK L M (p, q, t) = (is1 == is2)) := Lib.hid (by rw [HANS.out, decide_eq_true he, Bool.true_and])
      go_upto_region 20 with fail
      refine wp_region_held_drew (S := fun w' => DoG w w' F c R L w.heap.size (.slice A n cap) M S kd pk p q t f m x1 x2 x3 x4 n8 #[.int .u64 f1, .bool y1, .bool y2, .bool y3, .bool y4, .int .u8 m1] n10 #[.int .u64 f2, .bool z1, .bool z2, .bool z3, .bool z4, .int .u8 m2]) (by kernel_rfl) (H5.out.quiet (Kept.drew0 _)) (fun hHeld => ?_)
      clear he
      refine tk (v := ?_) 0 ?_ ?_
      rotate_left
      · intro w hSw
        obtain ⟨a0, a1, _⟩ := hSw.dom.s
        go_simp
        (try with_reducible rfl)
      (try simp only [Act.put, List.setIfInBounds_toArray, List.set_cons_zero, List.set_cons_succ])
      refine tk (v := ?_) 1 ?_ ?_
      rotate_left
      · intro w hSw
        obtain ⟨c0, c1, c2, c3, c4, c5⟩ := hSw.b8.c6
        go_simp
        (try with_reducible rfl)
      (try simp only [Act.put, List.setIfInBounds_toArray, List.set_cons_zero, List.set_cons_succ])
      refine tk (v := ?_) 3 ?_ ?_
      rotate_left
      · intro w hSw
        obtain ⟨c0, c1, c2, c3, c4, c5⟩ := hSw.b10.c6
        go_simp
        (try with_reducible rfl)
      (try simp only [Act.put, List.setIfInBounds_toArray, List.set_cons_zero, List.set_cons_succ])
      refine wpAnyH_ready (rs := [2]) (by kernel_rfl) (by simp) ?_
      refine anyH_one rfl (fun K hK => ?_) ?_
      · go_simp
        refine (linedL_any f1 m1 y1 y2 y3 y4 _).mono ?_
        rintro e v1 ⟨rfl, hB⟩
        refine hK.out _ _ (hHeld.quiet hB) (fun hHeld => ?_)
        clear hK K
        (try simp only [Act.put, List.setIfInBounds_toArray, List.set_cons_zero, List.set_cons_succ])
        refine tk (v := ?_) 4 ?_ ?_
        rotate_left
        · intro w hSw
          go_simp
          (try with_reducible rfl)
        (try simp only [Act.put, List.setIfInBounds_toArray, List.set_cons_zero, List.set_cons_succ])
        refine tk (v := ?_) 5 ?_ ?_
        rotate_left
        · intro w hSw
          go_simp
          (try with_reducible rfl)
        (try simp only [Act.put, List.setIfInBounds_toArray, List.set_cons_zero, List.set_cons_succ])
        refine tk (v := ?_) 6 ?_ ?_
        rotate_left
        · intro w hSw
          go_simp
          (try with_reducible rfl)
        (try simp only [Act.put, List.setIfInBounds_toArray, List.set_cons_zero, List.set_cons_succ])
        refine tk (v := ?_) 7 ?_ ?_
        rotate_left
        · intro w hSw
          go_simp
          (try with_reducible rfl)
        (try simp only [Act.put, List.setIfInBounds_toArray, List.set_cons_zero, List.set_cons_succ])
        refine tk (v := ?_) 8 ?_ ?_
        rotate_left
        · intro w hSw
          go_simp
          (try with_reducible rfl)
        (try simp only [Act.put, List.setIfInBounds_toArray, List.set_cons_zero, List.set_cons_succ])
        refine tk (v := ?_) 9 ?_ ?_
        rotate_left
        · intro w hSw
          go_simp
          (try with_reducible rfl)
        (try simp only [Act.put, List.setIfInBounds_toArray, List.set_cons_zero, List.set_cons_succ])
        refine wpAnyH_ready (rs := [10]) (by kernel_rfl) (by simp) ?_
        refine anyH_one rfl (fun K hK => ?_) ?_
        · obtain ⟨u0, u1, r0, r1, s0, s1⟩ := hHeld.dom.res
          go_simp
          have HF := Lib.hid (hHeld.dom.same.fin (.slice A n cap) (.int .i64 S))
          refine hK.out _ _ (hHeld.set _ _) (fun hHeld => ?_)
          clear hK K
          (try simp only [Act.put, List.setIfInBounds_toArray, List.set_cons_zero, List.set_cons_succ])
          refine tk (v := ?_) 11 ?_ ?_
          rotate_left
          · intro w hSw
            go_simp
            (try with_reducible rfl)
          (try simp only [Act.put, List.setIfInBounds_toArray, List.set_cons_zero, List.set_cons_succ])
          refine wpAnyH_done (by kernel_rfl) ?_ _
          go_wp2
          refine bodyPost_ret (v := .tuple #[.agg #[.slice A n cap, .int .i64 S], .bool (is1 == is2)]) ?_ rfl ⟨A, cap, by rw [HA.out], HF.out.2⟩
          rw [results_cell_tmp rfl]; go_simp
        exact AllReadyH.nil
      exact AllReadyH.nil
    · have hq := fun w => (eqlL f1 m1 f2 m2 y1 y2 y3 y4 z1 z2 z3 z4 w).trans (by rw [decide_eq_false he])
      have HA : Hid (ansK L M (p, q, t) = false) := Lib.hid (by rw [HANS.out, decide_eq_false he, Bool.false_and])
      go_upto_region 20 with fail
      refine wp_region_held_drew (S := fun w' => DoG w w' F c R L w.heap.size (.slice A n cap) M S kd pk p q t f m x1 x2 x3 x4 n8 #[.int .u64 f1, .bool y1, .bool y2, .bool y3, .bool y4, .int .u8 m1] n10 #[.int .u64 f2, .bool z1, .bool z2, .bool z3, .bool z4, .int .u8 m2]) (by kernel_rfl) (H5.out.quiet (Kept.drew0 _)) (fun hHeld => ?_)
      clear he
      refine tk (v := ?_) 0 ?_ ?_
      rotate_left
      · intro w hSw
        obtain ⟨a0, a1, _⟩ := hSw.dom.s
        go_simp
        (try with_reducible rfl)
      (try simp only [Act.put, List.setIfInBounds_toArray, List.set_cons_zero, List.set_cons_succ])
      refine tk (v := ?_) 1 ?_ ?_
      rotate_left
      · intro w hSw
        obtain ⟨c0, c1, c2, c3, c4, c5⟩ := hSw.b8.c6
        go_simp
        (try with_reducible rfl)
      (try simp only [Act.put, List.setIfInBounds_toArray, List.set_cons_zero, List.set_cons_succ])
      refine tk (v := ?_) 3 ?_ ?_
      rotate_left
      · intro w hSw
        obtain ⟨c0, c1, c2, c3, c4, c5⟩ := hSw.b10.c6
        go_simp
        (try with_reducible rfl)
      (try simp only [Act.put, List.setIfInBounds_toArray, List.set_cons_zero, List.set_cons_succ])
      refine wpAnyH_ready (rs := [2]) (by kernel_rfl) (by simp) ?_
      refine anyH_one rfl (fun K hK => ?_) ?_
      · go_simp
        refine (linedL_any f1 m1 y1 y2 y3 y4 _).mono ?_
        rintro e v1 ⟨rfl, hB⟩
        refine hK.out _ _ (hHeld.quiet hB) (fun hHeld => ?_)
        clear hK K
        (try simp only [Act.put, List.setIfInBounds_toArray, List.set_cons_zero, List.set_cons_succ])
        refine tk (v := ?_) 4 ?_ ?_
        rotate_left
        · intro w hSw
          go_simp
          (try with_reducible rfl)
        (try simp only [Act.put, List.setIfInBounds_toArray, List.set_cons_zero, List.set_cons_succ])
        refine tk (v := ?_) 5 ?_ ?_
        rotate_left
        · intro w hSw
          go_simp
          (try with_reducible rfl)
        (try simp only [Act.put, List.setIfInBounds_toArray, List.set_cons_zero, List.set_cons_succ])
        refine sk 6 ?_
        (try simp only [Act.put, List.setIfInBounds_toArray, List.set_cons_zero, List.set_cons_succ])
        refine sk 7 ?_
        (try simp only [Act.put, List.setIfInBounds_toArray, List.set_cons_zero, List.set_cons_succ])
        refine sk 8 ?_
        (try simp only [Act.put, List.setIfInBounds_toArray, List.set_cons_zero, List.set_cons_succ])
        refine tk (v := ?_) 9 ?_ ?_
        rotate_left
        · intro w hSw
          go_simp
          (try with_reducible rfl)
        (try simp only [Act.put, List.setIfInBounds_toArray, List.set_cons_zero, List.set_cons_succ])
        refine wpAnyH_ready (rs := [10]) (by kernel_rfl) (by simp) ?_
        refine anyH_one rfl (fun K hK => ?_) ?_
        · obtain ⟨u0, u1, r0, r1, s0, s1⟩ := hHeld.dom.res
          go_simp
          have HF := Lib.hid (hHeld.dom.same.fin (.slice A n cap) (.int .i64 S))
          refine hK.out _ _ (hHeld.set _ _) (fun hHeld => ?_)
          clear hK K
          (try simp only [Act.put, List.setIfInBounds_toArray, List.set_cons_zero, List.set_cons_succ])
          refine tk (v := ?_) 11 ?_ ?_
          rotate_left
          · intro w hSw
            go_simp
            (try with_reducible rfl)
          (try simp only [Act.put, List.setIfInBounds_toArray, List.set_cons_zero, List.set_cons_succ])
          refine wpAnyH_done (by kernel_rfl) ?_ _
          go_wp2
          refine bodyPost_ret (v := .tuple #[.agg #[.slice A n cap, .int .i64 S], .bool false]) ?_ rfl ⟨A, cap, by rw [HA.out], HF.out.2⟩
          rw [results_cell_tmp rfl]; go_simp
        exact AllReadyH.nil
      exact AllReadyH.nil
end
end Go.Proofs.Ytefllfoilkbboaa
/- Layer 10: do, whatever the deed; deeds that came in; what deeds make of lines. -/
namespace Go.Proofs.Ytefllfoilkbboaa
set_option linter.unusedVariables false
set_option linter.unusedSimpArgs false
open Go.ChangeShapes Go.WideShapes Go.ChangeAt Go.RowKit Go.Joins

def doA (L M : List Pr) (kd : Int) (k : Ky) : Bool := if kd = 1 then true else if kd = 2 then true else if kd = 3 then true else if kd = 4 then true else if kd = 5 then true else ansK L M k
theorem doA_same (L : List Pr) (kd : Int) (k : Ky) : doA L L kd k = true := by
  unfold doA
  rw [ansK_same]
  repeat' split
  all_goals rfl

theorem do_any {w : World} {F : Nat → Prop} {c R : Nat} {L : List Pr} {v : Value} {M : List Pr} (h : Cac w F c R L) (hx : PairsOwn w 0 v M) (hoff : ∀ i, v.ownBlock = some i → ¬ F i) (hM : M.length ≤ 900) (S : Nat) (kd pk p q t f m : Int) (x1 x2 x3 x4 : Bool) (hk : OkK (p, q, t)) (hpk : I64 pk) :
    Calls Try.prog 12 #[.pointer (some ⟨c, 0, none⟩), .agg #[v, .int .i64 S], .agg #[.int .i64 kd, .int .i64 pk, .int .i64 p, .int .i64 q, .int .u64 t, .int .u64 f, .bool x1, .bool x2, .bool x3, .bool x4, .int .u8 m]] w fun e w' =>
      ∃ A d, e = .returned (.tuple #[.agg #[.slice A (doK S M kd pk (p, q, t) (f, x1, x2, x3, x4, m)).length d, .int .i64 S], .bool (doA L M kd (p, q, t))]) ∧ DoE w w' F c R (doK R L kd pk (p, q, t) (f, x1, x2, x3, x4, m)) (.slice A (doK S M kd pk (p, q, t) (f, x1, x2, x3, x4, m)).length d) (doK S M kd pk (p, q, t) (f, x1, x2, x3, x4, m)) := by
  unfold doK doA
  by_cases h1 : kd = 1
  · subst h1; exact do_put h hx hoff hM S pk p q t f m x1 x2 x3 x4 hk hpk
  rw [if_neg h1, if_neg h1, if_neg h1]
  by_cases h2 : kd = 2
  · subst h2; exact do_drop h hx hoff hM S pk p q t f m x1 x2 x3 x4
  rw [if_neg h2, if_neg h2, if_neg h2]
  by_cases h3 : kd = 3
  · subst h3; exact do_dropOf h hx hoff hM S pk p q t f m x1 x2 x3 x4
  rw [if_neg h3, if_neg h3, if_neg h3]
  by_cases h4 : kd = 4
  · subst h4; exact do_clear h hx hoff hM S pk p q t f m x1 x2 x3 x4
  rw [if_neg h4, if_neg h4, if_neg h4]
  by_cases h5 : kd = 5
  · subst h5; exact do_evict h hx hoff hM S pk p q t f m x1 x2 x3 x4 hpk
  rw [if_neg h5, if_neg h5, if_neg h5]
  exact do_get h hx hoff hM S kd pk p q t f m x1 x2 x3 x4 hk h1 h2 h3 h4 h5

/-- a deed: kind, pick, key, line -/
abbrev Dd := Int × Int × Ky × Ln
def zD : Dd := (0, 0, zK, zL)
/-- the cells of a deed at an address -/
structure DeedAt (w : World) (ad : Addr) (kd pk p q t f : Int) (x1 x2 x3 x4 : Bool) (m : Int) : Prop where
  c0 : w.cell? ad = some (.int .i64 kd)
  c1 : w.cell? ⟨ad.block, ad.off + 1, none⟩ = some (.int .i64 pk) ∧ w.cell? ⟨ad.block, ad.off + 2, none⟩ = some (.int .i64 p) ∧ w.cell? ⟨ad.block, ad.off + 3, none⟩ = some (.int .i64 q) ∧ w.cell? ⟨ad.block, ad.off + 4, none⟩ = some (.int .u64 t) ∧ w.cell? ⟨ad.block, ad.off + 5, none⟩ = some (.int .u64 f) ∧ w.cell? ⟨ad.block, ad.off + 6, none⟩ = some (.bool x1) ∧ w.cell? ⟨ad.block, ad.off + 7, none⟩ = some (.bool x2) ∧ w.cell? ⟨ad.block, ad.off + 8, none⟩ = some (.bool x3) ∧ w.cell? ⟨ad.block, ad.off + 9, none⟩ = some (.bool x4) ∧ w.cell? ⟨ad.block, ad.off + 10, none⟩ = some (.int .u8 m)
def DeedIs (w : World) (ad : Addr) (y : Dd) : Prop := DeedAt w ad y.1 y.2.1 y.2.2.1.1 y.2.2.1.2.1 y.2.2.1.2.2 y.2.2.2.1 y.2.2.2.2.1 y.2.2.2.2.2.1 y.2.2.2.2.2.2.1 y.2.2.2.2.2.2.2.1 y.2.2.2.2.2.2.2.2
def DeedsC (w : World) (A : Option Addr) (ds : List Dd) : Prop := ∀ k, k < ds.length → ∃ ad, A = some ad ∧ DeedIs w (ad.add (k * 11)) (ds.getD k zD)
def DeedsOkC (ds : List Dd) : Prop := ∀ k, k < ds.length → OkK (ds.getD k zD).2.2.1 ∧ I64 (ds.getD k zD).2.1
theorem DeedAt.below {w w' : World} {B : Nat} {ad : Addr} {kd pk p q t f m : Int} {x1 x2 x3 x4 : Bool} (h : DeedAt w ad kd pk p q t f x1 x2 x3 x4 m) (hb : Below B w w') (hB : w.heap.size ≤ B) : DeedAt w' ad kd pk p q t f x1 x2 x3 x4 m := by
  have l0 := World.block_lt_of_cell? _ _ h.c0
  have e : w'.heap[ad.block]? = w.heap[ad.block]? := hb.block ad.block (by omega)
  have c : ∀ o, w'.cell? ⟨ad.block, o, none⟩ = w.cell? ⟨ad.block, o, none⟩ := fun o => World.cell?_of_block (a := ⟨ad.block, o, none⟩) e
  exact ⟨(World.cell?_of_block (a := ad) e).trans h.c0, by simpa only [c] using h.c1⟩
theorem deedsC_at {w w' : World} {A : Option Addr} {ds : List Dd} (h : DeedsC w A ds) (hb : Below w.heap.size w w') {k : Nat} (hk : k < ds.length) {kd pk p q t f m : Int} {x1 x2 x3 x4 : Bool} (he : ds.getD k zD = (kd, pk, (p, q, t), (f, x1, x2, x3, x4, m))) :
    ∃ ad, A = some ad ∧ DeedAt w' (ad.add (k * 11)) kd pk p q t f x1 x2 x3 x4 m := by
  obtain ⟨ad, hA, hd⟩ := h k hk
  rw [he] at hd
  exact ⟨ad, hA, DeedAt.below hd hb (Nat.le_refl _)⟩

/-- the lines behind the first k deeds -/
def playC (R : Nat) (ds : List Dd) : Nat → List Pr
  | 0 => []
  | k + 1 => doK R (playC R ds k) (ds.getD k zD).1 (ds.getD k zD).2.1 (ds.getD k zD).2.2.1 (ds.getD k zD).2.2.2
theorem playC_len (R : Nat) (ds : List Dd) : ∀ k, (playC R ds k).length ≤ R
  | 0 => by simp [playC]
  | k + 1 => doK_len (playC_len R ds k) _ _ _ _
theorem playC_step {R : Nat} {ds : List Dd} {k : Nat} {kd pk p q t f m : Int} {x1 x2 x3 x4 : Bool} (he : ds.getD k zD = (kd, pk, (p, q, t), (f, x1, x2, x3, x4, m))) : doK R (playC R ds k) kd pk (p, q, t) (f, x1, x2, x3, x4, m) = playC R ds (k + 1) := by
  show _ = doK R (playC R ds k) _ _ _ _
  rw [he]

/-- the law's hold behind a deed -/
theorem LawC.didDo {w w1 w2 : World} {F G : Nat → Prop} {c R : Nat} {L L' : List Pr} {bs : List BoxD} {rs : List RowD} {v' : Value} {M' : List Pr} (h : LawC w w1 F c R L G bs rs) (hE : DoE w1 w2 G c R L' v' M') : ∃ G', LawC w w2 F c R L' G' bs [doRow v' M'] := by
  obtain ⟨ho, G', hk, hoff⟩ := hE
  have h2 := h.step hk
  exact ⟨G', LawC.got ⟨h2.wk, h2.hold.less (List.Sublist.refl _) (rs' := []) (by simp), h2.low⟩ ho hoff⟩
end Go.Proofs.Ytefllfoilkbboaa
