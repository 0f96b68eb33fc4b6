/- Several texts of ours in one: Co, Cp, Cq. -/
import Derived.Test.YtefllfoilkbboaaGCjCmCn
import Derived.Laws.OwnMore
/- The document's cache: New, Get, Drop, Evict. -/
namespace Go.Proofs.Ytefllfoilkbboaa
set_option linter.unusedVariables false
set_option linter.unusedSimpArgs false
open Go.ChangeShapes Go.WideShapes Go.ChangeAt Go.RowKit Go.Joins

set_option maxRecDepth 100000 in
theorem rnewC_any (z : Int) (w : World) :
    Calls Try.prog 11 #[.int .i64 z] w fun e w' => e = .returned (.agg #[.slice none 0 0, .int .i64 (roomF z)]) ∧ Below w.heap.size w w' := by
  have H0 := Lib.hid ((Mine.start w).new (b := w.heap.size) rfl #[.slice none 0 0, .int .i64 0] 28)
  have fin : ∀ x : Int, Mine w ((w.alloc (.cells #[.slice none 0 0, .int .i64 0] 28))) [⟨w.heap.size, #[.slice none 0 0, .int .i64 0], 28⟩] [] → True := fun _ _ => trivial
  clear fin
  by_cases h0 : z < 0
  · have h1 : ¬ (0 < z) := by omega
    have HR : Hid (roomF z = 0) := Lib.hid (by unfold roomF; rw [if_pos h0])
    go_enter Try.func11, Try.ntmps11
    go_wp2
    refine bodyPost_ret (results_cell_row rfl _ _ w.heap.size _ _ _ _ rfl (last_obj _ _) Try.underlying28 rfl rfl) rfl ⟨by rw [HR.out]; rfl, below_alloc1 _ _⟩
  · have h1 : 0 ≤ z := by omega
    by_cases h2 : z ≤ 64
    · obtain ⟨n, rfl⟩ : ∃ n : Nat, z = n := ⟨z.toNat, by omega⟩
      have HR : Hid (roomF n = n) := Lib.hid (by unfold roomF; rw [if_neg h0, if_pos h2]; omega)
      have h3 : n ≤ 64 := by omega
      go_enter Try.func11, Try.ntmps11
      go_wp2
      refine bodyPost_ret (results_cell_row rfl _ _ w.heap.size _ _ _ _ rfl (last_obj _ _) Try.underlying28 rfl rfl) rfl ⟨by rw [HR.out], below_alloc1 _ _⟩
    · have HR : Hid (roomF z = 64) := Lib.hid (by unfold roomF; rw [if_neg h0, if_neg h2])
      have h3 : 64 < z := by omega
      go_enter Try.func11, Try.ntmps11
      go_wp2
      refine bodyPost_ret (results_cell_row rfl _ _ w.heap.size _ _ _ _ rfl (last_obj _ _) Try.underlying28 rfl rfl) rfl ⟨by rw [HR.out]; rfl, below_alloc1 _ _⟩

set_option maxRecDepth 100000 in
set_option maxHeartbeats 1600000 in
theorem rgetC_any (w : World) (v : Value) (M : List Pr) (S p q t f m : Int) (x1 x2 x3 x4 : Bool) (h : PairsOwn w 0 v M) (hl : M.length ≤ 1000) (hv : (getK M (p, q, t)).getD zL = (f, x1, x2, x3, x4, m)) (is : Bool) (his : (getK M (p, q, t)).isSome = is) :
    Calls Try.prog 30 #[.agg #[v, .int .i64 S], .agg #[.int .i64 p, .int .i64 q, .int .u64 t]] w fun e w' => e = .returned (.tuple #[.agg #[.int .u64 f, .bool x1, .bool x2, .bool x3, .bool x4, .int .u8 m], .bool is]) ∧ Below w.heap.size w w' := by
  obtain ⟨A, cap, rfl⟩ := h.form
  obtain ⟨n, hn⟩ : ∃ n, M.length = n := ⟨_, rfl⟩
  have HQ := fun w' (hb : Below w.heap.size w w') => rfind_any w' (.slice A M.length cap) M S p q t (h.below hb) hl
  rw [hn] at h hl HQ ⊢
  have HO := Lib.hid h
  have HN := Lib.hid hn
  have H0 := Lib.hid ((((Mine.start w).new (b := w.heap.size) rfl #[.slice A n cap, .int .i64 S] 28).new (b := w.heap.size + 1) (by simp) #[.int .i64 p, .int .i64 q, .int .u64 t] 45).new (b := w.heap.size + 2) (by simp) #[.int .u64 0, .bool false, .bool false, .bool false, .bool false, .int .u8 0] 49)
  rw [getK_idx] at hv his
  cases hx : idxF (keysK M) (p, q, t) with
  | none =>
    rw [hx] at HQ hv his
    have HF := Lib.hid HQ
    have hz : ((0, false, false, false, false, 0) : Ln) = (f, x1, x2, x3, x4, m) := hv
    have hi : false = is := his
    clear HQ hv his hx h hn
    simp only [Prod.mk.injEq] at hz
    obtain ⟨rfl, rfl, rfl, rfl, rfl, rfl⟩ := hz
    subst hi
    go_enter Try.func30, Try.ntmps30
    go_upto_region 1 with fail
    generalize hw0 : ((w.alloc _).alloc _).alloc _ = w0
    have H1 := Lib.hid (H0.out.world hw0)
    clear hw0 H0
    obtain ⟨a0, a1⟩ := (H1.out.at_ 2 rfl).c2
    obtain ⟨b0, b1, b2⟩ := (H1.out.at_ 1 rfl).c3
    go_upto_region 2 with (go_at_call 35; refine (HF.out _ H1.out.below).mono ?_; rintro e w2 ⟨rfl, hb⟩; have H2 := Lib.hid (H1.out.quiet hb); clear hb)
    have e0 : posF none = -1 := rfl
    clear a0 a1 b0 b1 b2 H1
    obtain ⟨s0, s1, s2, s3, s4, s5⟩ := (H2.out.at_ 0 rfl).c6
    have g0 := (H2.out.at_ 0 rfl).fz 0; have g1 := (H2.out.at_ 0 rfl).fz 1; have g2 := (H2.out.at_ 0 rfl).fz 2; have g3 := (H2.out.at_ 0 rfl).fz 3; have g4 := (H2.out.at_ 0 rfl).fz 4; have g5 := (H2.out.at_ 0 rfl).fz 5
    go_wp2
    refine bodyPost_ret (v := .tuple #[.agg #[.int .u64 0, .bool false, .bool false, .bool false, .bool false, .int .u8 0], .bool false]) ?_ rfl ⟨rfl, ?_⟩
    · rw [results_cell_tmp rfl]; go_simp
    · exact (H2.out.put6 0 rfl (y0 := .int .u64 0) (y1 := .bool false) (y2 := .bool false) (y3 := .bool false) (y4 := .bool false) (y5 := .int .u8 0) rfl).below
  | some i =>
    rw [hx] at HQ hv his
    have HF := Lib.hid HQ
    have hi : true = is := his
    have hil : i < n := by have := (idxF_of hx).1; rwa [keysK_len, hn] at this
    obtain ⟨⟨⟨p', q', t'⟩, y⟩, hkk⟩ : ∃ x : Pr, M.getD i zP = x := ⟨_, rfl⟩
    have hz : (M.getD i zP).2 = (f, x1, x2, x3, x4, m) := hv
    rw [hkk] at hz
    have hz' : y = (f, x1, x2, x3, x4, m) := hz
    subst hz' hi
    obtain ⟨g, cap', e', hc, hgl, _⟩ := PairsOwn.at_ h (k := i) (by rw [hn]; exact hil) hkk
    rw [hn] at e'
    obtain ⟨rfl, rfl⟩ : A = some ⟨g, 0, none⟩ ∧ cap = cap' := by simpa using e'
    have HC := Lib.hid hc
    clear e' HQ hv his hx h hn hz hkk hc
    go_enter Try.func30, Try.ntmps30
    go_upto_region 1 with fail
    generalize hw0 : ((w.alloc _).alloc _).alloc _ = w0
    have H1 := Lib.hid (H0.out.world hw0)
    clear hw0 H0
    obtain ⟨a0, a1⟩ := (H1.out.at_ 2 rfl).c2
    obtain ⟨b0, b1, b2⟩ := (H1.out.at_ 1 rfl).c3
    go_upto_region 2 with (go_at_call 35; refine (HF.out _ H1.out.below).mono ?_; rintro e w2 ⟨rfl, hb⟩; have H2 := Lib.hid (H1.out.quiet hb); clear hb)
    have e0 : posF (some i) = (i : Int) := rfl
    clear a0 a1 b0 b1 b2 H1
    obtain ⟨s0, s1, s2, s3, s4, s5⟩ := (H2.out.at_ 0 rfl).c6
    obtain ⟨a0, a1⟩ := (H2.out.at_ 2 rfl).c2
    obtain ⟨c0, c1, c2, c3, c4, c5⟩ := (HC.out.below H2.out.below).l
    have g0 := (H2.out.at_ 0 rfl).fz 0; have g1 := (H2.out.at_ 0 rfl).fz 1; have g2 := (H2.out.at_ 0 rfl).fz 2; have g3 := (H2.out.at_ 0 rfl).fz 3; have g4 := (H2.out.at_ 0 rfl).fz 4; have g5 := (H2.out.at_ 0 rfl).fz 5
    go_wp2
    refine bodyPost_ret (v := .tuple #[.agg #[.int .u64 f, .bool x1, .bool x2, .bool x3, .bool x4, .int .u8 m], .bool true]) ?_ rfl ⟨rfl, ?_⟩
    · rw [results_cell_tmp rfl]; go_simp
    · exact (H2.out.put6 0 rfl (y0 := .int .u64 f) (y1 := .bool x1) (y2 := .bool x2) (y3 := .bool x3) (y4 := .bool x4) (y5 := .int .u8 m) rfl).below

/-- what a region keeps in which the document's Drop is: its boxes; the answer's may hold anything -/
structure RsM (w w' : World) (b : Nat) (v : Value) (S p q t : Int) : Prop where
  mine : ∃ x0 x1, Mine w w' [⟨b + 2, #[x0, x1], 28⟩, ⟨b + 1, #[.int .i64 p, .int .i64 q, .int .u64 t], 45⟩, ⟨b, #[v, .int .i64 S], 28⟩] []
abbrev RsS (w w' : World) (b : Nat) (v : Value) (S p q t : Int) : Prop :=
  w'.cell? ⟨b, 0, none⟩ = some v ∧ w'.cell? ⟨b, 1, none⟩ = some (.int .i64 S) ∧ w'.cell? ⟨b + 1, 0, none⟩ = some (.int .i64 p) ∧ w'.cell? ⟨b + 1, 1, none⟩ = some (.int .i64 q) ∧ w'.cell? ⟨b + 1, 2, none⟩ = some (.int .u64 t) ∧ RsM w w' b v S p q t
section
variable {w w1 w2 : World} {b : Nat} {v : Value} {S p q t : Int}
theorem RsM.s (h : RsM w w1 b v S p q t) : RsS w w1 b v S p q t := by
  obtain ⟨x0, x1, hm⟩ := h.mine
  obtain ⟨a0, a1⟩ := (hm.at_ 2 rfl).c2
  obtain ⟨b0, b1, b2⟩ := (hm.at_ 1 rfl).c3
  exact ⟨a0, a1, b0, b1, b2, h⟩
theorem rsS_step (h : RsS w w1 b v S p q t) (hb : Below w1.heap.size w1 w2) : RsS w w2 b v S p q t := by
  obtain ⟨x0, x1, hm⟩ := h.2.2.2.2.2.mine
  exact RsM.s ⟨x0, x1, hm.quiet hb⟩
theorem rsS_below (h : RsS w w1 b v S p q t) : Below w.heap.size w w1 := by
  obtain ⟨x0, x1, hm⟩ := h.2.2.2.2.2.mine
  exact hm.below
theorem rsS_set (h : RsS w w1 b v S p q t) (u0 u1 : Value) : RsS w ((w1.setCell ⟨b + 2, 0, none⟩ u0).setCell ⟨b + 2, 1, none⟩ u1) b v S p q t := by
  obtain ⟨x0, x1, hm⟩ := h.2.2.2.2.2.mine
  exact RsM.s ⟨u0, u1, hm.put2 0 rfl (y0 := u0) (y1 := u1) rfl (by simp)⟩
theorem rsS_res (h : RsS w w1 b v S p q t) : ∃ x0 x1, w1.cell? ⟨b + 2, 0, none⟩ = some x0 ∧ w1.cell? ⟨b + 2, 1, none⟩ = some x1 ∧ w1.frozen? ⟨b + 2, 0, none⟩ = false ∧ w1.frozen? ⟨b + 2, 1, none⟩ = false ∧ (∀ u0 u1, Blk ((w1.setCell ⟨b + 2, 0, none⟩ u0).setCell ⟨b + 2, 1, none⟩ u1) (b + 2) #[u0, u1] 28) := by
  obtain ⟨x0, x1, hm⟩ := h.2.2.2.2.2.mine
  have hB := hm.at_ 0 rfl
  exact ⟨x0, x1, hB.c2.1, hB.c2.2, hB.fz 0, hB.fz 1, fun u0 u1 => setB2 hB u0 u1⟩
end
end Go.Proofs.Ytefllfoilkbboaa
/- The document's cache: Drop, Evict. -/
namespace Go.Proofs.Ytefllfoilkbboaa
set_option linter.unusedVariables false
set_option linter.unusedSimpArgs false
open Go.ChangeShapes Go.WideShapes Go.ChangeAt Go.RowKit Go.Joins

section
variable {w : World} {v : Value} {S p q t : Int} {M : List Pr}
theorem rsS_size {w1 : World} {b : Nat} (h : RsS w w1 b v S p q t) : b + 2 < w1.heap.size := by
  obtain ⟨x0, x1, hm⟩ := h.2.2.2.2.2.mine
  exact (hm.at_ 0 rfl).lt
theorem find_rs (h : PairsOwn w 0 v M) (hl : M.length ≤ 1000) {w1 : World} {b : Nat} {p' q' t' : Int} (hs : RsS w w1 b v S p q t) :
    Calls Try.prog 35 #[.agg #[v, .int .i64 S], .agg #[.int .i64 p', .int .i64 q', .int .u64 t']] w1 fun e w2 => e = .returned (.int .i64 (posF (idxF (keysK M) (p', q', t')))) ∧ RsS w w2 b v S p q t :=
  (rfind_any w1 v M S p' q' t' (h.below (rsS_below hs)) hl).mono fun _ _ ⟨e, hb⟩ => ⟨e, rsS_step hs hb⟩
theorem without_rs (h : PairsOwn w 0 v M) (hl : M.length ≤ 1000) {w1 : World} {b : Nat} (a : Int) (hs : RsS w w1 b v S p q t) :
    Calls Try.prog 36 #[.agg #[v, .int .i64 S], .int .i64 a] w1 fun e w2 => ∃ A c, e = .returned (.agg #[.slice A (cutI M a).length c, .int .i64 S]) ∧ Hid (PairsOwn w2 (b + 3) (.slice A (cutI M a).length c) (cutI M a)) ∧ RsS w w2 b v S p q t ∧
      ∃ x0 x1, w2.cell? ⟨b + 2, 0, none⟩ = some x0 ∧ w2.cell? ⟨b + 2, 1, none⟩ = some x1 ∧ w2.frozen? ⟨b + 2, 0, none⟩ = false ∧ w2.frozen? ⟨b + 2, 1, none⟩ = false ∧ Hid (∀ u0 u1, Blk ((w2.setCell ⟨b + 2, 0, none⟩ u0).setCell ⟨b + 2, 1, none⟩ u1) (b + 2) #[u0, u1] 28) :=
  (rwithout_any w1 v M S a (h.below (rsS_below hs)) hl).mono fun _ _ ⟨A, c, e, ho, hb⟩ => ⟨A, c, e, ho.down (by have := rsS_size hs; omega), rsS_step hs hb, rsS_res (rsS_step hs hb)⟩
theorem own_two {w4 : World} {b : Nat} (h : PairsOwn w4 (b + 3) v M) (u0 u1 : Value) {B : Nat} (hB : B ≤ b + 3) : PairsOwn ((w4.setCell ⟨b + 2, 0, none⟩ u0).setCell ⟨b + 2, 1, none⟩ u1) B v M := by
  have o1 := h.turn (turn1 w4 (b + 2) 0 u0) fun i hi e => by have := (h.lt hi).1; omega
  exact (o1.turn (turn1 _ (b + 2) 1 u1) fun i hi e => by have := (h.lt hi).1; omega).down hB
end

set_option maxRecDepth 100000 in
set_option maxHeartbeats 1600000 in
theorem rdropC_any (w : World) (v : Value) (M : List Pr) (S p q t : Int) (h : PairsOwn w 0 v M) (hl : M.length ≤ 1000) :
    Calls Try.prog 27 #[.agg #[v, .int .i64 S], .agg #[.int .i64 p, .int .i64 q, .int .u64 t]] w fun e w' => ∃ A c, e = .returned (.agg #[.slice A (dropK M (p, q, t)).length c, .int .i64 S]) ∧ PairsOwn w' w.heap.size (.slice A (dropK M (p, q, t)).length c) (dropK M (p, q, t)) ∧ Below w.heap.size w w' := by
  obtain ⟨A, cap, rfl⟩ := h.form
  have hF : ∀ w1, RsS w w1 w.heap.size (.slice A M.length cap) S p q t → _ := fun w1 hs => find_rs (p' := p) (q' := q) (t' := t) h hl hs
  have hW : ∀ w1, RsS w w1 w.heap.size (.slice A M.length cap) S p q t → _ := fun w1 hs => without_rs h hl (posF (idxF (keysK M) (p, q, t))) hs
  rw [cutI_pos, show cutO M (idxF (keysK M) (p, q, t)) = dropK M (p, q, t) from rfl] at hW
  generalize posF (idxF (keysK M) (p, q, t)) = z at hF hW
  generalize dropK M (p, q, t) = D at hW ⊢
  generalize M.length = n at *
  generalize hd : D.length = d at hW ⊢
  have HF := Lib.hid hF
  have HW := Lib.hid hW
  have H0 := Lib.hid ((((Mine.start w).new (b := w.heap.size) rfl #[.slice A n cap, .int .i64 S] 28).new (b := w.heap.size + 1) (by simp) #[.int .i64 p, .int .i64 q, .int .u64 t] 45).new (b := w.heap.size + 2) (by simp) #[.slice none 0 0, .int .i64 0] 28)
  clear hF hW h hd
  go_enter Try.func27, Try.ntmps27
  go_upto_region 1 with fail
  generalize hw0 : ((w.alloc _).alloc _).alloc _ = w0
  have H1 := Lib.hid (H0.out.world hw0)
  clear hw0 H0
  have HS : RsS w w0.drew w.heap.size (.slice A n cap) S p q t := RsM.s ⟨_, _, H1.out.quiet (Kept.drew0 _)⟩
  clear H1
  go_region_held3 (fun w' => w'.cell? ⟨w.heap.size, 0, none⟩ = some (.slice A n cap) ∧ w'.cell? ⟨w.heap.size, 1, none⟩ = some (.int .i64 S) ∧ w'.cell? ⟨w.heap.size + 1, 0, none⟩ = some (.int .i64 p) ∧ w'.cell? ⟨w.heap.size + 1, 1, none⟩ = some (.int .i64 q) ∧ w'.cell? ⟨w.heap.size + 1, 2, none⟩ = some (.int .u64 t) ∧ RsM w w' w.heap.size (.slice A n cap) S p q t)
    (first | assumption | exact HS | exact rsS_set (by assumption) _ _)
    (first | (go_at_call 35; refine (HF.out _ (by assumption)).mono ?_; rintro e w3 ⟨rfl, hS3⟩) | (go_at_call 36; refine (HW.out _ (by assumption)).mono ?_; rintro e w4 ⟨A4, c4, rfl, HP, hS4, x0, x1, r0, r1, f0, f1, HB⟩))
  rename_i hH
  go_wp2
  exact bodyPost_ret (results_cell_row rfl _ _ (w.heap.size + 2) _ _ _ _ rfl (HB.out _ _) Try.underlying28 rfl rfl) rfl ⟨A4, c4, rfl, own_two HP.out _ _ (by omega), rsS_below hH⟩

/-- what a region keeps in which the document's Evict is -/
structure EvM (w w' : World) (b : Nat) (v : Value) (S : Int) : Prop where
  mine : ∃ x0 x1, Mine w w' [⟨b + 1, #[x0, x1], 28⟩, ⟨b, #[v, .int .i64 S], 28⟩] []
abbrev EvS (w w' : World) (b : Nat) (v : Value) (S : Int) : Prop := w'.cell? ⟨b, 0, none⟩ = some v ∧ w'.cell? ⟨b, 1, none⟩ = some (.int .i64 S) ∧ EvM w w' b v S
section
variable {w w1 w2 : World} {b : Nat} {v v' : Value} {S : Int} {M : List Pr}
theorem EvM.s (h : EvM w w1 b v S) : EvS w w1 b v S := by
  obtain ⟨x0, x1, hm⟩ := h.mine
  obtain ⟨a0, a1⟩ := (hm.at_ 1 rfl).c2
  exact ⟨a0, a1, h⟩
theorem evS_step (h : EvS w w1 b v S) (hb : Below w1.heap.size w1 w2) : EvS w w2 b v S := by
  obtain ⟨x0, x1, hm⟩ := h.2.2.mine
  exact EvM.s ⟨x0, x1, hm.quiet hb⟩
theorem evS_below (h : EvS w w1 b v S) : Below w.heap.size w w1 := by
  obtain ⟨x0, x1, hm⟩ := h.2.2.mine
  exact hm.below
theorem evS_size (h : EvS w w1 b v S) : b + 1 < w1.heap.size := by
  obtain ⟨x0, x1, hm⟩ := h.2.2.mine
  exact (hm.at_ 0 rfl).lt
theorem evS_set (h : EvS w w1 b v S) (u0 u1 : Value) : EvS w ((w1.setCell ⟨b + 1, 0, none⟩ u0).setCell ⟨b + 1, 1, none⟩ u1) b v S := by
  obtain ⟨x0, x1, hm⟩ := h.2.2.mine
  exact EvM.s ⟨u0, u1, hm.put2 0 rfl (y0 := u0) (y1 := u1) rfl (by simp)⟩
theorem evS_res (h : EvS w w1 b v S) : ∃ x0 x1, w1.cell? ⟨b + 1, 0, none⟩ = some x0 ∧ w1.cell? ⟨b + 1, 1, none⟩ = some x1 ∧ w1.frozen? ⟨b + 1, 0, none⟩ = false ∧ w1.frozen? ⟨b + 1, 1, none⟩ = false ∧ Hid (∀ u0 u1, Blk ((w1.setCell ⟨b + 1, 0, none⟩ u0).setCell ⟨b + 1, 1, none⟩ u1) (b + 1) #[u0, u1] 28) := by
  obtain ⟨x0, x1, hm⟩ := h.2.2.mine
  have hB := hm.at_ 0 rfl
  exact ⟨x0, x1, hB.c2.1, hB.c2.2, hB.fz 0, hB.fz 1, fun u0 u1 => setB2 hB u0 u1⟩
theorem without_ev (h : PairsOwn w 0 v M) (hl : M.length ≤ 1000) (a : Int) (hs : EvS w w1 b v S) :
    Calls Try.prog 36 #[.agg #[v, .int .i64 S], .int .i64 a] w1 fun e w2 => ∃ A c, e = .returned (.agg #[.slice A (cutI M a).length c, .int .i64 S]) ∧ Hid (PairsOwn w2 (b + 2) (.slice A (cutI M a).length c) (cutI M a)) ∧ EvS w w2 b v S ∧
      ∃ x0 x1, w2.cell? ⟨b + 1, 0, none⟩ = some x0 ∧ w2.cell? ⟨b + 1, 1, none⟩ = some x1 ∧ w2.frozen? ⟨b + 1, 0, none⟩ = false ∧ w2.frozen? ⟨b + 1, 1, none⟩ = false ∧ Hid (∀ u0 u1, Blk ((w2.setCell ⟨b + 1, 0, none⟩ u0).setCell ⟨b + 1, 1, none⟩ u1) (b + 1) #[u0, u1] 28) :=
  (rwithout_any w1 v M S a (h.below (evS_below hs)) hl).mono fun _ _ ⟨A, c, e, ho, hb⟩ => ⟨A, c, e, ho.down (by have := evS_size hs; omega), evS_step hs hb, evS_res (evS_step hs hb)⟩
theorem own_ev (h : PairsOwn w1 (b + 2) v M) (u0 u1 : Value) {B : Nat} (hB : B ≤ b + 2) : PairsOwn ((w1.setCell ⟨b + 1, 0, none⟩ u0).setCell ⟨b + 1, 1, none⟩ u1) B v M := by
  have o1 := h.turn (turn1 w1 (b + 1) 0 u0) fun i hi e => by have := (h.lt hi).1; omega
  exact (o1.turn (turn1 _ (b + 1) 1 u1) fun i hi e => by have := (h.lt hi).1; omega).down hB
end

/-- v' holds M: v itself, or a row that is new since w -/
def PairsNew (w w' : World) (v v' : Value) (M : List Pr) : Prop := PairsOwn w' 0 v' M ∧ (v' = v ∨ ∀ i, v'.ownBlock = some i → w.heap.size ≤ i)
theorem PairsOwn.new {w w' : World} {v v' : Value} {M : List Pr} (h : PairsOwn w' w.heap.size v' M) : PairsNew w w' v v' M := ⟨h.zero, Or.inr fun _ hi => (h.lt hi).1⟩

set_option maxRecDepth 100000 in
set_option maxHeartbeats 1600000 in
theorem revictC_any (w : World) (v : Value) (M : List Pr) (S a : Int) (h : PairsOwn w 0 v M) (hl : M.length ≤ 1000) (ha : I64 a) :
    Calls Try.prog 29 #[.agg #[v, .int .i64 S], .int .i64 a] w fun e w' => ∃ A c, e = .returned (.agg #[.slice A (evK M a).length c, .int .i64 S]) ∧ PairsNew w w' v (.slice A (evK M a).length c) (evK M a) ∧ Below w.heap.size w w' := by
  obtain ⟨A, cap, rfl⟩ := h.form
  have H0 := Lib.hid (((Mine.start w).new (b := w.heap.size) rfl #[.slice A M.length cap, .int .i64 S] 28).new (b := w.heap.size + 1) (by simp) #[.slice none 0 0, .int .i64 0] 28)
  by_cases h0 : M.length = 0
  · have HO := Lib.hid h
    have HE : Hid (evK M a = M) := Lib.hid (by unfold evK; rw [if_pos h0])
    rw [HE.out]
    rw [h0] at H0 HO ⊢
    clear h
    go_enter Try.func29, Try.ntmps29
    go_wp2
    have hb2 : Below w.heap.size w ((w.alloc (.cells #[.slice A 0 cap, .int .i64 S] 28)).alloc (.cells #[.slice A 0 cap, .int .i64 S] 28)) := (below_alloc1 _ _).alloc (by simp) _
    exact bodyPost_ret (results_cell_row rfl _ _ (w.heap.size + 1) _ _ _ _ rfl (heap_alloc2_new w _ _) Try.underlying28 rfl rfl) rfl ⟨A, cap, rfl, ⟨HO.out.below hb2, Or.inl rfl⟩, hb2⟩
  · have HA := Lib.hid ha
    have HP := Lib.hid (pickF_lt a (n := M.length) (by omega))
    have HE : Hid (evK M a = M.eraseIdx (pickF a M.length)) := Lib.hid (by unfold evK; rw [if_neg h0])
    have hq := fun w' => rpicked_any a M.length w' ha (by omega) (by omega)
    have hW : ∀ w1, EvS w w1 w.heap.size (.slice A M.length cap) S → _ := fun w1 hs => without_ev h hl (pickF a M.length) hs
    rw [cutI_nat, ← HE.out] at hW
    have HPN : Hid (∀ w' v', PairsOwn w' w.heap.size v' (evK M a) → PairsNew w w' (.slice A M.length cap) v' (evK M a)) := Lib.hid fun _ _ h => h.new
    clear HE HP
    generalize evK M a = D at hW HPN ⊢
    generalize pickF a M.length = z at hW hq
    generalize M.length = n at *
    generalize hd : D.length = d at hW ⊢
    have h1 : ((n : Int) == 0) = false := by simp; omega
    have HQ := Lib.hid hq
    have HW := Lib.hid hW
    clear hq hW h hd
    go_enter Try.func29, Try.ntmps29
    go_upto_region 1 with fail
    generalize hw0 : (w.alloc _).alloc _ = w0
    have H1 := Lib.hid (H0.out.world hw0)
    clear hw0 H0
    obtain ⟨a0, a1⟩ := (H1.out.at_ 1 rfl).c2
    go_upto_region 3 with fail
    have HS : EvS w w0.drew w.heap.size (.slice A n cap) S := EvM.s ⟨_, _, H1.out.quiet (Kept.drew0 _)⟩
    clear H1
    go_region_held3 (fun w' => w'.cell? ⟨w.heap.size, 0, none⟩ = some (.slice A n cap) ∧ w'.cell? ⟨w.heap.size, 1, none⟩ = some (.int .i64 S) ∧ EvM w w' w.heap.size (.slice A n cap) S)
      (first | assumption | exact HS | exact evS_set (by assumption) _ _)
      (first | (go_at_call 23; refine (HQ.out _).mono ?_; rintro e w' ⟨rfl, rfl⟩) | (go_at_call 36; refine (HW.out _ (by assumption)).mono ?_; rintro e w4 ⟨A4, c4, rfl, HP, hS4, x0, x1, r0, r1, f0, f1, HB⟩))
    rename_i hH
    go_wp2
    exact bodyPost_ret (results_cell_row rfl _ _ (w.heap.size + 1) _ _ _ _ rfl (HB.out _ _) Try.underlying28 rfl rfl) rfl ⟨A4, c4, rfl, HPN.out _ _ (own_ev HP.out _ _ (by omega)), evS_below hH⟩
end Go.Proofs.Ytefllfoilkbboaa
/- The document's cache: what its Put appends and stores. -/
namespace Go.Proofs.Ytefllfoilkbboaa
set_option linter.unusedVariables false
set_option linter.unusedSimpArgs false
open Go.ChangeShapes Go.WideShapes Go.ChangeAt Go.RowKit Go.Joins

/-- six cells of a line, from o on -/
def set6 (xs : List Value) (o : Nat) (l : Ln) : List Value :=
  (((((xs.set o (.int .u64 l.1)).set (o + 1) (.bool l.2.1)).set (o + 2) (.bool l.2.2.1)).set (o + 3) (.bool l.2.2.2.1)).set (o + 4) (.bool l.2.2.2.2.1)).set (o + 5) (.int .u8 l.2.2.2.2.2)
theorem set6_append (xs ys : List Value) (o : Nat) (l : Ln) : set6 (xs ++ ys) (xs.length + o) l = xs ++ set6 ys o l := by
  unfold set6
  have e : ∀ (zs : List Value) (j : Nat) (u : Value), (xs ++ zs).set (xs.length + o + j) u = xs ++ zs.set (o + j) u := fun zs j u => by
    rw [List.set_append_right _ _ (by omega), show xs.length + o + j - xs.length = o + j by omega]
  have e0 := e ys 0 (.int .u64 l.1)
  rw [Nat.add_zero, Nat.add_zero] at e0
  rw [e0, e, e, e, e, e]
theorem pcs_set (M : List Pr) : ∀ (i : Nat) (k : Ky) (l : Ln), i < M.length → (M.getD i zP).1 = k → set6 (pcs M) (i * 9 + 3) l = pcs (M.set i (k, l)) := by
  induction M with
  | nil => intro i k l hi; simp at hi
  | cons x M ih =>
    intro i k l hi hk
    rcases i with _ | i
    · have hk' : x.1 = k := hk
      subst hk'
      rfl
    · have h1 := ih i k l (by simpa using hi) (by simpa [List.getD] using hk)
      rw [List.set_cons_succ]
      show set6 (pc x ++ pcs M) ((i + 1) * 9 + 3) l = pc x ++ pcs (M.set i (k, l))
      rw [show (i + 1) * 9 + 3 = (pc x).length + (i * 9 + 3) by rw [pc_len]; omega, set6_append, h1]

section
variable {w w1 w2 w3 : World} {B g n c i : Nat} {v : Value} {M : List Pr} {A : Option Addr}
/-- a line of one's own row is another one -/
theorem PairsOwn.setL (h : PairsOwn w B (.slice (some ⟨g, 0, none⟩) M.length c) M) (hi : i < M.length) {k : Ky} (hk : (M.getD i zP).1 = k) (f m : Int) (x1 x2 x3 x4 : Bool) :
    PairsOwn ((((((w.setCell ⟨g, i * 9 + 3, none⟩ (.int .u64 f)).setCell ⟨g, i * 9 + 3 + 1, none⟩ (.bool x1)).setCell ⟨g, i * 9 + 3 + 2, none⟩ (.bool x2)).setCell ⟨g, i * 9 + 3 + 3, none⟩ (.bool x3)).setCell ⟨g, i * 9 + 3 + 4, none⟩ (.bool x4)).setCell ⟨g, i * 9 + 3 + 5, none⟩ (.int .u8 m)) B (.slice (some ⟨g, 0, none⟩) M.length c) (M.set i (k, (f, x1, x2, x3, x4, m))) := by
  unfold PairsOwn at *
  rw [List.length_set, ← pcs_set M i k _ hi hk]
  exact ((((((h.stored _ _).1.stored _ _).1.stored _ _).1.stored _ _).1.stored _ _).1.stored _ _).1

theorem copy_pairs (h : PairsOwn w 0 v M) (hl : M.length ≤ 1000) (ty : TypeId) :
    ∃ A c w2, (Builtin.append_ #[26, 26] ty #[.slice (some ⟨w.heap.size, 0, none⟩) 0 0, v]).run Try.prog (w.alloc (.cells #[] 51)) = .ok (.slice A M.length c) w2 ∧ PairsOwn w2 w.heap.size (.slice A M.length c) M ∧ Below w.heap.size w w2 := by
  obtain ⟨i0, hi0, hz0, hz1, hz2⟩ := info_parts infoPair
  have hmade : (w.alloc (.cells #[] 51)).ownsRow w.heap.size 51 9 (.slice (some ⟨w.heap.size, 0, none⟩) 0 0) 0 [] := World.ownsRow_made w #[] 0 (Nat.le_refl _) (Nat.zero_le _) rfl
  have h' := h
  rcases h.2 with ⟨rfl, hn⟩ | ⟨g, cap, cur, rfl, _, hg, _⟩
  · have hM : M = [] := List.eq_nil_of_length_eq_zero hn
    subst hM
    refine ⟨some ⟨w.heap.size, 0, none⟩, 0, _, ?_, hmade, below_alloc1 _ _⟩
    simp [Builtin.append_, run_underlying Try.underlying26, sizeOf, typeInfo, hi0, hz1, Builtin.lenOf, Builtin.firstCells, loadCells, loadCellsFrom, storeCells]
  · have hc := World.ownsRow.cells h' (g := g) rfl
    obtain ⟨v', w', hr, ho, hg2, _⟩ := run_append_own (P := Try.prog) (w.alloc (.cells #[] 51)) w.heap.size 26 ty 51 i0 _ 9 40 Try.underlying26 hi0 hz0 hz1 hz2 rfl (by decide) _ 0 [] hmade ⟨g, 0, none⟩ M.length cap (pcs M) (pcs_len M) (fun j u hj => Lib.cell?_alloc_some _ (hc j u hj)) (fun u hu => by
      obtain ⟨x, _, hx⟩ := List.mem_flatMap.1 hu
      exact pc_one x u hx) (by unfold maxLen; omega) (by omega) (by simp)
    rw [Nat.zero_add, List.nil_append] at ho
    obtain ⟨A, c, rfl⟩ := own_formC ho
    refine ⟨A, c, w', hr, ho, app_step (Nat.le_refl _) hg2 (fun k hk => ?_)⟩
    have e : some w.heap.size = some k := hk
    have := Option.some.inj e
    omega

theorem push_pair (h : PairsOwn w B v M) (hl : M.length ≤ 1000) (hB : B ≤ w.heap.size) (x : Pr) (ty : TypeId) :
    ∃ A c w2, (Builtin.append_ #[26, 26] ty #[v, .slice (some ⟨w.heap.size, 0, none⟩) 1 1]).run Try.prog (w.alloc (.cells (pc x).toArray 51)) = .ok (.slice A (M.length + 1) c) w2 ∧ PairsOwn w2 B (.slice A (M.length + 1) c) (M ++ [x]) ∧ Below B w w2 := by
  obtain ⟨i0, hi0, hz0, hz1, hz2⟩ := info_parts infoPair
  obtain ⟨v', w', hr, ho, hg2, _⟩ := run_append_own (P := Try.prog) (w.alloc (.cells (pc x).toArray 51)) B 26 ty 51 i0 _ 9 40 Try.underlying26 hi0 hz0 hz1 hz2 rfl (by decide) _ M.length (pcs M) (World.ownsRow.alloc h _) ⟨w.heap.size, 0, none⟩ 1 1 (pc x) rfl (World.news_of_block (heap_alloc_new w _)) (pc_one x) (by unfold maxLen; omega) (by omega) (by simp; omega)
  obtain ⟨A, c, rfl⟩ := own_formC ho
  refine ⟨A, c, w', hr, ?_, app_step hB hg2 (fun k hk => (h.lt hk).1)⟩
  unfold PairsOwn
  rw [List.length_append, show pcs (M ++ [x]) = pcs M ++ pc x by unfold pcs; rw [List.flatMap_append]; simp]
  exact ho
end
end Go.Proofs.Ytefllfoilkbboaa
