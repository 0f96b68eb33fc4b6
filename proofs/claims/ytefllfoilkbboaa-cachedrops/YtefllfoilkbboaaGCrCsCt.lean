/- Several texts of ours in one: Cr, Cs, Ct. -/
import Derived.Test.YtefllfoilkbboaaGCoCpCq
/- The document's Put. -/
namespace Go.Proofs.Ytefllfoilkbboaa
set_option linter.unusedVariables false
set_option linter.unusedSimpArgs false
open Go.ChangeShapes Go.WideShapes Go.ChangeAt Go.RowKit Go.Joins

/-- the boxes of Put, and what was there -/
abbrev putBs (b : Nat) (v : Value) (S p q t f m : Int) (x1 x2 x3 x4 : Bool) : List BoxD :=
  [⟨b + 1 + 1 + 1, #[.slice none 0 0, .int .i64 0], 28⟩, ⟨b + 1 + 1, #[.int .u64 f, .bool x1, .bool x2, .bool x3, .bool x4, .int .u8 m], 49⟩, ⟨b + 1, #[.int .i64 p, .int .i64 q, .int .u64 t], 45⟩, ⟨b, #[v, .int .i64 S], 28⟩]
section
variable {w wr : World} {v v' : Value} {S p q t f m : Int} {x1 x2 x3 x4 : Bool} {M : List Pr} {b B : Nat}
/-- the last three stores of Put: the cache's box, the answer's -/
theorem put_end (h : Mine w wr (putBs b v S p q t f m x1 x2 x3 x4) []) (ho : PairsOwn wr B v' M) (hB : b + 1 + 1 + 1 < B) (hw : w.heap.size ≤ B) :
    Blk (((wr.setCell ⟨b, 0, none⟩ v').setCell ⟨b + 1 + 1 + 1, 0, none⟩ v').setCell ⟨b + 1 + 1 + 1, 1, none⟩ (.int .i64 S)) (b + 1 + 1 + 1) #[v', .int .i64 S] 28 ∧
      PairsOwn (((wr.setCell ⟨b, 0, none⟩ v').setCell ⟨b + 1 + 1 + 1, 0, none⟩ v').setCell ⟨b + 1 + 1 + 1, 1, none⟩ (.int .i64 S)) w.heap.size v' M ∧ Below w.heap.size w (((wr.setCell ⟨b, 0, none⟩ v').setCell ⟨b + 1 + 1 + 1, 0, none⟩ v').setCell ⟨b + 1 + 1 + 1, 1, none⟩ (.int .i64 S)) := by
  have m1 := h.put 3 rfl (turn1 wr b 0 v') ((h.at_ 3 rfl).set1 0 v') (by simp)
  have m2 := m1.put2 0 rfl (y0 := v') (y1 := .int .i64 S) rfl (by simp)
  refine ⟨m2.at_ 0 rfl, PairsOwn.down ?_ hw, m2.below⟩
  have o1 := ho.turn (turn1 wr b 0 v') fun i hi e => by have := (ho.lt hi).1; omega
  have o2 := o1.turn (turn1 _ (b + 1 + 1 + 1) 0 v') fun i hi e => by have := (ho.lt hi).1; omega
  exact o2.turn (turn1 _ (b + 1 + 1 + 1) 1 _) fun i hi e => by have := (ho.lt hi).1; omega
theorem turnB6' (w : World) (g o0 o1 o2 o3 o4 o5 : Nat) (y0 y1 y2 y3 y4 y5 : Value) : Turn (fun j => j = g) w ((((((w.setCell ⟨g, o0, none⟩ y0).setCell ⟨g, o1, none⟩ y1).setCell ⟨g, o2, none⟩ y2).setCell ⟨g, o3, none⟩ y3).setCell ⟨g, o4, none⟩ y4).setCell ⟨g, o5, none⟩ y5) :=
  (((((turn1 _ _ _ _).and (turn1 _ _ _ _)).and (turn1 _ _ _ _)).and (turn1 _ _ _ _)).and (turn1 _ _ _ _)).and (turn1 _ _ _ _)
/-- a block that is none of the boxes is turned -/
theorem Mine.quiet2 {w3 : World} {bs : List BoxD} {g : Nat} (h : Mine w wr bs []) (ht : Turn (fun j => j = g) wr w3) (hg : w.heap.size ≤ g) (hb : ∀ z ∈ bs, z.b ≠ g) : Mine w w3 bs [] :=
  ⟨h.hold.turn ht hb (by simp), h.below.trans (ht.below (fun i hi => by rw [hi]; exact hg) h.below.size)⟩
theorem Mine.putBs (w : World) (v : Value) (S p q t f m : Int) (x1 x2 x3 x4 : Bool) : Mine w ((((w.alloc (.cells #[v, .int .i64 S] 28)).alloc (.cells #[.int .i64 p, .int .i64 q, .int .u64 t] 45)).alloc (.cells #[.int .u64 f, .bool x1, .bool x2, .bool x3, .bool x4, .int .u8 m] 49)).alloc (.cells #[.slice none 0 0, .int .i64 0] 28)) (putBs w.heap.size v S p q t f m x1 x2 x3 x4) [] :=
  ((((Mine.start w).new (b := w.heap.size) rfl #[v, .int .i64 S] 28).new (b := w.heap.size + 1) (by simp) #[.int .i64 p, .int .i64 q, .int .u64 t] 45).new (b := w.heap.size + 1 + 1) (by simp) #[.int .u64 f, .bool x1, .bool x2, .bool x3, .bool x4, .int .u8 m] 49).new (b := w.heap.size + 1 + 1 + 1) (by simp) #[.slice none 0 0, .int .i64 0] 28
end

set_option maxRecDepth 100000 in
set_option maxHeartbeats 1600000 in
theorem rput_found (w : World) (v : Value) (M : List Pr) (R : Nat) (p q t f m a : Int) (x1 x2 x3 x4 : Bool) (h : PairsOwn w 0 v M) (hl : M.length ≤ 900) {i : Nat} (hx : idxF (keysK M) (p, q, t) = some i) :
    Calls Try.prog 26 #[.agg #[v, .int .i64 R], .agg #[.int .i64 p, .int .i64 q, .int .u64 t], .agg #[.int .u64 f, .bool x1, .bool x2, .bool x3, .bool x4, .int .u8 m], .int .i64 a] w fun e w' => ∃ A c, e = .returned (.agg #[.slice A (putK R M (p, q, t) (f, x1, x2, x3, x4, m) a).length c, .int .i64 R]) ∧ PairsNew w w' v (.slice A (putK R M (p, q, t) (f, x1, x2, x3, x4, m) a).length c) (putK R M (p, q, t) (f, x1, x2, x3, x4, m) a) ∧ Below w.heap.size w w' := by
  obtain ⟨A, cap, rfl⟩ := h.form
  have HF : Hid (∀ w', Below w.heap.size w w' → _) := Lib.hid fun w' (hb : Below w.heap.size w w') => rfind_any w' (.slice A M.length cap) M R p q t (h.below hb) (by omega)
  have HO := Lib.hid h
  have H0 := Lib.hid (Mine.putBs w (.slice A M.length cap) R p q t f m x1 x2 x3 x4)
  rw [hx] at HF
  have hp : putK R M (p, q, t) (f, x1, x2, x3, x4, m) a = M.set i ((p, q, t), (f, x1, x2, x3, x4, m)) := by unfold putK; rw [hx]
  rw [hp, List.length_set]
  have hi := idxF_of hx
  rw [keysK_len, keysK_getD] at hi
  have hil := hi.1
  have HI := Lib.hid hi.2
  obtain ⟨n, hn⟩ : ∃ n, M.length = n := ⟨_, rfl⟩
  have HN := Lib.hid hn
  rw [hn] at h HO HF H0 hl hil ⊢
  clear hp hx hi hn h
  go_enter Try.func26, Try.ntmps26
  go_upto_region 1 with fail
  generalize hw0 : (((w.alloc _).alloc _).alloc _).alloc _ = w0
  have H1 := Lib.hid (H0.out.world hw0)
  clear hw0 H0
  obtain ⟨a0, a1⟩ := (H1.out.at_ 3 rfl).c2
  obtain ⟨b0, b1, b2⟩ := (H1.out.at_ 2 rfl).c3
  go_upto_region 2 with (go_at_call 35; refine (HF.out _ H1.out.below).mono ?_; rintro e w2 ⟨rfl, hb⟩; have H2 := Lib.hid (H1.out.quiet hb); clear hb)
  have e0 : posF (some i) = (i : Int) := rfl
  clear a0 a1 b0 b1 b2 H1
  obtain ⟨a0, a1⟩ := (H2.out.at_ 3 rfl).c2
  have hlw := (H2.out.at_ 3 rfl).lt
  obtain ⟨A2, c2, w3, hr, ho, hb⟩ := copy_pairs (HO.out.below H2.out.below) (by rw [HN.out]; omega) 26
  rw [HN.out] at hr ho
  have HR := Lib.hid hr
  have HO3 := Lib.hid ho
  have H3 := Lib.hid (H2.out.quiet hb)
  clear hr ho hb
  go_upto_region 4 with (at_builtin; refine list_append_eq rfl (.tmp 17) (.tmp 19) _ _ rfl _ _ _ w3 rfl rfl HR.out ?_)
  obtain ⟨g, c', hv, hg, hgl⟩ := World.ownsRow.form (PairsOwn.cast HO3.out HN.out) (by omega)
  obtain ⟨rfl, rfl⟩ : A2 = some ⟨g, 0, none⟩ ∧ c2 = c' := by simpa using hv
  clear hv
  obtain ⟨⟨⟨p', q', t'⟩, ⟨f', y1, y2, y3, y4, m'⟩⟩, hkk⟩ : ∃ x : Pr, M.getD i zP = x := ⟨_, rfl⟩
  obtain ⟨g', cap', e', hc, _, _⟩ := PairsOwn.at_ (show PairsOwn w3 w2.heap.size (.slice (some ⟨g, 0, none⟩) n c2) M from HO3.out) (k := i) (by rw [HN.out]; exact hil) hkk
  obtain ⟨rfl, rfl⟩ : g = g' ∧ c2 = cap' := by simpa using (And.intro (congrArg (fun v => match v with | .slice (some a) _ _ => a.block | _ => 0) e') (congrArg (fun v => match v with | .slice _ _ c => c | _ => 0) e'))
  clear e'
  obtain ⟨d0, d1, d2, d3, d4, d5⟩ := hc.l
  have HS := Lib.hid (PairsOwn.setL (show PairsOwn w3 w2.heap.size (.slice (some ⟨g, 0, none⟩) M.length c2) M by rw [HN.out]; exact HO3.out) (by rw [HN.out]; exact hil) HI.out f m x1 x2 x3 x4)
  obtain ⟨k0, k1, k2, k3, k4, k5⟩ := (H3.out.at_ 1 rfl).c6
  have z : ∀ j, w3.frozen? ⟨g, j, none⟩ = false := fun j => World.ownsRow.frozenAt (PairsOwn.cast HO3.out HN.out) j
  have z0 := z (i * 9 + 3); have z1 := z (i * 9 + 3 + 1); have z2 := z (i * 9 + 3 + 2); have z3 := z (i * 9 + 3 + 3); have z4 := z (i * 9 + 3 + 4); have z5 := z (i * 9 + 3 + 5)
  have HG := Lib.hid hg
  clear hg
  go_upto_region 5 with fail
  generalize hw5 : (((((w3.setCell _ _).setCell _ _).setCell _ _).setCell _ _).setCell _ _).setCell _ _ = w5 at *
  have ht : Turn (fun j => j = g) w3 w5 := by rw [← hw5]; exact turnB6' w3 g _ _ _ _ _ _ _ _ _ _ _ _
  have H5 := Lib.hid (H3.out.quiet2 ht (by have := H2.out.size; have := HG.out; omega) (by have := HG.out; have h4 := (H2.out.at_ 0 rfl).lt; intro y hy; simp at hy; rcases hy with rfl | rfl | rfl | rfl <;> (simp; omega)))
  rw [HN.out] at HS
  clear hw5 ht z z0 z1 z2 z3 z4 z5 d0 d1 d2 d3 d4 d5 k0 k1 k2 k3 k4 k5 a0 a1 hlw
  obtain ⟨a0, a1⟩ := (H5.out.at_ 3 rfl).c2
  obtain ⟨r0, r1⟩ := (H5.out.at_ 0 rfl).c2
  have g0 := (H5.out.at_ 0 rfl).fz 0; have g1 := (H5.out.at_ 0 rfl).fz 1; have g2 := (H5.out.at_ 3 rfl).fz 0
  have HE := Lib.hid (put_end H5.out HS.out (by have h4 := (H2.out.at_ 0 rfl).lt; omega) H2.out.size)
  go_wp2
  exact bodyPost_ret (results_cell_row rfl _ _ (w.heap.size + 1 + 1 + 1) _ _ _ _ rfl HE.out.1 Try.underlying28 rfl rfl) rfl ⟨_, c2, rfl, HE.out.2.1.new, HE.out.2.2⟩

set_option maxRecDepth 100000 in
set_option maxHeartbeats 1600000 in
theorem rput_none (w : World) (v : Value) (M : List Pr) (R : Nat) (p q t f m a : Int) (x1 x2 x3 x4 : Bool) (h : PairsOwn w 0 v M) (hl : M.length ≤ 900) (hR : R = 0) (hx : idxF (keysK M) (p, q, t) = none) :
    Calls Try.prog 26 #[.agg #[v, .int .i64 R], .agg #[.int .i64 p, .int .i64 q, .int .u64 t], .agg #[.int .u64 f, .bool x1, .bool x2, .bool x3, .bool x4, .int .u8 m], .int .i64 a] w fun e w' => ∃ A c, e = .returned (.agg #[.slice A (putK R M (p, q, t) (f, x1, x2, x3, x4, m) a).length c, .int .i64 R]) ∧ PairsNew w w' v (.slice A (putK R M (p, q, t) (f, x1, x2, x3, x4, m) a).length c) (putK R M (p, q, t) (f, x1, x2, x3, x4, m) a) ∧ Below w.heap.size w w' := by
  obtain ⟨A, cap, rfl⟩ := h.form
  have HF : Hid (∀ w', Below w.heap.size w w' → _) := Lib.hid fun w' (hb : Below w.heap.size w w') => rfind_any w' (.slice A M.length cap) M R p q t (h.below hb) (by omega)
  have HO := Lib.hid h
  have H0 := Lib.hid (Mine.putBs w (.slice A M.length cap) R p q t f m x1 x2 x3 x4)
  rw [hx] at HF
  have hp : putK R M (p, q, t) (f, x1, x2, x3, x4, m) a = M := by unfold putK; rw [hx]; exact if_pos hR
  rw [hp]
  subst hR
  obtain ⟨n, hn⟩ : ∃ n, M.length = n := ⟨_, rfl⟩
  rw [hn] at h HO HF H0 hl ⊢
  clear hp hx hn h
  go_enter Try.func26, Try.ntmps26
  go_upto_region 1 with fail
  generalize hw0 : (((w.alloc _).alloc _).alloc _).alloc _ = w0
  have H1 := Lib.hid (H0.out.world hw0)
  clear hw0 H0
  obtain ⟨a0, a1⟩ := (H1.out.at_ 3 rfl).c2
  obtain ⟨b0, b1, b2⟩ := (H1.out.at_ 2 rfl).c3
  go_upto_region 2 with (go_at_call 35; refine (HF.out _ H1.out.below).mono ?_; rintro e w2 ⟨rfl, hb⟩; have H2 := Lib.hid (H1.out.quiet hb); clear hb)
  have e0 : posF none = -1 := rfl
  clear a0 a1 b0 b1 b2 H1
  obtain ⟨a0, a1⟩ := (H2.out.at_ 3 rfl).c2
  have hlw := (H2.out.at_ 3 rfl).lt
  obtain ⟨r0, r1⟩ := (H2.out.at_ 0 rfl).c2
  have g0 := (H2.out.at_ 0 rfl).fz 0; have g1 := (H2.out.at_ 0 rfl).fz 1; have g2 := (H2.out.at_ 3 rfl).fz 0
  go_wp2
  have HP := H2.out.put2 0 rfl (y0 := .slice A n cap) (y1 := .int .i64 ((0 : Nat) : Int)) rfl (by simp)
  exact bodyPost_ret (results_cell_row rfl _ _ (w.heap.size + 1 + 1 + 1) _ _ _ _ rfl (HP.at_ 0 rfl) Try.underlying28 rfl rfl) rfl ⟨A, cap, rfl, ⟨HO.out.below HP.below, Or.inl rfl⟩, HP.below⟩

set_option maxRecDepth 100000 in
set_option maxHeartbeats 1600000 in
theorem rput_push (w : World) (v : Value) (M : List Pr) (R : Nat) (p q t f m a : Int) (x1 x2 x3 x4 : Bool) (h : PairsOwn w 0 v M) (hl : M.length ≤ 900) (hR : 0 < R) (hx : idxF (keysK M) (p, q, t) = none) (hr : M.length < R) :
    Calls Try.prog 26 #[.agg #[v, .int .i64 R], .agg #[.int .i64 p, .int .i64 q, .int .u64 t], .agg #[.int .u64 f, .bool x1, .bool x2, .bool x3, .bool x4, .int .u8 m], .int .i64 a] w fun e w' => ∃ A c, e = .returned (.agg #[.slice A (putK R M (p, q, t) (f, x1, x2, x3, x4, m) a).length c, .int .i64 R]) ∧ PairsNew w w' v (.slice A (putK R M (p, q, t) (f, x1, x2, x3, x4, m) a).length c) (putK R M (p, q, t) (f, x1, x2, x3, x4, m) a) ∧ Below w.heap.size w w' := by
  obtain ⟨A, cap, rfl⟩ := h.form
  have HF : Hid (∀ w', Below w.heap.size w w' → _) := Lib.hid fun w' (hb : Below w.heap.size w w') => rfind_any w' (.slice A M.length cap) M R p q t (h.below hb) (by omega)
  have HO := Lib.hid h
  have H0 := Lib.hid (Mine.putBs w (.slice A M.length cap) R p q t f m x1 x2 x3 x4)
  rw [hx] at HF
  have hp : putK R M (p, q, t) (f, x1, x2, x3, x4, m) a = M ++ [((p, q, t), (f, x1, x2, x3, x4, m))] := by unfold putK; rw [hx]; show (if R = 0 then M else _) = _; rw [if_neg (by omega), if_neg (by omega)]
  rw [hp, show (M ++ [((p, q, t), (f, x1, x2, x3, x4, m))]).length = M.length + 1 by simp]
  obtain ⟨n, hn⟩ : ∃ n, M.length = n := ⟨_, rfl⟩
  have HND := Lib.hid hn
  rw [hn] at h HO HF H0 hl hr ⊢
  have hR0 : ((R : Int) == 0) = false := by simp; omega
  have hnR : decide ((R : Int) ≤ (n : Int)) = false := by simp; omega
  clear hp hx hn h
  go_enter Try.func26, Try.ntmps26
  go_upto_region 1 with fail
  generalize hw0 : (((w.alloc _).alloc _).alloc _).alloc _ = w0
  have H1 := Lib.hid (H0.out.world hw0)
  clear hw0 H0
  obtain ⟨a0, a1⟩ := (H1.out.at_ 3 rfl).c2
  obtain ⟨b0, b1, b2⟩ := (H1.out.at_ 2 rfl).c3
  go_upto_region 2 with (go_at_call 35; refine (HF.out _ H1.out.below).mono ?_; rintro e w2 ⟨rfl, hb⟩; have H2 := Lib.hid (H1.out.quiet hb); clear hb)
  have e0 : posF none = -1 := rfl
  clear a0 a1 b0 b1 b2 H1
  obtain ⟨a0, a1⟩ := (H2.out.at_ 3 rfl).c2
  have hlw := (H2.out.at_ 3 rfl).lt
  have HOW := Lib.hid (HO.out.below H2.out.below)
  obtain ⟨A5, c5, w5, hr5, ho5, hb5⟩ := copy_pairs HOW.out (by rw [HND.out]; omega) 26
  obtain ⟨A6, c6, w6, hr6, ho6, hb6⟩ := push_pair ho5 (by rw [HND.out]; omega) hb5.size ((p, q, t), (f, x1, x2, x3, x4, m)) 26
  rw [HND.out] at hr5 ho5 hr6 ho6
  have HR5 := Lib.hid hr5
  have HR6 : Hid ((Builtin.append_ #[26, 26] 26 #[.slice A5 n c5, .slice (some ⟨w5.heap.size, 0, none⟩) 1 1]).run Try.prog (w5.alloc (.cells #[.int .i64 p, .int .i64 q, .int .u64 t, .int .u64 f, .bool x1, .bool x2, .bool x3, .bool x4, .int .u8 m] 51)) = .ok (.slice A6 (n + 1) c6) w6) := Lib.hid hr6
  have HO6 := Lib.hid ho6
  have H5 := Lib.hid (H2.out.quiet hb5)
  have H6 := Lib.hid (H2.out.quiet (hb5.trans hb6))
  clear hr5 ho5 hb5 hr6 ho6 hb6
  go_upto_region 12 with (at_builtin; refine list_append_eq rfl (.tmp 46) (.tmp 48) _ _ rfl _ _ _ w5 rfl rfl HR5.out ?_)
  clear a0 a1 hlw
  obtain ⟨b0, b1, b2⟩ := (H5.out.at_ 2 rfl).c3
  obtain ⟨k0, k1, k2, k3, k4, k5⟩ := (H5.out.at_ 1 rfl).c6
  go_upto_region 13 with (at_builtin; refine list_append_eq rfl (.tmp 50) (.tmp 54) _ _ rfl _ _ _ w6 rfl rfl HR6.out ?_)
  clear b0 b1 b2 k0 k1 k2 k3 k4 k5 H5
  obtain ⟨a0, a1⟩ := (H6.out.at_ 3 rfl).c2
  obtain ⟨r0, r1⟩ := (H6.out.at_ 0 rfl).c2
  have g0 := (H6.out.at_ 0 rfl).fz 0; have g1 := (H6.out.at_ 0 rfl).fz 1; have g2 := (H6.out.at_ 3 rfl).fz 0
  have HE := Lib.hid (put_end H6.out HO6.out (by have h4 := (H2.out.at_ 0 rfl).lt; omega) H2.out.size)
  go_wp2
  exact bodyPost_ret (results_cell_row rfl _ _ (w.heap.size + 1 + 1 + 1) _ _ _ _ rfl HE.out.1 Try.underlying28 rfl rfl) rfl ⟨A6, c6, rfl, HE.out.2.1.new, HE.out.2.2⟩

set_option maxRecDepth 100000 in
set_option maxHeartbeats 1600000 in
theorem rput_full (w : World) (v : Value) (M : List Pr) (R : Nat) (p q t f m a : Int) (x1 x2 x3 x4 : Bool) (h : PairsOwn w 0 v M) (hl : M.length ≤ 900) (hR : 0 < R) (hx : idxF (keysK M) (p, q, t) = none) (hr : R ≤ M.length) (ha : I64 a) :
    Calls Try.prog 26 #[.agg #[v, .int .i64 R], .agg #[.int .i64 p, .int .i64 q, .int .u64 t], .agg #[.int .u64 f, .bool x1, .bool x2, .bool x3, .bool x4, .int .u8 m], .int .i64 a] w fun e w' => ∃ A c, e = .returned (.agg #[.slice A (putK R M (p, q, t) (f, x1, x2, x3, x4, m) a).length c, .int .i64 R]) ∧ PairsNew w w' v (.slice A (putK R M (p, q, t) (f, x1, x2, x3, x4, m) a).length c) (putK R M (p, q, t) (f, x1, x2, x3, x4, m) a) ∧ Below w.heap.size w w' := by
  obtain ⟨A, cap, rfl⟩ := h.form
  have HF : Hid (∀ w', Below w.heap.size w w' → _) := Lib.hid fun w' (hb : Below w.heap.size w w') => rfind_any w' (.slice A M.length cap) M R p q t (h.below hb) (by omega)
  have HO := Lib.hid h
  have H0 := Lib.hid (Mine.putBs w (.slice A M.length cap) R p q t f m x1 x2 x3 x4)
  rw [hx] at HF
  have hev : evK M a = M.eraseIdx (pickF a M.length) := by unfold evK; rw [if_neg (by omega)]
  have hp : putK R M (p, q, t) (f, x1, x2, x3, x4, m) a = evK M a ++ [((p, q, t), (f, x1, x2, x3, x4, m))] := by unfold putK; rw [hx]; show (if R = 0 then M else _) = _; rw [if_neg (by omega), if_pos hr]
  have hle := evK_len M a
  rw [hp, show (evK M a ++ [((p, q, t), (f, x1, x2, x3, x4, m))]).length = (evK M a).length + 1 by simp]
  have hW : ∀ w1, Below w.heap.size w w1 → _ := fun w1 hb => rwithout_any w1 (.slice A M.length cap) M R (pickF a M.length) (h.below hb) (by omega)
  have hq := fun w' => rpicked_any a M.length w' ha (by omega) (by omega)
  rw [cutI_nat, ← hev] at hW
  generalize evK M a = D at hW hle ⊢
  obtain ⟨d, hd⟩ : ∃ d, D.length = d := ⟨_, rfl⟩
  have HND := Lib.hid hd
  rw [hd] at hW hle ⊢
  obtain ⟨n, hn⟩ : ∃ n, M.length = n := ⟨_, rfl⟩
  rw [hn] at h HO HF H0 hl hr hW hq hle ⊢
  generalize pickF a n = z at hW hq
  have HW := Lib.hid hW
  have HQ := Lib.hid hq
  have hR0 : ((R : Int) == 0) = false := by simp; omega
  have hnR : decide ((R : Int) ≤ (n : Int)) = true := by simp; omega
  have hnR2 : (R : Int) ≤ (n : Int) := by omega
  have hle2 : d ≤ 900 := by omega
  clear hp hx hn h hd hev hW hq ha hle
  go_enter Try.func26, Try.ntmps26
  go_upto_region 1 with fail
  generalize hw0 : (((w.alloc _).alloc _).alloc _).alloc _ = w0
  have H1 := Lib.hid (H0.out.world hw0)
  clear hw0 H0
  obtain ⟨a0, a1⟩ := (H1.out.at_ 3 rfl).c2
  obtain ⟨b0, b1, b2⟩ := (H1.out.at_ 2 rfl).c3
  go_upto_region 2 with (go_at_call 35; refine (HF.out _ H1.out.below).mono ?_; rintro e w2 ⟨rfl, hb⟩; have H2 := Lib.hid (H1.out.quiet hb); clear hb)
  have e0 : posF none = -1 := rfl
  clear a0 a1 b0 b1 b2 H1
  obtain ⟨a0, a1⟩ := (H2.out.at_ 3 rfl).c2
  have hlw := (H2.out.at_ 3 rfl).lt
  go_upto_region 10 with fail
  refine wp_region_still_tail 6 (by kernel_rfl) (by kernel_rfl) ?_
  simp only [List.take_succ_cons, List.take_zero, List.drop_succ_cons, List.drop_zero]
  repeat still_step
  still_call ((HQ.out _).mono fun _ _ ⟨he, hw⟩ => ⟨he, hw.symm⟩)
  repeat still_step
  refine wpStill_nil ?_
  change wpList _ _ _ _ _ w2.drew
  have HB2 := Lib.hid (below_drewN H2.out.below 1)
  go_upto_region 11 with (go_at_call 36; refine (HW.out _ HB2.out).mono ?_; rintro e w3 ⟨A4, c4, rfl, hP, hb⟩; have HP := Lib.hid hP; have HB := Lib.hid (Below.trans (Kept.drew0 w2) hb); have H3 := Lib.hid (H2.out.quiet HB.out); clear hP hb a0 a1; obtain ⟨a0, a1⟩ := (H3.out.at_ 3 rfl).c2; have f0 := (H3.out.at_ 3 rfl).fz 0; have f1 := (H3.out.at_ 3 rfl).fz 1)
  clear a0 a1 f0 f1 hlw
  generalize hw4 : (w3.setCell _ _).setCell _ _ = w4
  have H4 : Hid (Mine w w4 (putBs w.heap.size (.slice A4 d c4) R p q t f m x1 x2 x3 x4) []) := Lib.hid (H3.out.put2 3 rfl hw4)
  have HOW : Hid (PairsOwn w4 0 (.slice A4 d c4) D) := Lib.hid (by
    have hl2 := (H2.out.at_ 3 rfl).lt
    have o1 := HP.out.turn (turn1 w3 w.heap.size 0 (.slice A4 d c4)) fun i hi e => by have := (HP.out.lt hi).1; simp at this; omega
    have o2 := o1.turn (turn1 _ w.heap.size 1 (.int .i64 R)) fun i hi e => by have := (HP.out.lt hi).1; simp at this; omega
    rw [hw4] at o2
    exact o2.zero)
  clear hw4 H3 HP HB
  obtain ⟨a0, a1⟩ := (H4.out.at_ 3 rfl).c2
  have hlw := (H4.out.at_ 3 rfl).lt
  obtain ⟨A5, c5, w5, hr5, ho5, hb5⟩ := copy_pairs HOW.out (by rw [HND.out]; omega) 26
  obtain ⟨A6, c6, w6, hr6, ho6, hb6⟩ := push_pair ho5 (by rw [HND.out]; omega) hb5.size ((p, q, t), (f, x1, x2, x3, x4, m)) 26
  rw [HND.out] at hr5 ho5 hr6 ho6
  have HR5 := Lib.hid hr5
  have HR6 : Hid ((Builtin.append_ #[26, 26] 26 #[.slice A5 d c5, .slice (some ⟨w5.heap.size, 0, none⟩) 1 1]).run Try.prog (w5.alloc (.cells #[.int .i64 p, .int .i64 q, .int .u64 t, .int .u64 f, .bool x1, .bool x2, .bool x3, .bool x4, .int .u8 m] 51)) = .ok (.slice A6 (d + 1) c6) w6) := Lib.hid hr6
  have HO6 := Lib.hid ho6
  have H5 := Lib.hid (H4.out.quiet hb5)
  have H6 := Lib.hid (H4.out.quiet (hb5.trans hb6))
  clear hr5 ho5 hb5 hr6 ho6 hb6
  go_upto_region 12 with (at_builtin; refine list_append_eq rfl (.tmp 46) (.tmp 48) _ _ rfl _ _ _ w5 rfl rfl HR5.out ?_)
  clear a0 a1 hlw
  obtain ⟨b0, b1, b2⟩ := (H5.out.at_ 2 rfl).c3
  obtain ⟨k0, k1, k2, k3, k4, k5⟩ := (H5.out.at_ 1 rfl).c6
  go_upto_region 13 with (at_builtin; refine list_append_eq rfl (.tmp 50) (.tmp 54) _ _ rfl _ _ _ w6 rfl rfl HR6.out ?_)
  clear b0 b1 b2 k0 k1 k2 k3 k4 k5 H5
  obtain ⟨a0, a1⟩ := (H6.out.at_ 3 rfl).c2
  obtain ⟨r0, r1⟩ := (H6.out.at_ 0 rfl).c2
  have g0 := (H6.out.at_ 0 rfl).fz 0; have g1 := (H6.out.at_ 0 rfl).fz 1; have g2 := (H6.out.at_ 3 rfl).fz 0
  have HE := Lib.hid (put_end H6.out HO6.out (by have h4 := (H4.out.at_ 0 rfl).lt; omega) H4.out.size)
  go_wp2
  exact bodyPost_ret (results_cell_row rfl _ _ (w.heap.size + 1 + 1 + 1) _ _ _ _ rfl HE.out.1 Try.underlying28 rfl rfl) rfl ⟨A6, c6, rfl, HE.out.2.1.new, HE.out.2.2⟩

theorem rputC_any (w : World) (v : Value) (M : List Pr) (R : Nat) (p q t f m a : Int) (x1 x2 x3 x4 : Bool) (h : PairsOwn w 0 v M) (hl : M.length ≤ 900) (ha : I64 a) :
    Calls Try.prog 26 #[.agg #[v, .int .i64 R], .agg #[.int .i64 p, .int .i64 q, .int .u64 t], .agg #[.int .u64 f, .bool x1, .bool x2, .bool x3, .bool x4, .int .u8 m], .int .i64 a] w fun e w' => ∃ A c, e = .returned (.agg #[.slice A (putK R M (p, q, t) (f, x1, x2, x3, x4, m) a).length c, .int .i64 R]) ∧ PairsNew w w' v (.slice A (putK R M (p, q, t) (f, x1, x2, x3, x4, m) a).length c) (putK R M (p, q, t) (f, x1, x2, x3, x4, m) a) ∧ Below w.heap.size w w' := by
  cases hx : idxF (keysK M) (p, q, t) with
  | some i => exact rput_found w v M R p q t f m a x1 x2 x3 x4 h hl hx
  | none =>
    rcases Nat.eq_zero_or_pos R with hR | hR
    · exact rput_none w v M R p q t f m a x1 x2 x3 x4 h hl hR hx
    · rcases Nat.lt_or_ge M.length R with hr | hr
      · exact rput_push w v M R p q t f m a x1 x2 x3 x4 h hl hR hx hr
      · exact rput_full w v M R p q t f m a x1 x2 x3 x4 h hl hR hx hr ha
end Go.Proofs.Ytefllfoilkbboaa
/- Layer 10: real, lined, key; the document's example (awake). -/
namespace Go.Proofs.Ytefllfoilkbboaa
set_option linter.unusedVariables false
set_option linter.unusedSimpArgs false
open Go.ChangeShapes Go.WideShapes Go.ChangeAt Go.RowKit Go.Joins

theorem realK_any (p q t : Int) (w : World) :
    Calls Try.prog 15 #[.agg #[.int .i64 p, .int .i64 q, .int .u64 t]] w fun e w' => e = .returned (.agg #[.int .i64 p, .int .i64 q, .int .u64 t]) ∧ Below w.heap.size w w' := by
  go_enter Try.func15, Try.ntmps15
  go_wp2
  exact bodyPost_ret (results_cell_row rfl _ _ (w.heap.size + 1) _ _ _ _ rfl (heap_alloc2_new w _ _) Try.underlying45 rfl rfl) rfl ⟨rfl, (below_alloc1 _ _).alloc (by simp) _⟩

set_option maxRecDepth 100000 in
theorem linedL_any (f m : Int) (x1 x2 x3 x4 : Bool) (w : World) :
    Calls Try.prog 16 #[.agg #[.int .u64 f, .bool x1, .bool x2, .bool x3, .bool x4, .int .u8 m]] w fun e w' => e = .returned (.agg #[.int .u64 f, .bool x1, .bool x2, .bool x3, .bool x4, .int .u8 m]) ∧ Below w.heap.size w w' := by
  go_enter Try.func16, Try.ntmps16
  go_wp2
  exact bodyPost_ret (results_cell_row rfl _ _ (w.heap.size + 1) _ _ _ _ rfl (heap_alloc2_new w _ _) Try.underlying49 rfl rfl) rfl ⟨rfl, (below_alloc1 _ _).alloc (by simp) _⟩

theorem keyN_any (n : Int) (w : World) (h0 : 0 ≤ n) (h1 : n ≤ 3) :
    Calls Try.prog 25 #[.int .i64 n] w fun e w' => e = .returned (.agg #[.int .i64 (n % 3), .int .i64 1, .int .u64 n]) ∧ Below w.heap.size w w' := by
  have e1 : n.tmod 3 = n % 3 := Int.tmod_eq_emod_of_nonneg h0
  have e2 : IntKind.u64.wrap n = n := by show n % 18446744073709551616 = n; omega
  go_enter Try.func25, Try.ntmps25
  go_wp2
  exact bodyPost_ret (results_cell_row rfl _ _ w.heap.size _ _ _ _ rfl (last_obj _ _) Try.underlying34 rfl rfl) rfl ⟨rfl, below_alloc1 _ _⟩

theorem KeysOwn.at_ {w : World} {B : Nat} {v : Value} {ks : List Ky} (h : KeysOwn w B v ks) {k : Nat} (hk : k < ks.length) {p q t : Int} (he : ks.getD k zK = (p, q, t)) :
    ∃ g cap, v = .slice (some ⟨g, 0, none⟩) ks.length cap ∧ g < w.heap.size ∧ w.cell? ⟨g, k * 3, none⟩ = some (.int .i64 p) ∧ w.cell? ⟨g, k * 3 + 1, none⟩ = some (.int .i64 q) ∧ w.cell? ⟨g, k * 3 + 2, none⟩ = some (.int .u64 t) := by
  rcases h.2 with ⟨_, hn⟩ | ⟨g, cap, cur, rfl, _⟩
  · omega
  · have hc := World.ownsRow.cells h (g := g) rfl
    have e : ∀ j, j < 3 → (kcs ks)[k * 3 + j]? = (kc (ks.getD k zK))[j]? := fun j hj => flat_get kc_len ks zK k j hk hj
    have e2 : ∀ j u, j < 3 → (kc (ks.getD k zK))[j]? = some u → w.cell? ⟨g, k * 3 + j, none⟩ = some u := fun j u hj hu => by
      have := hc (k * 3 + j) u ((e j hj).trans hu)
      rwa [add2] at this
    rw [he] at e2
    exact ⟨g, cap, rfl, (World.ownsRow.lt h g rfl).2, e2 0 _ (by omega) rfl, e2 1 _ (by omega) rfl, e2 2 _ (by omega) rfl⟩

/-- what the example's last line keeps -/
abbrev AwS (w0 w' : World) (g b : Nat) : Prop :=
  w'.cell? ⟨g, 0, none⟩ = some (.int .i64 2) ∧ w'.cell? ⟨g, 1, none⟩ = some (.int .i64 1) ∧ w'.cell? ⟨g, 2, none⟩ = some (.int .u64 2) ∧ w'.cell? ⟨g, 3, none⟩ = some (.int .i64 0) ∧ w'.cell? ⟨g, 4, none⟩ = some (.int .i64 1) ∧ w'.cell? ⟨g, 5, none⟩ = some (.int .u64 3) ∧ w'.cell? ⟨b, 0, none⟩ = some (.int .u64 3) ∧ Kept w0 w'
theorem awS_step {w0 w1 w2 : World} {g b : Nat} (h : AwS w0 w1 g b) (hb : Below w1.heap.size w1 w2) : AwS w0 w2 g b := by
  obtain ⟨h0, h1, h2, h3, h4, h5, h6, hk⟩ := h
  have lg := World.block_lt_of_cell? _ _ h0
  exact ⟨(hb.cell lg).trans h0, (hb.cell (p := ⟨g, 1, none⟩) lg).trans h1, (hb.cell (p := ⟨g, 2, none⟩) lg).trans h2, (hb.cell (p := ⟨g, 3, none⟩) lg).trans h3, (hb.cell (p := ⟨g, 4, none⟩) lg).trans h4, (hb.cell (p := ⟨g, 5, none⟩) lg).trans h5, (hb.cell (World.block_lt_of_cell? _ _ h6)).trans h6, Below.trans hk (Below.mono hb (Below.size hk))⟩
theorem key_aw {w0 w1 : World} {g b : Nat} (n : Int) (h0 : 0 ≤ n) (h1 : n ≤ 3) (h : AwS w0 w1 g b) :
    Calls Try.prog 25 #[.int .i64 n] w1 fun e w2 => e = .returned (.agg #[.int .i64 (n % 3), .int .i64 1, .int .u64 n]) ∧ AwS w0 w2 g b :=
  (keyN_any n w1 h0 h1).mono fun _ _ ⟨e, hb⟩ => ⟨e, awS_step h hb⟩

/-- the example's lines ahead of the k-th Put -/
def awL : Nat → List Pr
  | 1 => []
  | 2 => [((1, 1, 1), (1, false, false, false, false, 0))]
  | 3 => [((1, 1, 1), (1, false, false, false, false, 0)), ((2, 1, 2), (2, false, false, false, false, 0))]
  | _ => [((2, 1, 2), (2, false, false, false, false, 0)), ((0, 1, 3), (3, false, false, false, false, 0))]
theorem awL_step (k : Nat) (h1 : 1 ≤ k) (h3 : k ≤ 3) : putK 2 (awL k) ((k : Int) % 3, 1, (k : Int)) ((k : Int), false, false, false, false, 0) 0 = awL (k + 1) := by
  have : k = 1 ∨ k = 2 ∨ k = 3 := by omega
  rcases this with rfl | rfl | rfl <;> rfl

set_option maxRecDepth 100000 in
set_option maxHeartbeats 3200000 in
theorem awake10_any (w : World) : Calls Try.prog 9 #[] w fun e w' => e = .returned (.bool true) ∧ Below w.heap.size w w' := by
  have M0 := Lib.hid (Mine.start w)
  go_enter Try.func9, Try.ntmps9
  go_wp2_with (go_at_call 10; refine (newC_any _ _).mono ?_; rintro e w1 ⟨rfl, hc1, hb1⟩; have H1 := Lib.hid (LawC.first M0.out hc1 hb1); clear hc1 hb1)
  obtain ⟨c, hc⟩ : ∃ c, w.heap.size + 1 = c := ⟨_, rfl⟩
  rw [hc] at H1 ⊢
  clear hc
  go_loopw [2] (fun i wr => ∃ (k : Nat) (G : Nat → Prop), 1 ≤ k ∧ k ≤ 4 ∧ i = .int .i64 k ∧ LawC w wr (From w.heap.size) c 2 (awL k) G [] []) (fun i _ => (4 - intOf i).toNat)
  case atStart => exact ⟨1, _, by omega, by omega, rfl, H1.out⟩
  case round =>
    obtain ⟨k, G, hk1, hk4, rfl, hL⟩ := hrel
    have HL := Lib.hid hL
    clear hL H1
    by_cases hlt : k ≤ 3
    · have e2 : IntKind.u64.wrap (k : Int) = (k : Int) := by show (k : Int) % 18446744073709551616 = k; omega
      have hm0 : 0 ≤ (k : Int) % 3 := by omega
      have hm1 : (k : Int) % 3 < 3 := by omega
      have HA := Lib.hid (awL_step k hk1 hlt)
      have HK : Hid (OkK ((k : Int) % 3, 1, (k : Int))) := Lib.hid ⟨⟨by show -9223372036854775808 ≤ (k : Int) % 3; omega, by show (k : Int) % 3 ≤ 9223372036854775807; omega⟩, ⟨by show (-9223372036854775808 : Int) ≤ 1; omega, by show (1 : Int) ≤ 9223372036854775807; omega⟩, ⟨by show (0 : Int) ≤ k; omega, by show (k : Int) < 18446744073709551616; omega⟩⟩
      generalize hz : (k : Int) % 3 = z at HA HK hm0 hm1
      go_wp2_with (first | (go_at_call 25; refine (keyN_any k _ (by omega) (by omega)).mono ?_; rw [hz]; rintro e w2 ⟨rfl, hb2⟩; have H2 := Lib.hid (HL.out.quiet hb2); clear hb2) | (go_at_call 19; refine (putC_any H2.out.wk.cac z 1 k k 0 0 false false false false HK.out ⟨by decide, by decide⟩).mono ?_; rw [HA.out]; rintro e w3 ⟨rfl, hc3, ht3⟩; have H3 := Lib.hid (H2.out.did hc3 ht3); clear hc3 ht3))
      go_roundw
      case rel => exact ⟨k + 1, _, by omega, by omega, by go_num, H3.out⟩
      case measure => simp [intOf]; omega
    · obtain rfl : k = 4 := by omega
      have hok3 : OkK (0, 1, 3) := ⟨⟨by decide, by decide⟩, ⟨by decide, by decide⟩, ⟨by decide, by decide⟩⟩
      have hok1 : OkK (1, 1, 1) := ⟨⟨by decide, by decide⟩, ⟨by decide, by decide⟩, ⟨by decide, by decide⟩⟩
      have HA3 := Lib.hid hok3
      have HA1 := Lib.hid hok1
      clear hok3 hok1
      go_upto_region 9 with (go_at_call 13; refine (keysC_any HL.out.wk.cac).mono ?_; rintro e w2 ⟨A2, c2, rfl, hk2, hb2⟩; have H2 := Lib.hid (HL.out.made hb2 hk2 (Nat.le_refl _)); have HK2 := Lib.hid (show KeysOwn w2 wr.heap.size (.slice A2 (awL 4).length c2) (keysK (awL 4)) from hk2); clear hk2 hb2)
      obtain ⟨g, cap, hv, hg, k0, k1, k2⟩ := HK2.out.at_ (k := 0) (by decide) (p := 2) (q := 1) (t := 2) rfl
      obtain ⟨g', cap', hv', _, k3, k4, k5⟩ := HK2.out.at_ (k := 1) (by decide) (p := 0) (q := 1) (t := 3) rfl
      have e2 : (awL 4).length = 2 := rfl
      have e3 : (keysK (awL 4)).length = 2 := rfl
      rw [e2, e3] at hv hv'
      obtain ⟨rfl, rfl⟩ : A2 = some ⟨g, 0, none⟩ ∧ c2 = cap := by simpa using hv
      obtain ⟨rfl, rfl⟩ : g = g' ∧ c2 = cap' := by simpa using hv'
      have HB2 : Hid (Below w2.heap.size w2 w2) := Lib.hid (Below.refl _ _)
      clear hv hv' HK2
      rw [e2]
      go_upto_region 10 with (first | (go_at_call 25; refine (keyN_any 3 _ (by decide) (by decide)).mono ?_; rintro e w3 ⟨rfl, hb3⟩; have H3 := Lib.hid (H2.out.quiet hb3); have HB3 : Hid (Below w2.heap.size w2 w3) := Lib.hid hb3; clear hb3 H2) | (go_at_call 14; refine (getC_any H3.out.wk.cac 0 1 3 3 0 false false false false HA3.out rfl true rfl).mono ?_; rintro e w4 ⟨rfl, hb4⟩; have H4 := Lib.hid (H3.out.quiet hb4); have HB4 : Hid (Below w2.heap.size w2 w4) := Lib.hid (HB3.out.trans (hb4.mono HB3.out.size)); clear hb4 H3 HB3))
      generalize hw5 : w4.alloc _ = w5
      have H5 := Lib.hid ((H4.out.new (b := w4.heap.size) rfl #[.int .u64 3, .bool false, .bool false, .bool false, .bool false, .int .u8 0] 38).world hw5)
      have HB5 : Hid (Below w2.heap.size w2 w5) := Lib.hid (by rw [← hw5]; exact HB4.out.alloc HB4.out.size _)
      clear hw5 H4 HB4
      go_upto_region 11 with (first | (go_at_call 25; refine (keyN_any 1 _ (by decide) (by decide)).mono ?_; rintro e w6 ⟨rfl, hb6⟩; have H6 := Lib.hid (H5.out.quiet hb6); have HB6 : Hid (Below w2.heap.size w2 w6) := Lib.hid (HB5.out.trans (hb6.mono HB5.out.size)); clear hb6 H5 HB5) | (go_at_call 14; refine (getC_any H6.out.wk.cac 1 1 1 0 0 false false false false HA1.out rfl false rfl).mono ?_; rintro e w7 ⟨rfl, hb7⟩; have H7 := Lib.hid (H6.out.quiet hb7); have HB7 : Hid (Below w2.heap.size w2 w7) := Lib.hid (HB6.out.trans (hb7.mono HB6.out.size)); clear hb7 H6 HB6))
      generalize hw8 : w7.alloc _ = w8
      have H8 := Lib.hid ((H7.out.new (b := w7.heap.size) rfl #[.int .u64 0, .bool false, .bool false, .bool false, .bool false, .int .u8 0] 38).world hw8)
      have HB8 : Hid (Below w2.heap.size w2 w8) := Lib.hid (by rw [← hw8]; exact HB7.out.alloc HB7.out.size _)
      clear hw8 H7 HB7
      have HS : AwS w8 w8.drew g w4.heap.size := ⟨(HB8.out.cell hg).trans k0, (HB8.out.cell (p := ⟨g, 1, none⟩) hg).trans k1, (HB8.out.cell (p := ⟨g, 2, none⟩) hg).trans k2, (HB8.out.cell (p := ⟨g, 3, none⟩) hg).trans k3, (HB8.out.cell (p := ⟨g, 4, none⟩) hg).trans k4, (HB8.out.cell (p := ⟨g, 5, none⟩) hg).trans k5, (H8.out.at_ 1 rfl).c6.1, Kept.drew0 _⟩
      have q1 : ∀ w, (binOp .eql 34 (.agg #[.int .i64 2, .int .i64 1, .int .u64 2]) (.agg #[.int .i64 2, .int .i64 1, .int .u64 2])).run Try.prog w = .ok (.bool true) w := fun w => eqlK 2 1 2 2 1 2 w
      have q2 : ∀ w, (binOp .eql 34 (.agg #[.int .i64 0, .int .i64 1, .int .u64 3]) (.agg #[.int .i64 0, .int .i64 1, .int .u64 3])).run Try.prog w = .ok (.bool true) w := fun w => eqlK 0 1 3 0 1 3 w
      clear k0 k1 k2 k3 k4 k5 hg
      generalize w4.heap.size = b at HS ⊢
      generalize w7.heap.size = b7 at *
      go_region_held3 (fun w' => w'.cell? ⟨g, 0, none⟩ = some (.int .i64 2) ∧ w'.cell? ⟨g, 1, none⟩ = some (.int .i64 1) ∧ w'.cell? ⟨g, 2, none⟩ = some (.int .u64 2) ∧ w'.cell? ⟨g, 3, none⟩ = some (.int .i64 0) ∧ w'.cell? ⟨g, 4, none⟩ = some (.int .i64 1) ∧ w'.cell? ⟨g, 5, none⟩ = some (.int .u64 3) ∧ w'.cell? ⟨b, 0, none⟩ = some (.int .u64 3) ∧ Kept w8 w')
        (first | assumption | exact HS)
        (first | (go_at_call 25; refine (key_aw _ (by decide) (by decide) (by assumption)).mono ?_; rintro e w9 ⟨rfl, hS9⟩))
      all_goals
        rename_i hH
        go_wp2
        go_ret
        exact ⟨rfl, (H8.out.quiet hH.2.2.2.2.2.2.2).below⟩
end Go.Proofs.Ytefllfoilkbboaa
/- Layer 10's do: its boxes, beside the cache and the document's row. -/
namespace Go.Proofs.Ytefllfoilkbboaa
set_option linter.unusedVariables false
set_option linter.unusedSimpArgs false
open Go.ChangeShapes Go.WideShapes Go.ChangeAt Go.RowKit Go.Joins

/-- the boxes of do: the answer's (whatever is in it), the deed's, the document's cache -/
abbrev doBs (b : Nat) (y0 y1 v : Value) (S kd pk p q t f m : Int) (x1 x2 x3 x4 : Bool) : List BoxD :=
  [⟨b + 1 + 1, #[y0, y1], 28⟩, ⟨b + 1, #[.int .i64 kd, .int .i64 pk, .int .i64 p, .int .i64 q, .int .u64 t, .int .u64 f, .bool x1, .bool x2, .bool x3, .bool x4, .int .u8 m], 40⟩, ⟨b, #[v, .int .i64 S], 28⟩]
/-- the document's row -/
abbrev doRow (v : Value) (M : List Pr) : RowD := ⟨51, 9, v, M.length, pcs M⟩

structure DoM (w w' : World) (F : Nat → Prop) (c R : Nat) (L : List Pr) (b : Nat) (v : Value) (M : List Pr) (S kd pk p q t f m : Int) (x1 x2 x3 x4 : Bool) : Prop where
  law : ∃ y0 y1 G, LawC w w' F c R L G (doBs b y0 y1 v S kd pk p q t f m x1 x2 x3 x4) [doRow v M]
/-- .. and a row v' with M' -/
structure DoN (w w' : World) (F : Nat → Prop) (c R : Nat) (L : List Pr) (b : Nat) (v v' : Value) (M' : List Pr) (S kd pk p q t f m : Int) (x1 x2 x3 x4 : Bool) : Prop where
  law : ∃ y0 y1 G, LawC w w' F c R L G (doBs b y0 y1 v S kd pk p q t f m x1 x2 x3 x4) [doRow v' M']
abbrev DoS (w w' : World) (F : Nat → Prop) (c R : Nat) (L : List Pr) (b : Nat) (v : Value) (M : List Pr) (S kd pk p q t f m : Int) (x1 x2 x3 x4 : Bool) : Prop :=
  w'.cell? ⟨b, 0, none⟩ = some v ∧ w'.cell? ⟨b, 1, none⟩ = some (.int .i64 S) ∧ w'.cell? ⟨b + 1, 1, none⟩ = some (.int .i64 pk) ∧ w'.cell? ⟨b + 1, 2, none⟩ = some (.int .i64 p) ∧ w'.cell? ⟨b + 1, 3, none⟩ = some (.int .i64 q) ∧ w'.cell? ⟨b + 1, 4, none⟩ = some (.int .u64 t) ∧ w'.cell? ⟨b + 1, 5, none⟩ = some (.int .u64 f) ∧ w'.cell? ⟨b + 1, 6, none⟩ = some (.bool x1) ∧ w'.cell? ⟨b + 1, 7, none⟩ = some (.bool x2) ∧ w'.cell? ⟨b + 1, 8, none⟩ = some (.bool x3) ∧ w'.cell? ⟨b + 1, 9, none⟩ = some (.bool x4) ∧ w'.cell? ⟨b + 1, 10, none⟩ = some (.int .u8 m) ∧ DoM w w' F c R L b v M S kd pk p q t f m x1 x2 x3 x4

/-- what do answers at the end -/
def DoE (w w' : World) (F : Nat → Prop) (c R : Nat) (L' : List Pr) (v' : Value) (M' : List Pr) : Prop :=
  PairsOwn w' 0 v' M' ∧ ∃ G, Ck w w' F c R L' G ∧ ∀ i, v'.ownBlock = some i → ¬ G i

section
variable {w w1 w2 w4 : World} {F : Nat → Prop} {c R b : Nat} {L L' : List Pr} {v v' : Value} {M M' : List Pr} {S kd pk p q t f m : Int} {x1 x2 x3 x4 : Bool}

theorem DoM.s (h : DoM w w1 F c R L b v M S kd pk p q t f m x1 x2 x3 x4) : DoS w w1 F c R L b v M S kd pk p q t f m x1 x2 x3 x4 := by
  obtain ⟨y0, y1, G, hL⟩ := h.law
  obtain ⟨a0, a1⟩ := (hL.at_ 2 rfl).c2
  obtain ⟨d0, d1, d2, d3, d4, d5, d6, d7, d8, d9, d10⟩ := (hL.at_ 1 rfl).c11
  exact ⟨a0, a1, d1, d2, d3, d4, d5, d6, d7, d8, d9, d10, h⟩
theorem DoM.quiet (h : DoM w w1 F c R L b v M S kd pk p q t f m x1 x2 x3 x4) (hb : Below w1.heap.size w1 w2) : DoM w w2 F c R L b v M S kd pk p q t f m x1 x2 x3 x4 := by
  obtain ⟨y0, y1, G, hL⟩ := h.law
  exact ⟨y0, y1, G, hL.quiet hb⟩
theorem doS_m (h : DoS w w1 F c R L b v M S kd pk p q t f m x1 x2 x3 x4) : DoM w w1 F c R L b v M S kd pk p q t f m x1 x2 x3 x4 := h.2.2.2.2.2.2.2.2.2.2.2.2
theorem doS_step (h : DoS w w1 F c R L b v M S kd pk p q t f m x1 x2 x3 x4) (hb : Below w1.heap.size w1 w2) : DoS w w2 F c R L b v M S kd pk p q t f m x1 x2 x3 x4 := ((doS_m h).quiet hb).s
theorem doS_set (h : DoS w w1 F c R L b v M S kd pk p q t f m x1 x2 x3 x4) (u0 u1 : Value) : DoS w ((w1.setCell ⟨b + 1 + 1, 0, none⟩ u0).setCell ⟨b + 1 + 1, 1, none⟩ u1) F c R L b v M S kd pk p q t f m x1 x2 x3 x4 := by
  obtain ⟨y0, y1, G, hL⟩ := (doS_m h).law
  exact DoM.s ⟨u0, u1, G, hL.put 0 rfl (turnB2 _ _ _ _) (setB2 (hL.at_ 0 rfl) _ _) (by rfl)⟩
theorem DoM.res (h : DoM w w1 F c R L b v M S kd pk p q t f m x1 x2 x3 x4) : ∃ y0 y1, w1.cell? ⟨b + 1 + 1, 0, none⟩ = some y0 ∧ w1.cell? ⟨b + 1 + 1, 1, none⟩ = some y1 ∧ w1.frozen? ⟨b + 1 + 1, 0, none⟩ = false ∧ w1.frozen? ⟨b + 1 + 1, 1, none⟩ = false := by
  obtain ⟨y0, y1, G, hL⟩ := h.law
  have hB := hL.at_ 0 rfl
  exact ⟨y0, y1, hB.c2.1, hB.c2.2, hB.fz 0, hB.fz 1⟩
theorem DoM.pairs (h : DoM w w1 F c R L b v M S kd pk p q t f m x1 x2 x3 x4) : PairsOwn w1 0 v M := by
  obtain ⟨y0, y1, G, hL⟩ := h.law
  exact hL.of_ 0 rfl
/-- the document's call has answered -/
theorem DoM.newRow (h : DoM w w1 F c R L b v M S kd pk p q t f m x1 x2 x3 x4) (hn : PairsNew w1 w2 v v' M') (hb : Below w1.heap.size w1 w2) : DoN w w2 F c R L b v v' M' S kd pk p q t f m x1 x2 x3 x4 := by
  obtain ⟨y0, y1, G, hL⟩ := h.law
  have h2 := hL.quiet hb
  refine ⟨y0, y1, G, ⟨h2.wk, ⟨h2.hold.box, ?_, h2.hold.once, h2.hold.lt⟩, h2.low⟩⟩
  intro r hr
  rw [List.mem_singleton.1 hr]
  refine ⟨hn.1, fun i hi hg => ?_⟩
  rcases hn.2 with e | e
  · exact h2.off 0 rfl i (by rw [← e]; exact hi) hg
  · have h3 := e i hi
    have h4 := hL.hold.lt i hg
    omega
theorem DoN.fin (h : DoN w w4 F c R L b v v' M' S kd pk p q t f m x1 x2 x3 x4) (u0 u1 : Value) :
    Blk ((w4.setCell ⟨b + 1 + 1, 0, none⟩ u0).setCell ⟨b + 1 + 1, 1, none⟩ u1) (b + 1 + 1) #[u0, u1] 28 ∧ DoE w ((w4.setCell ⟨b + 1 + 1, 0, none⟩ u0).setCell ⟨b + 1 + 1, 1, none⟩ u1) F c R L v' M' := by
  obtain ⟨y0, y1, G, hL⟩ := h.law
  have h5 := hL.put 0 rfl (turnB2 w4 (b + 1 + 1) u0 u1) (setB2 (hL.at_ 0 rfl) u0 u1) (by rfl)
  exact ⟨h5.at_ 0 rfl, h5.of_ 0 rfl, G, h5.wk, h5.off 0 rfl⟩
theorem DoM.same (h : DoM w w1 F c R L b v M S kd pk p q t f m x1 x2 x3 x4) : DoN w w1 F c R L b v v M S kd pk p q t f m x1 x2 x3 x4 := ⟨h.law⟩
/-- do begins -/
theorem DoM.start (h : Cac w F c R L) (hx : PairsOwn w 0 v M) (hoff : ∀ i, v.ownBlock = some i → ¬ F i) (S kd pk p q t f m : Int) (x1 x2 x3 x4 : Bool) :
    DoM w (((w.alloc (.cells #[v, .int .i64 S] 28)).alloc (.cells #[.int .i64 kd, .int .i64 pk, .int .i64 p, .int .i64 q, .int .u64 t, .int .u64 f, .bool x1, .bool x2, .bool x3, .bool x4, .int .u8 m] 40)).alloc (.cells #[.slice none 0 0, .int .i64 0] 28)) F c R L w.heap.size v M S kd pk p q t f m x1 x2 x3 x4 := by
  have h0 := (LawC.start h).got hx (fun i hi hg => hoff i hi hg.1)
  exact ⟨_, _, _, ((h0.new (b := w.heap.size) rfl _ _).new (b := w.heap.size + 1) (by simp) _ _).new (b := w.heap.size + 1 + 1) (by simp) _ _⟩
/-- the program's call has turned the cache -/
theorem DoM.cac (h : DoM w w1 F c R L b v M S kd pk p q t f m x1 x2 x3 x4) : ∃ G, Cac w1 G c R L ∧ ∀ w4 L', Cac w4 (Since G w1) c R L' → Turn G w1 w4 → DoM w w4 F c R L' b v M S kd pk p q t f m x1 x2 x3 x4 := by
  obtain ⟨y0, y1, G, hL⟩ := h.law
  exact ⟨G, hL.wk.cac, fun w4 L' hc ht => ⟨y0, y1, _, hL.did hc ht⟩⟩

theorem real_do (h : DoS w w1 F c R L b v M S kd pk p q t f m x1 x2 x3 x4) :
    Calls Try.prog 15 #[.agg #[.int .i64 p, .int .i64 q, .int .u64 t]] w1 fun e w2 => e = .returned (.agg #[.int .i64 p, .int .i64 q, .int .u64 t]) ∧ DoS w w2 F c R L b v M S kd pk p q t f m x1 x2 x3 x4 :=
  (realK_any p q t w1).mono fun _ _ ⟨e, hb⟩ => ⟨e, doS_step h hb⟩
theorem lined_do {f' m' : Int} {z1 z2 z3 z4 : Bool} (h : DoS w w1 F c R L b v M S kd pk p q t f m x1 x2 x3 x4) :
    Calls Try.prog 16 #[.agg #[.int .u64 f', .bool z1, .bool z2, .bool z3, .bool z4, .int .u8 m']] w1 fun e w2 => e = .returned (.agg #[.int .u64 f', .bool z1, .bool z2, .bool z3, .bool z4, .int .u8 m']) ∧ DoS w w2 F c R L b v M S kd pk p q t f m x1 x2 x3 x4 :=
  (linedL_any f' m' z1 z2 z3 z4 w1).mono fun _ _ ⟨e, hb⟩ => ⟨e, doS_step h hb⟩
theorem rput_do {S : Nat} (h : DoS w w1 F c R L b v M S kd pk p q t f m x1 x2 x3 x4) (hM : M.length ≤ 900) (ha : I64 pk) :
    Calls Try.prog 26 #[.agg #[v, .int .i64 S], .agg #[.int .i64 p, .int .i64 q, .int .u64 t], .agg #[.int .u64 f, .bool x1, .bool x2, .bool x3, .bool x4, .int .u8 m], .int .i64 pk] w1 fun e w2 => ∃ A d, e = .returned (.agg #[.slice A (putK S M (p, q, t) (f, x1, x2, x3, x4, m) pk).length d, .int .i64 S]) ∧
      Hid (DoN w w2 F c R L b v (.slice A (putK S M (p, q, t) (f, x1, x2, x3, x4, m) pk).length d) (putK S M (p, q, t) (f, x1, x2, x3, x4, m) pk) S kd pk p q t f m x1 x2 x3 x4) ∧ DoS w w2 F c R L b v M S kd pk p q t f m x1 x2 x3 x4 ∧
      ∃ y0 y1, w2.cell? ⟨b + 1 + 1, 0, none⟩ = some y0 ∧ w2.cell? ⟨b + 1 + 1, 1, none⟩ = some y1 ∧ w2.frozen? ⟨b + 1 + 1, 0, none⟩ = false ∧ w2.frozen? ⟨b + 1 + 1, 1, none⟩ = false :=
  (rputC_any w1 v M S p q t f m pk x1 x2 x3 x4 (doS_m h).pairs hM ha).mono fun _ _ ⟨A, d, e, hn, hb⟩ => ⟨A, d, e, (doS_m h).newRow hn hb, doS_step h hb, ((doS_m h).quiet hb).res⟩
theorem rdrop_do (h : DoS w w1 F c R L b v M S kd pk p q t f m x1 x2 x3 x4) (hM : M.length ≤ 900) :
    Calls Try.prog 27 #[.agg #[v, .int .i64 S], .agg #[.int .i64 p, .int .i64 q, .int .u64 t]] w1 fun e w2 => ∃ A d, e = .returned (.agg #[.slice A (dropK M (p, q, t)).length d, .int .i64 S]) ∧
      Hid (DoN w w2 F c R L b v (.slice A (dropK M (p, q, t)).length d) (dropK M (p, q, t)) S kd pk p q t f m x1 x2 x3 x4) ∧ DoS w w2 F c R L b v M S kd pk p q t f m x1 x2 x3 x4 ∧
      ∃ y0 y1, w2.cell? ⟨b + 1 + 1, 0, none⟩ = some y0 ∧ w2.cell? ⟨b + 1 + 1, 1, none⟩ = some y1 ∧ w2.frozen? ⟨b + 1 + 1, 0, none⟩ = false ∧ w2.frozen? ⟨b + 1 + 1, 1, none⟩ = false :=
  (rdropC_any w1 v M S p q t (doS_m h).pairs (by omega)).mono fun _ _ ⟨A, d, e, ho, hb⟩ => ⟨A, d, e, (doS_m h).newRow ho.new hb, doS_step h hb, ((doS_m h).quiet hb).res⟩
end
end Go.Proofs.Ytefllfoilkbboaa
