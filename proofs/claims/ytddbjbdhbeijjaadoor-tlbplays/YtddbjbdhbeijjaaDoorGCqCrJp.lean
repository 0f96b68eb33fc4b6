/- Several texts of ours in one: Cq, Cr, Jp. -/
import Derived.Test.YtddbjbdhbeijjaaDoorGCnCoCp
import Derived.Laws.OwnMore
import Derived.Test.YtddbjbdhbeijjaaDoorGCjJeEr
import Derived.Test.YtddbjbdhbeijjaaDoorGVaVrFr
/- The document's cache: what its Put appends and stores. -/
namespace Go.Proofs.YtddbjbdhbeijjaaDoor
set_option linter.unusedVariables false
set_option linter.unusedSimpArgs false
open Go.ChangeShapes Go.WideShapes Go.ChangeAt Go.RowKit Go.Joins

/-- six cells of a line, from o on -/
def set6 (xs : List Value) (o : Nat) (l : Ln) : List Value :=
  (((((xs.set o (.int .u64 l.1)).set (o + 1) (.bool l.2.1)).set (o + 2) (.bool l.2.2.1)).set (o + 3) (.bool l.2.2.2.1)).set (o + 4) (.bool l.2.2.2.2.1)).set (o + 5) (.int .u8 l.2.2.2.2.2)
theorem set6_append (xs ys : List Value) (o : Nat) (l : Ln) : set6 (xs ++ ys) (xs.length + o) l = xs ++ set6 ys o l := by
  unfold set6
  have e : ∀ (zs : List Value) (j : Nat) (u : Value), (xs ++ zs).set (xs.length + o + j) u = xs ++ zs.set (o + j) u := fun zs j u => by
    rw [List.set_append_right _ _ (by omega), show xs.length + o + j - xs.length = o + j by omega]
  have e0 := e ys 0 (.int .u64 l.1)
  rw [Nat.add_zero, Nat.add_zero] at e0
  rw [e0, e, e, e, e, e]
theorem pcs_set (M : List Pr) : ∀ (i : Nat) (k : Ky) (l : Ln), i < M.length → (M.getD i zP).1 = k → set6 (pcs M) (i * 9 + 3) l = pcs (M.set i (k, l)) := by
  induction M with
  | nil => intro i k l hi; simp at hi
  | cons x M ih =>
    intro i k l hi hk
    rcases i with _ | i
    · have hk' : x.1 = k := hk
      subst hk'
      rfl
    · have h1 := ih i k l (by simpa using hi) (by simpa [List.getD] using hk)
      rw [List.set_cons_succ]
      show set6 (pc x ++ pcs M) ((i + 1) * 9 + 3) l = pc x ++ pcs (M.set i (k, l))
      rw [show (i + 1) * 9 + 3 = (pc x).length + (i * 9 + 3) by rw [pc_len]; omega, set6_append, h1]

section
variable {w w1 w2 w3 : World} {B g n c i : Nat} {v : Value} {M : List Pr} {A : Option Addr}
/-- a line of one's own row is another one -/
theorem PairsOwn.setL (h : PairsOwn w B (.slice (some ⟨g, 0, none⟩) M.length c) M) (hi : i < M.length) {k : Ky} (hk : (M.getD i zP).1 = k) (f m : Int) (x1 x2 x3 x4 : Bool) :
    PairsOwn ((((((w.setCell ⟨g, i * 9 + 3, none⟩ (.int .u64 f)).setCell ⟨g, i * 9 + 3 + 1, none⟩ (.bool x1)).setCell ⟨g, i * 9 + 3 + 2, none⟩ (.bool x2)).setCell ⟨g, i * 9 + 3 + 3, none⟩ (.bool x3)).setCell ⟨g, i * 9 + 3 + 4, none⟩ (.bool x4)).setCell ⟨g, i * 9 + 3 + 5, none⟩ (.int .u8 m)) B (.slice (some ⟨g, 0, none⟩) M.length c) (M.set i (k, (f, x1, x2, x3, x4, m))) := by
  unfold PairsOwn at *
  rw [List.length_set, ← pcs_set M i k _ hi hk]
  exact ((((((h.stored _ _).1.stored _ _).1.stored _ _).1.stored _ _).1.stored _ _).1.stored _ _).1

theorem copy_pairs (h : PairsOwn w 0 v M) (hl : M.length ≤ 1000) (ty : TypeId) :
    ∃ A c w2, (Builtin.append_ #[26, 26] ty #[.slice (some ⟨w.heap.size, 0, none⟩) 0 0, v]).run Tryd.prog (w.alloc (.cells #[] 99)) = .ok (.slice A M.length c) w2 ∧ PairsOwn w2 w.heap.size (.slice A M.length c) M ∧ Below w.heap.size w w2 := by
  obtain ⟨i0, hi0, hz0, hz1, hz2⟩ := info_parts infoPair
  have hmade : (w.alloc (.cells #[] 99)).ownsRow w.heap.size 99 9 (.slice (some ⟨w.heap.size, 0, none⟩) 0 0) 0 [] := World.ownsRow_made w #[] 0 (Nat.le_refl _) (Nat.zero_le _) rfl
  have h' := h
  rcases h.2 with ⟨rfl, hn⟩ | ⟨g, cap, cur, rfl, _, hg, _⟩
  · have hM : M = [] := List.eq_nil_of_length_eq_zero hn
    subst hM
    refine ⟨some ⟨w.heap.size, 0, none⟩, 0, _, ?_, hmade, below_alloc1 _ _⟩
    simp [Builtin.append_, run_underlying Tryd.underlying26, sizeOf, typeInfo, hi0, hz1, Builtin.lenOf, Builtin.firstCells, loadCells, loadCellsFrom, storeCells]
  · have hc := World.ownsRow.cells h' (g := g) rfl
    obtain ⟨v', w', hr, ho, hg2, _⟩ := run_append_own (P := Tryd.prog) (w.alloc (.cells #[] 99)) w.heap.size 26 ty 99 i0 _ 9 40 Tryd.underlying26 hi0 hz0 hz1 hz2 rfl (by decide) _ 0 [] hmade ⟨g, 0, none⟩ M.length cap (pcs M) (pcs_len M) (fun j u hj => Lib.cell?_alloc_some _ (hc j u hj)) (fun u hu => by
      obtain ⟨x, _, hx⟩ := List.mem_flatMap.1 hu
      exact pc_one x u hx) (by unfold maxLen; omega) (by omega) (by simp)
    rw [Nat.zero_add, List.nil_append] at ho
    obtain ⟨A, c, rfl⟩ := own_formC ho
    refine ⟨A, c, w', hr, ho, app_step (Nat.le_refl _) hg2 (fun k hk => ?_)⟩
    have e : some w.heap.size = some k := hk
    have := Option.some.inj e
    omega

theorem push_pair (h : PairsOwn w B v M) (hl : M.length ≤ 1000) (hB : B ≤ w.heap.size) (x : Pr) (ty : TypeId) :
    ∃ A c w2, (Builtin.append_ #[26, 26] ty #[v, .slice (some ⟨w.heap.size, 0, none⟩) 1 1]).run Tryd.prog (w.alloc (.cells (pc x).toArray 99)) = .ok (.slice A (M.length + 1) c) w2 ∧ PairsOwn w2 B (.slice A (M.length + 1) c) (M ++ [x]) ∧ Below B w w2 := by
  obtain ⟨i0, hi0, hz0, hz1, hz2⟩ := info_parts infoPair
  obtain ⟨v', w', hr, ho, hg2, _⟩ := run_append_own (P := Tryd.prog) (w.alloc (.cells (pc x).toArray 99)) B 26 ty 99 i0 _ 9 40 Tryd.underlying26 hi0 hz0 hz1 hz2 rfl (by decide) _ M.length (pcs M) (World.ownsRow.alloc h _) ⟨w.heap.size, 0, none⟩ 1 1 (pc x) rfl (World.news_of_block (heap_alloc_new w _)) (pc_one x) (by unfold maxLen; omega) (by omega) (by simp; omega)
  obtain ⟨A, c, rfl⟩ := own_formC ho
  refine ⟨A, c, w', hr, ?_, app_step hB hg2 (fun k hk => (h.lt hk).1)⟩
  unfold PairsOwn
  rw [List.length_append, show pcs (M ++ [x]) = pcs M ++ pc x by unfold pcs; rw [List.flatMap_append]; simp]
  exact ho
end
end Go.Proofs.YtddbjbdhbeijjaaDoor
/- The document's Put. -/
namespace Go.Proofs.YtddbjbdhbeijjaaDoor
set_option linter.unusedVariables false
set_option linter.unusedSimpArgs false
open Go.ChangeShapes Go.WideShapes Go.ChangeAt Go.RowKit Go.Joins

/-- the boxes of Put, and what was there -/
abbrev putBs (b : Nat) (v : Value) (S p q t f m : Int) (x1 x2 x3 x4 : Bool) : List BoxD :=
  [⟨b + 1 + 1 + 1, #[.slice none 0 0, .int .i64 0], 28⟩, ⟨b + 1 + 1, #[.int .u64 f, .bool x1, .bool x2, .bool x3, .bool x4, .int .u8 m], 71⟩, ⟨b + 1, #[.int .i64 p, .int .i64 q, .int .u64 t], 80⟩, ⟨b, #[v, .int .i64 S], 28⟩]
section
variable {w wr : World} {v v' : Value} {S p q t f m : Int} {x1 x2 x3 x4 : Bool} {M : List Pr} {b B : Nat}
/-- the last three stores of Put: the cache's box, the answer's -/
theorem put_end (h : Mine w wr (putBs b v S p q t f m x1 x2 x3 x4) []) (ho : PairsOwn wr B v' M) (hB : b + 1 + 1 + 1 < B) (hw : w.heap.size ≤ B) :
    Blk (((wr.setCell ⟨b, 0, none⟩ v').setCell ⟨b + 1 + 1 + 1, 0, none⟩ v').setCell ⟨b + 1 + 1 + 1, 1, none⟩ (.int .i64 S)) (b + 1 + 1 + 1) #[v', .int .i64 S] 28 ∧
      PairsOwn (((wr.setCell ⟨b, 0, none⟩ v').setCell ⟨b + 1 + 1 + 1, 0, none⟩ v').setCell ⟨b + 1 + 1 + 1, 1, none⟩ (.int .i64 S)) w.heap.size v' M ∧ Below w.heap.size w (((wr.setCell ⟨b, 0, none⟩ v').setCell ⟨b + 1 + 1 + 1, 0, none⟩ v').setCell ⟨b + 1 + 1 + 1, 1, none⟩ (.int .i64 S)) := by
  have m1 := h.put 3 rfl (turn1 wr b 0 v') ((h.at_ 3 rfl).set1 0 v') (by simp)
  have m2 := m1.put2 0 rfl (y0 := v') (y1 := .int .i64 S) rfl (by simp)
  refine ⟨m2.at_ 0 rfl, PairsOwn.down ?_ hw, m2.below⟩
  have o1 := ho.turn (turn1 wr b 0 v') fun i hi e => by have := (ho.lt hi).1; omega
  have o2 := o1.turn (turn1 _ (b + 1 + 1 + 1) 0 v') fun i hi e => by have := (ho.lt hi).1; omega
  exact o2.turn (turn1 _ (b + 1 + 1 + 1) 1 _) fun i hi e => by have := (ho.lt hi).1; omega
theorem turnB6' (w : World) (g o0 o1 o2 o3 o4 o5 : Nat) (y0 y1 y2 y3 y4 y5 : Value) : Turn (fun j => j = g) w ((((((w.setCell ⟨g, o0, none⟩ y0).setCell ⟨g, o1, none⟩ y1).setCell ⟨g, o2, none⟩ y2).setCell ⟨g, o3, none⟩ y3).setCell ⟨g, o4, none⟩ y4).setCell ⟨g, o5, none⟩ y5) :=
  (((((turn1 _ _ _ _).and (turn1 _ _ _ _)).and (turn1 _ _ _ _)).and (turn1 _ _ _ _)).and (turn1 _ _ _ _)).and (turn1 _ _ _ _)
/-- a block that is none of the boxes is turned -/
theorem Mine.quiet2 {w3 : World} {bs : List BoxD} {g : Nat} (h : Mine w wr bs []) (ht : Turn (fun j => j = g) wr w3) (hg : w.heap.size ≤ g) (hb : ∀ z ∈ bs, z.b ≠ g) : Mine w w3 bs [] :=
  ⟨h.hold.turn ht hb (by simp), h.below.trans (ht.below (fun i hi => by rw [hi]; exact hg) h.below.size)⟩
theorem Mine.putBs (w : World) (v : Value) (S p q t f m : Int) (x1 x2 x3 x4 : Bool) : Mine w ((((w.alloc (.cells #[v, .int .i64 S] 28)).alloc (.cells #[.int .i64 p, .int .i64 q, .int .u64 t] 80)).alloc (.cells #[.int .u64 f, .bool x1, .bool x2, .bool x3, .bool x4, .int .u8 m] 71)).alloc (.cells #[.slice none 0 0, .int .i64 0] 28)) (putBs w.heap.size v S p q t f m x1 x2 x3 x4) [] :=
  ((((Mine.start w).new (b := w.heap.size) rfl #[v, .int .i64 S] 28).new (b := w.heap.size + 1) (by simp) #[.int .i64 p, .int .i64 q, .int .u64 t] 80).new (b := w.heap.size + 1 + 1) (by simp) #[.int .u64 f, .bool x1, .bool x2, .bool x3, .bool x4, .int .u8 m] 71).new (b := w.heap.size + 1 + 1 + 1) (by simp) #[.slice none 0 0, .int .i64 0] 28
end

set_option maxRecDepth 100000 in
set_option maxHeartbeats 1600000 in
theorem rput_found (w : World) (v : Value) (M : List Pr) (R : Nat) (p q t f m a : Int) (x1 x2 x3 x4 : Bool) (h : PairsOwn w 0 v M) (hl : M.length ≤ 900) {i : Nat} (hx : idxF (keysK M) (p, q, t) = some i) :
    Calls Tryd.prog 53 #[.agg #[v, .int .i64 R], .agg #[.int .i64 p, .int .i64 q, .int .u64 t], .agg #[.int .u64 f, .bool x1, .bool x2, .bool x3, .bool x4, .int .u8 m], .int .i64 a] w fun e w' => ∃ A c, e = .returned (.agg #[.slice A (putK R M (p, q, t) (f, x1, x2, x3, x4, m) a).length c, .int .i64 R]) ∧ PairsNew w w' v (.slice A (putK R M (p, q, t) (f, x1, x2, x3, x4, m) a).length c) (putK R M (p, q, t) (f, x1, x2, x3, x4, m) a) ∧ Below w.heap.size w w' := by
  obtain ⟨A, cap, rfl⟩ := h.form
  have HF : Hid (∀ w', Below w.heap.size w w' → _) := Lib.hid fun w' (hb : Below w.heap.size w w') => rfind_any w' (.slice A M.length cap) M R p q t (h.below hb) (by omega)
  have HO := Lib.hid h
  have H0 := Lib.hid (Mine.putBs w (.slice A M.length cap) R p q t f m x1 x2 x3 x4)
  rw [hx] at HF
  have hp : putK R M (p, q, t) (f, x1, x2, x3, x4, m) a = M.set i ((p, q, t), (f, x1, x2, x3, x4, m)) := by unfold putK; rw [hx]
  rw [hp, List.length_set]
  have hi := idxF_of hx
  rw [keysK_len, keysK_getD] at hi
  have hil := hi.1
  have HI := Lib.hid hi.2
  obtain ⟨n, hn⟩ : ∃ n, M.length = n := ⟨_, rfl⟩
  have HN := Lib.hid hn
  rw [hn] at h HO HF H0 hl hil ⊢
  clear hp hx hi hn h
  go_enter Tryd.func53, Tryd.ntmps53
  go_upto_region 1 with fail
  generalize hw0 : (((w.alloc _).alloc _).alloc _).alloc _ = w0
  have H1 := Lib.hid (H0.out.world hw0)
  clear hw0 H0
  obtain ⟨a0, a1⟩ := (H1.out.at_ 3 rfl).c2
  obtain ⟨b0, b1, b2⟩ := (H1.out.at_ 2 rfl).c3
  go_upto_region 2 with (go_at_call 60; refine (HF.out _ H1.out.below).mono ?_; rintro e w2 ⟨rfl, hb⟩; have H2 := Lib.hid (H1.out.quiet hb); clear hb)
  have e0 : posF (some i) = (i : Int) := rfl
  clear a0 a1 b0 b1 b2 H1
  obtain ⟨a0, a1⟩ := (H2.out.at_ 3 rfl).c2
  have hlw := (H2.out.at_ 3 rfl).lt
  obtain ⟨A2, c2, w3, hr, ho, hb⟩ := copy_pairs (HO.out.below H2.out.below) (by rw [HN.out]; omega) 26
  rw [HN.out] at hr ho
  have HR := Lib.hid hr
  have HO3 := Lib.hid ho
  have H3 := Lib.hid (H2.out.quiet hb)
  clear hr ho hb
  go_upto_region 4 with (at_builtin; refine list_append_eq rfl (.tmp 17) (.tmp 19) _ _ rfl _ _ _ w3 rfl rfl HR.out ?_)
  obtain ⟨g, c', hv, hg, hgl⟩ := World.ownsRow.form (PairsOwn.cast HO3.out HN.out) (by omega)
  obtain ⟨rfl, rfl⟩ : A2 = some ⟨g, 0, none⟩ ∧ c2 = c' := by simpa using hv
  clear hv
  obtain ⟨⟨⟨p', q', t'⟩, ⟨f', y1, y2, y3, y4, m'⟩⟩, hkk⟩ : ∃ x : Pr, M.getD i zP = x := ⟨_, rfl⟩
  obtain ⟨g', cap', e', hc, _, _⟩ := PairsOwn.at_ (show PairsOwn w3 w2.heap.size (.slice (some ⟨g, 0, none⟩) n c2) M from HO3.out) (k := i) (by rw [HN.out]; exact hil) hkk
  obtain ⟨rfl, rfl⟩ : g = g' ∧ c2 = cap' := by simpa using (And.intro (congrArg (fun v => match v with | .slice (some a) _ _ => a.block | _ => 0) e') (congrArg (fun v => match v with | .slice _ _ c => c | _ => 0) e'))
  clear e'
  obtain ⟨d0, d1, d2, d3, d4, d5⟩ := hc.l
  have HS := Lib.hid (PairsOwn.setL (show PairsOwn w3 w2.heap.size (.slice (some ⟨g, 0, none⟩) M.length c2) M by rw [HN.out]; exact HO3.out) (by rw [HN.out]; exact hil) HI.out f m x1 x2 x3 x4)
  obtain ⟨k0, k1, k2, k3, k4, k5⟩ := (H3.out.at_ 1 rfl).c6
  have z : ∀ j, w3.frozen? ⟨g, j, none⟩ = false := fun j => World.ownsRow.frozenAt (PairsOwn.cast HO3.out HN.out) j
  have z0 := z (i * 9 + 3); have z1 := z (i * 9 + 3 + 1); have z2 := z (i * 9 + 3 + 2); have z3 := z (i * 9 + 3 + 3); have z4 := z (i * 9 + 3 + 4); have z5 := z (i * 9 + 3 + 5)
  have HG := Lib.hid hg
  clear hg
  go_upto_region 5 with fail
  generalize hw5 : (((((w3.setCell _ _).setCell _ _).setCell _ _).setCell _ _).setCell _ _).setCell _ _ = w5 at *
  have ht : Turn (fun j => j = g) w3 w5 := by rw [← hw5]; exact turnB6' w3 g _ _ _ _ _ _ _ _ _ _ _ _
  have H5 := Lib.hid (H3.out.quiet2 ht (by have := H2.out.size; have := HG.out; omega) (by have := HG.out; have h4 := (H2.out.at_ 0 rfl).lt; intro y hy; simp at hy; rcases hy with rfl | rfl | rfl | rfl <;> (simp; omega)))
  rw [HN.out] at HS
  clear hw5 ht z z0 z1 z2 z3 z4 z5 d0 d1 d2 d3 d4 d5 k0 k1 k2 k3 k4 k5 a0 a1 hlw
  obtain ⟨a0, a1⟩ := (H5.out.at_ 3 rfl).c2
  obtain ⟨r0, r1⟩ := (H5.out.at_ 0 rfl).c2
  have g0 := (H5.out.at_ 0 rfl).fz 0; have g1 := (H5.out.at_ 0 rfl).fz 1; have g2 := (H5.out.at_ 3 rfl).fz 0
  have HE := Lib.hid (put_end H5.out HS.out (by have h4 := (H2.out.at_ 0 rfl).lt; omega) H2.out.size)
  go_wp2
  exact bodyPost_ret (results_cell_row rfl _ _ (w.heap.size + 1 + 1 + 1) _ _ _ _ rfl HE.out.1 Tryd.underlying28 rfl rfl) rfl ⟨_, c2, rfl, HE.out.2.1.new, HE.out.2.2⟩

set_option maxRecDepth 100000 in
set_option maxHeartbeats 1600000 in
theorem rput_none (w : World) (v : Value) (M : List Pr) (R : Nat) (p q t f m a : Int) (x1 x2 x3 x4 : Bool) (h : PairsOwn w 0 v M) (hl : M.length ≤ 900) (hR : R = 0) (hx : idxF (keysK M) (p, q, t) = none) :
    Calls Tryd.prog 53 #[.agg #[v, .int .i64 R], .agg #[.int .i64 p, .int .i64 q, .int .u64 t], .agg #[.int .u64 f, .bool x1, .bool x2, .bool x3, .bool x4, .int .u8 m], .int .i64 a] w fun e w' => ∃ A c, e = .returned (.agg #[.slice A (putK R M (p, q, t) (f, x1, x2, x3, x4, m) a).length c, .int .i64 R]) ∧ PairsNew w w' v (.slice A (putK R M (p, q, t) (f, x1, x2, x3, x4, m) a).length c) (putK R M (p, q, t) (f, x1, x2, x3, x4, m) a) ∧ Below w.heap.size w w' := by
  obtain ⟨A, cap, rfl⟩ := h.form
  have HF : Hid (∀ w', Below w.heap.size w w' → _) := Lib.hid fun w' (hb : Below w.heap.size w w') => rfind_any w' (.slice A M.length cap) M R p q t (h.below hb) (by omega)
  have HO := Lib.hid h
  have H0 := Lib.hid (Mine.putBs w (.slice A M.length cap) R p q t f m x1 x2 x3 x4)
  rw [hx] at HF
  have hp : putK R M (p, q, t) (f, x1, x2, x3, x4, m) a = M := by unfold putK; rw [hx]; exact if_pos hR
  rw [hp]
  subst hR
  obtain ⟨n, hn⟩ : ∃ n, M.length = n := ⟨_, rfl⟩
  rw [hn] at h HO HF H0 hl ⊢
  clear hp hx hn h
  go_enter Tryd.func53, Tryd.ntmps53
  go_upto_region 1 with fail
  generalize hw0 : (((w.alloc _).alloc _).alloc _).alloc _ = w0
  have H1 := Lib.hid (H0.out.world hw0)
  clear hw0 H0
  obtain ⟨a0, a1⟩ := (H1.out.at_ 3 rfl).c2
  obtain ⟨b0, b1, b2⟩ := (H1.out.at_ 2 rfl).c3
  go_upto_region 2 with (go_at_call 60; refine (HF.out _ H1.out.below).mono ?_; rintro e w2 ⟨rfl, hb⟩; have H2 := Lib.hid (H1.out.quiet hb); clear hb)
  have e0 : posF none = -1 := rfl
  clear a0 a1 b0 b1 b2 H1
  obtain ⟨a0, a1⟩ := (H2.out.at_ 3 rfl).c2
  have hlw := (H2.out.at_ 3 rfl).lt
  obtain ⟨r0, r1⟩ := (H2.out.at_ 0 rfl).c2
  have g0 := (H2.out.at_ 0 rfl).fz 0; have g1 := (H2.out.at_ 0 rfl).fz 1; have g2 := (H2.out.at_ 3 rfl).fz 0
  go_wp2
  have HP := H2.out.put2 0 rfl (y0 := .slice A n cap) (y1 := .int .i64 ((0 : Nat) : Int)) rfl (by simp)
  exact bodyPost_ret (results_cell_row rfl _ _ (w.heap.size + 1 + 1 + 1) _ _ _ _ rfl (HP.at_ 0 rfl) Tryd.underlying28 rfl rfl) rfl ⟨A, cap, rfl, ⟨HO.out.below HP.below, Or.inl rfl⟩, HP.below⟩

set_option maxRecDepth 100000 in
set_option maxHeartbeats 1600000 in
theorem rput_push (w : World) (v : Value) (M : List Pr) (R : Nat) (p q t f m a : Int) (x1 x2 x3 x4 : Bool) (h : PairsOwn w 0 v M) (hl : M.length ≤ 900) (hR : 0 < R) (hx : idxF (keysK M) (p, q, t) = none) (hr : M.length < R) :
    Calls Tryd.prog 53 #[.agg #[v, .int .i64 R], .agg #[.int .i64 p, .int .i64 q, .int .u64 t], .agg #[.int .u64 f, .bool x1, .bool x2, .bool x3, .bool x4, .int .u8 m], .int .i64 a] w fun e w' => ∃ A c, e = .returned (.agg #[.slice A (putK R M (p, q, t) (f, x1, x2, x3, x4, m) a).length c, .int .i64 R]) ∧ PairsNew w w' v (.slice A (putK R M (p, q, t) (f, x1, x2, x3, x4, m) a).length c) (putK R M (p, q, t) (f, x1, x2, x3, x4, m) a) ∧ Below w.heap.size w w' := by
  obtain ⟨A, cap, rfl⟩ := h.form
  have HF : Hid (∀ w', Below w.heap.size w w' → _) := Lib.hid fun w' (hb : Below w.heap.size w w') => rfind_any w' (.slice A M.length cap) M R p q t (h.below hb) (by omega)
  have HO := Lib.hid h
  have H0 := Lib.hid (Mine.putBs w (.slice A M.length cap) R p q t f m x1 x2 x3 x4)
  rw [hx] at HF
  have hp : putK R M (p, q, t) (f, x1, x2, x3, x4, m) a = M ++ [((p, q, t), (f, x1, x2, x3, x4, m))] := by unfold putK; rw [hx]; show (if R = 0 then M else _) = _; rw [if_neg (by omega), if_neg (by omega)]
  rw [hp, show (M ++ [((p, q, t), (f, x1, x2, x3, x4, m))]).length = M.length + 1 by simp]
  obtain ⟨n, hn⟩ : ∃ n, M.length = n := ⟨_, rfl⟩
  have HND := Lib.hid hn
  rw [hn] at h HO HF H0 hl hr ⊢
  have hR0 : ((R : Int) == 0) = false := by simp; omega
  have hnR : decide ((R : Int) ≤ (n : Int)) = false := by simp; omega
  clear hp hx hn h
  go_enter Tryd.func53, Tryd.ntmps53
  go_upto_region 1 with fail
  generalize hw0 : (((w.alloc _).alloc _).alloc _).alloc _ = w0
  have H1 := Lib.hid (H0.out.world hw0)
  clear hw0 H0
  obtain ⟨a0, a1⟩ := (H1.out.at_ 3 rfl).c2
  obtain ⟨b0, b1, b2⟩ := (H1.out.at_ 2 rfl).c3
  go_upto_region 2 with (go_at_call 60; refine (HF.out _ H1.out.below).mono ?_; rintro e w2 ⟨rfl, hb⟩; have H2 := Lib.hid (H1.out.quiet hb); clear hb)
  have e0 : posF none = -1 := rfl
  clear a0 a1 b0 b1 b2 H1
  obtain ⟨a0, a1⟩ := (H2.out.at_ 3 rfl).c2
  have hlw := (H2.out.at_ 3 rfl).lt
  have HOW := Lib.hid (HO.out.below H2.out.below)
  obtain ⟨A5, c5, w5, hr5, ho5, hb5⟩ := copy_pairs HOW.out (by rw [HND.out]; omega) 26
  obtain ⟨A6, c6, w6, hr6, ho6, hb6⟩ := push_pair ho5 (by rw [HND.out]; omega) hb5.size ((p, q, t), (f, x1, x2, x3, x4, m)) 26
  rw [HND.out] at hr5 ho5 hr6 ho6
  have HR5 := Lib.hid hr5
  have HR6 : Hid ((Builtin.append_ #[26, 26] 26 #[.slice A5 n c5, .slice (some ⟨w5.heap.size, 0, none⟩) 1 1]).run Tryd.prog (w5.alloc (.cells #[.int .i64 p, .int .i64 q, .int .u64 t, .int .u64 f, .bool x1, .bool x2, .bool x3, .bool x4, .int .u8 m] 99)) = .ok (.slice A6 (n + 1) c6) w6) := Lib.hid hr6
  have HO6 := Lib.hid ho6
  have H5 := Lib.hid (H2.out.quiet hb5)
  have H6 := Lib.hid (H2.out.quiet (hb5.trans hb6))
  clear hr5 ho5 hb5 hr6 ho6 hb6
  go_upto_region 12 with (at_builtin; refine list_append_eq rfl (.tmp 46) (.tmp 48) _ _ rfl _ _ _ w5 rfl rfl HR5.out ?_)
  clear a0 a1 hlw
  obtain ⟨b0, b1, b2⟩ := (H5.out.at_ 2 rfl).c3
  obtain ⟨k0, k1, k2, k3, k4, k5⟩ := (H5.out.at_ 1 rfl).c6
  go_upto_region 13 with (at_builtin; refine list_append_eq rfl (.tmp 50) (.tmp 54) _ _ rfl _ _ _ w6 rfl rfl HR6.out ?_)
  clear b0 b1 b2 k0 k1 k2 k3 k4 k5 H5
  obtain ⟨a0, a1⟩ := (H6.out.at_ 3 rfl).c2
  obtain ⟨r0, r1⟩ := (H6.out.at_ 0 rfl).c2
  have g0 := (H6.out.at_ 0 rfl).fz 0; have g1 := (H6.out.at_ 0 rfl).fz 1; have g2 := (H6.out.at_ 3 rfl).fz 0
  have HE := Lib.hid (put_end H6.out HO6.out (by have h4 := (H2.out.at_ 0 rfl).lt; omega) H2.out.size)
  go_wp2
  exact bodyPost_ret (results_cell_row rfl _ _ (w.heap.size + 1 + 1 + 1) _ _ _ _ rfl HE.out.1 Tryd.underlying28 rfl rfl) rfl ⟨A6, c6, rfl, HE.out.2.1.new, HE.out.2.2⟩

set_option maxRecDepth 100000 in
set_option maxHeartbeats 1600000 in
theorem rput_full (w : World) (v : Value) (M : List Pr) (R : Nat) (p q t f m a : Int) (x1 x2 x3 x4 : Bool) (h : PairsOwn w 0 v M) (hl : M.length ≤ 900) (hR : 0 < R) (hx : idxF (keysK M) (p, q, t) = none) (hr : R ≤ M.length) (ha : I64 a) :
    Calls Tryd.prog 53 #[.agg #[v, .int .i64 R], .agg #[.int .i64 p, .int .i64 q, .int .u64 t], .agg #[.int .u64 f, .bool x1, .bool x2, .bool x3, .bool x4, .int .u8 m], .int .i64 a] w fun e w' => ∃ A c, e = .returned (.agg #[.slice A (putK R M (p, q, t) (f, x1, x2, x3, x4, m) a).length c, .int .i64 R]) ∧ PairsNew w w' v (.slice A (putK R M (p, q, t) (f, x1, x2, x3, x4, m) a).length c) (putK R M (p, q, t) (f, x1, x2, x3, x4, m) a) ∧ Below w.heap.size w w' := by
  obtain ⟨A, cap, rfl⟩ := h.form
  have HF : Hid (∀ w', Below w.heap.size w w' → _) := Lib.hid fun w' (hb : Below w.heap.size w w') => rfind_any w' (.slice A M.length cap) M R p q t (h.below hb) (by omega)
  have HO := Lib.hid h
  have H0 := Lib.hid (Mine.putBs w (.slice A M.length cap) R p q t f m x1 x2 x3 x4)
  rw [hx] at HF
  have hev : evK M a = M.eraseIdx (pickF a M.length) := by unfold evK; rw [if_neg (by omega)]
  have hp : putK R M (p, q, t) (f, x1, x2, x3, x4, m) a = evK M a ++ [((p, q, t), (f, x1, x2, x3, x4, m))] := by unfold putK; rw [hx]; show (if R = 0 then M else _) = _; rw [if_neg (by omega), if_pos hr]
  have hle := evK_len M a
  rw [hp, show (evK M a ++ [((p, q, t), (f, x1, x2, x3, x4, m))]).length = (evK M a).length + 1 by simp]
  have hW : ∀ w1, Below w.heap.size w w1 → _ := fun w1 hb => rwithout_any w1 (.slice A M.length cap) M R (pickF a M.length) (h.below hb) (by omega)
  have hq := fun w' => rpicked_any a M.length w' ha (by omega) (by omega)
  rw [cutI_nat, ← hev] at hW
  generalize evK M a = D at hW hle ⊢
  obtain ⟨d, hd⟩ : ∃ d, D.length = d := ⟨_, rfl⟩
  have HND := Lib.hid hd
  rw [hd] at hW hle ⊢
  obtain ⟨n, hn⟩ : ∃ n, M.length = n := ⟨_, rfl⟩
  rw [hn] at h HO HF H0 hl hr hW hq hle ⊢
  generalize pickF a n = z at hW hq
  have HW := Lib.hid hW
  have HQ := Lib.hid hq
  have hR0 : ((R : Int) == 0) = false := by simp; omega
  have hnR : decide ((R : Int) ≤ (n : Int)) = true := by simp; omega
  have hnR2 : (R : Int) ≤ (n : Int) := by omega
  have hle2 : d ≤ 900 := by omega
  clear hp hx hn h hd hev hW hq ha hle
  go_enter Tryd.func53, Tryd.ntmps53
  go_upto_region 1 with fail
  generalize hw0 : (((w.alloc _).alloc _).alloc _).alloc _ = w0
  have H1 := Lib.hid (H0.out.world hw0)
  clear hw0 H0
  obtain ⟨a0, a1⟩ := (H1.out.at_ 3 rfl).c2
  obtain ⟨b0, b1, b2⟩ := (H1.out.at_ 2 rfl).c3
  go_upto_region 2 with (go_at_call 60; refine (HF.out _ H1.out.below).mono ?_; rintro e w2 ⟨rfl, hb⟩; have H2 := Lib.hid (H1.out.quiet hb); clear hb)
  have e0 : posF none = -1 := rfl
  clear a0 a1 b0 b1 b2 H1
  obtain ⟨a0, a1⟩ := (H2.out.at_ 3 rfl).c2
  have hlw := (H2.out.at_ 3 rfl).lt
  go_upto_region 10 with fail
  refine wp_region_still_tail 6 (by kernel_rfl) (by kernel_rfl) ?_
  simp only [List.take_succ_cons, List.take_zero, List.drop_succ_cons, List.drop_zero]
  repeat still_step
  still_call ((HQ.out _).mono fun _ _ ⟨he, hw⟩ => ⟨he, hw.symm⟩)
  repeat still_step
  refine wpStill_nil ?_
  change wpList _ _ _ _ _ w2.drew
  have HB2 := Lib.hid (below_drewN H2.out.below 1)
  go_upto_region 11 with (go_at_call 56; refine (HW.out _ HB2.out).mono ?_; rintro e w3 ⟨A4, c4, rfl, hP, hb⟩; have HP := Lib.hid hP; have HB := Lib.hid (Below.trans (Kept.drew0 w2) hb); have H3 := Lib.hid (H2.out.quiet HB.out); clear hP hb a0 a1; obtain ⟨a0, a1⟩ := (H3.out.at_ 3 rfl).c2; have f0 := (H3.out.at_ 3 rfl).fz 0; have f1 := (H3.out.at_ 3 rfl).fz 1)
  clear a0 a1 f0 f1 hlw
  generalize hw4 : (w3.setCell _ _).setCell _ _ = w4
  have H4 : Hid (Mine w w4 (putBs w.heap.size (.slice A4 d c4) R p q t f m x1 x2 x3 x4) []) := Lib.hid (H3.out.put2 3 rfl hw4)
  have HOW : Hid (PairsOwn w4 0 (.slice A4 d c4) D) := Lib.hid (by
    have hl2 := (H2.out.at_ 3 rfl).lt
    have o1 := HP.out.turn (turn1 w3 w.heap.size 0 (.slice A4 d c4)) fun i hi e => by have := (HP.out.lt hi).1; simp at this; omega
    have o2 := o1.turn (turn1 _ w.heap.size 1 (.int .i64 R)) fun i hi e => by have := (HP.out.lt hi).1; simp at this; omega
    rw [hw4] at o2
    exact o2.zero)
  clear hw4 H3 HP HB
  obtain ⟨a0, a1⟩ := (H4.out.at_ 3 rfl).c2
  have hlw := (H4.out.at_ 3 rfl).lt
  obtain ⟨A5, c5, w5, hr5, ho5, hb5⟩ := copy_pairs HOW.out (by rw [HND.out]; omega) 26
  obtain ⟨A6, c6, w6, hr6, ho6, hb6⟩ := push_pair ho5 (by rw [HND.out]; omega) hb5.size ((p, q, t), (f, x1, x2, x3, x4, m)) 26
  rw [HND.out] at hr5 ho5 hr6 ho6
  have HR5 := Lib.hid hr5
  have HR6 : Hid ((Builtin.append_ #[26, 26] 26 #[.slice A5 d c5, .slice (some ⟨w5.heap.size, 0, none⟩) 1 1]).run Tryd.prog (w5.alloc (.cells #[.int .i64 p, .int .i64 q, .int .u64 t, .int .u64 f, .bool x1, .bool x2, .bool x3, .bool x4, .int .u8 m] 99)) = .ok (.slice A6 (d + 1) c6) w6) := Lib.hid hr6
  have HO6 := Lib.hid ho6
  have H5 := Lib.hid (H4.out.quiet hb5)
  have H6 := Lib.hid (H4.out.quiet (hb5.trans hb6))
  clear hr5 ho5 hb5 hr6 ho6 hb6
  go_upto_region 12 with (at_builtin; refine list_append_eq rfl (.tmp 46) (.tmp 48) _ _ rfl _ _ _ w5 rfl rfl HR5.out ?_)
  clear a0 a1 hlw
  obtain ⟨b0, b1, b2⟩ := (H5.out.at_ 2 rfl).c3
  obtain ⟨k0, k1, k2, k3, k4, k5⟩ := (H5.out.at_ 1 rfl).c6
  go_upto_region 13 with (at_builtin; refine list_append_eq rfl (.tmp 50) (.tmp 54) _ _ rfl _ _ _ w6 rfl rfl HR6.out ?_)
  clear b0 b1 b2 k0 k1 k2 k3 k4 k5 H5
  obtain ⟨a0, a1⟩ := (H6.out.at_ 3 rfl).c2
  obtain ⟨r0, r1⟩ := (H6.out.at_ 0 rfl).c2
  have g0 := (H6.out.at_ 0 rfl).fz 0; have g1 := (H6.out.at_ 0 rfl).fz 1; have g2 := (H6.out.at_ 3 rfl).fz 0
  have HE := Lib.hid (put_end H6.out HO6.out (by have h4 := (H4.out.at_ 0 rfl).lt; omega) H4.out.size)
  go_wp2
  exact bodyPost_ret (results_cell_row rfl _ _ (w.heap.size + 1 + 1 + 1) _ _ _ _ rfl HE.out.1 Tryd.underlying28 rfl rfl) rfl ⟨A6, c6, rfl, HE.out.2.1.new, HE.out.2.2⟩

theorem rputC_any (w : World) (v : Value) (M : List Pr) (R : Nat) (p q t f m a : Int) (x1 x2 x3 x4 : Bool) (h : PairsOwn w 0 v M) (hl : M.length ≤ 900) (ha : I64 a) :
    Calls Tryd.prog 53 #[.agg #[v, .int .i64 R], .agg #[.int .i64 p, .int .i64 q, .int .u64 t], .agg #[.int .u64 f, .bool x1, .bool x2, .bool x3, .bool x4, .int .u8 m], .int .i64 a] w fun e w' => ∃ A c, e = .returned (.agg #[.slice A (putK R M (p, q, t) (f, x1, x2, x3, x4, m) a).length c, .int .i64 R]) ∧ PairsNew w w' v (.slice A (putK R M (p, q, t) (f, x1, x2, x3, x4, m) a).length c) (putK R M (p, q, t) (f, x1, x2, x3, x4, m) a) ∧ Below w.heap.size w w' := by
  cases hx : idxF (keysK M) (p, q, t) with
  | some i => exact rput_found w v M R p q t f m a x1 x2 x3 x4 h hl hx
  | none =>
    rcases Nat.eq_zero_or_pos R with hR | hR
    · exact rput_none w v M R p q t f m a x1 x2 x3 x4 h hl hR hx
    · rcases Nat.lt_or_ge M.length R with hr | hr
      · exact rput_push w v M R p q t f m a x1 x2 x3 x4 h hl hR hx hr
      · exact rput_full w v M R p q t f m a x1 x2 x3 x4 h hl hR hx hr ha
end Go.Proofs.YtddbjbdhbeijjaaDoor
/- The document's psc (dormerref11): New, Key, DropPage, DropOf, Clear, Evict. (Laid by tools/gen_jp.py.) -/
namespace Go.Proofs.YtddbjbdhbeijjaaDoor
set_option linter.unusedVariables false
set_option linter.unusedSimpArgs false
open Go.ChangeShapes Go.WideShapes Go.ChangeAt Go.RowKit Go.Joins

section
variable {w wr w3 : World} {v u u' : Value} {M M' : List Pr}
theorem PairsOwn.slice {B : Nat} (h : PairsOwn w B v M) : ∃ A n c, v = .slice A n c := by
  obtain ⟨A, c, e⟩ := h.form
  exact ⟨A, _, c, e⟩
theorem PairsNew.start (h : PairsOwn w 0 v M) : PairsNew w w v v M := ⟨h, Or.inl rfl⟩
theorem PairsNew.quiet (h : PairsNew w wr v u M) (hb : Below wr.heap.size wr w3) : PairsNew w w3 v u M := ⟨h.1.below hb, h.2⟩
theorem PairsNew.box (h : PairsNew w wr v u M) {b : Nat} {cs : Array Value} {t : TypeId} (hb : Blk wr b cs t) (hne : (99 : TypeId) ≠ t) (ht : Turn (fun i => i = b) wr w3) : PairsNew w w3 v u M := ⟨h.1.turn ht (not_box h.1 hb hne), h.2⟩
theorem PairsNew.next (h : PairsNew w wr v u M) (k : PairsNew wr w3 u u' M') (hs : w.heap.size ≤ wr.heap.size) : PairsNew w w3 v u' M' := ⟨k.1, by
  rcases k.2 with e | h2
  · rw [e]; exact h.2
  · exact Or.inr fun i hi => Nat.le_trans hs (h2 i hi)⟩
end
section
variable {w wr w3 : World} {v M : Value}
theorem rputU (w : World) (v : Value) (M : List Pr) (R : Nat) (p q t f m a : Int) (x1 x2 x3 x4 : Bool) (h : PairsOwn w 0 v M) (hl : M.length ≤ 900) (ha : I64 a) :
    Calls Tryd.prog 53 #[.agg #[v, .int .i64 R], .agg #[.int .i64 p, .int .i64 q, .int .u64 t], .agg #[.int .u64 f, .bool x1, .bool x2, .bool x3, .bool x4, .int .u8 m], .int .i64 a] w fun e w' => ∃ A n c, e = .returned (.agg #[.slice A n c, .int .i64 R]) ∧ PairsNew w w' v (.slice A n c) (putK R M (p, q, t) (f, x1, x2, x3, x4, m) a) ∧ Below w.heap.size w w' :=
  (rputC_any w v M R p q t f m a x1 x2 x3 x4 h hl ha).mono fun _ _ ⟨A, c, h1, h2, h3⟩ => ⟨A, _, c, h1, h2, h3⟩
theorem rdropU (w : World) (v : Value) (M : List Pr) (S p q t : Int) (h : PairsOwn w 0 v M) (hl : M.length ≤ 1000) :
    Calls Tryd.prog 54 #[.agg #[v, .int .i64 S], .agg #[.int .i64 p, .int .i64 q, .int .u64 t]] w fun e w' => ∃ A n c, e = .returned (.agg #[.slice A n c, .int .i64 S]) ∧ PairsNew w w' v (.slice A n c) (dropK M (p, q, t)) ∧ Below w.heap.size w w' :=
  (rdropC_any w v M S p q t h hl).mono fun _ _ ⟨A, c, h1, h2, h3⟩ => ⟨A, _, c, h1, h2.new, h3⟩
theorem revictU (w : World) (v : Value) (M : List Pr) (S a : Int) (h : PairsOwn w 0 v M) (hl : M.length ≤ 1000) (ha : I64 a) :
    Calls Tryd.prog 35 #[.agg #[v, .int .i64 S], .int .i64 a] w fun e w' => ∃ A n c, e = .returned (.agg #[.slice A n c, .int .i64 S]) ∧ PairsNew w w' v (.slice A n c) (evK M a) ∧ Below w.heap.size w w' :=
  (revictC_any w v M S a h hl ha).mono fun _ _ ⟨A, c, h1, h2, h3⟩ => ⟨A, _, c, h1, h2, h3⟩
theorem rdropOfU (w : World) (v : Value) (M : List Pr) (S p : Int) (h : PairsOwn w 0 v M) (hl : M.length ≤ 1000) :
    Calls Tryd.prog 34 #[.agg #[v, .int .i64 S], .int .i64 p] w fun e w' => ∃ A n c, e = .returned (.agg #[.slice A n c, .int .i64 S]) ∧ PairsNew w w' v (.slice A n c) (ofK M p) ∧ Below w.heap.size w w' :=
  (rdropOf_any w v M S p h hl).mono fun _ _ ⟨A, c, h1, h2, h3⟩ => ⟨A, _, c, h1, h2.new, h3⟩
end

section
variable {w : World} {b : Nat} {t : TypeId} {x0 x1 x2 x3 x4 x5 y0 y1 : Value}
end

end Go.Proofs.YtddbjbdhbeijjaaDoor
