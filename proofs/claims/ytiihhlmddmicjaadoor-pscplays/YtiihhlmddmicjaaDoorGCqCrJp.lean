/- Several texts of ours in one: Cq, Cr, Jp. -/
import Derived.Test.YtiihhlmddmicjaaDoorGCnCoCp
import Derived.Laws.OwnMore
import Derived.Test.YtiihhlmddmicjaaDoorGCjJeCm
import Derived.Test.YtiihhlmddmicjaaDoorGVaVrFr
/- The document's cache: what its Put appends and stores. -/
namespace Go.Proofs.YtiihhlmddmicjaaDoor
set_option linter.unusedVariables false
set_option linter.unusedSimpArgs false
open Go.ChangeShapes Go.WideShapes Go.ChangeAt Go.RowKit Go.Joins

/-- six cells of a line, from o on -/
def set6 (xs : List Value) (o : Nat) (l : Ln) : List Value :=
  (((((xs.set o (.int .u64 l.1)).set (o + 1) (.bool l.2.1)).set (o + 2) (.bool l.2.2.1)).set (o + 3) (.bool l.2.2.2.1)).set (o + 4) (.bool l.2.2.2.2.1)).set (o + 5) (.int .u8 l.2.2.2.2.2)
theorem set6_append (xs ys : List Value) (o : Nat) (l : Ln) : set6 (xs ++ ys) (xs.length + o) l = xs ++ set6 ys o l := by
  unfold set6
  have e : ∀ (zs : List Value) (j : Nat) (u : Value), (xs ++ zs).set (xs.length + o + j) u = xs ++ zs.set (o + j) u := fun zs j u => by
    rw [List.set_append_right _ _ (by omega), show xs.length + o + j - xs.length = o + j by omega]
  have e0 := e ys 0 (.int .u64 l.1)
  rw [Nat.add_zero, Nat.add_zero] at e0
  rw [e0, e, e, e, e, e]
theorem pcs_set (M : List Pr) : ∀ (i : Nat) (k : Ky) (l : Ln), i < M.length → (M.getD i zP).1 = k → set6 (pcs M) (i * 9 + 3) l = pcs (M.set i (k, l)) := by
  induction M with
  | nil => intro i k l hi; simp at hi
  | cons x M ih =>
    intro i k l hi hk
    rcases i with _ | i
    · have hk' : x.1 = k := hk
      subst hk'
      rfl
    · have h1 := ih i k l (by simpa using hi) (by simpa [List.getD] using hk)
      rw [List.set_cons_succ]
      show set6 (pc x ++ pcs M) ((i + 1) * 9 + 3) l = pc x ++ pcs (M.set i (k, l))
      rw [show (i + 1) * 9 + 3 = (pc x).length + (i * 9 + 3) by rw [pc_len]; omega, set6_append, h1]

section
variable {w w1 w2 w3 : World} {B g n c i : Nat} {v : Value} {M : List Pr} {A : Option Addr}
/-- a line of one's own row is another one -/
theorem PairsOwn.setL (h : PairsOwn w B (.slice (some ⟨g, 0, none⟩) M.length c) M) (hi : i < M.length) {k : Ky} (hk : (M.getD i zP).1 = k) (f m : Int) (x1 x2 x3 x4 : Bool) :
    PairsOwn ((((((w.setCell ⟨g, i * 9 + 3, none⟩ (.int .u64 f)).setCell ⟨g, i * 9 + 3 + 1, none⟩ (.bool x1)).setCell ⟨g, i * 9 + 3 + 2, none⟩ (.bool x2)).setCell ⟨g, i * 9 + 3 + 3, none⟩ (.bool x3)).setCell ⟨g, i * 9 + 3 + 4, none⟩ (.bool x4)).setCell ⟨g, i * 9 + 3 + 5, none⟩ (.int .u8 m)) B (.slice (some ⟨g, 0, none⟩) M.length c) (M.set i (k, (f, x1, x2, x3, x4, m))) := by
  unfold PairsOwn at *
  rw [List.length_set, ← pcs_set M i k _ hi hk]
  exact ((((((h.stored _ _).1.stored _ _).1.stored _ _).1.stored _ _).1.stored _ _).1.stored _ _).1

theorem copy_pairs (h : PairsOwn w 0 v M) (hl : M.length ≤ 1000) (ty : TypeId) :
    ∃ A c w2, (Builtin.append_ #[26, 26] ty #[.slice (some ⟨w.heap.size, 0, none⟩) 0 0, v]).run Tryd.prog (w.alloc (.cells #[] 141)) = .ok (.slice A M.length c) w2 ∧ PairsOwn w2 w.heap.size (.slice A M.length c) M ∧ Below w.heap.size w w2 := by
  obtain ⟨i0, hi0, hz0, hz1, hz2⟩ := info_parts infoPair
  have hmade : (w.alloc (.cells #[] 141)).ownsRow w.heap.size 141 9 (.slice (some ⟨w.heap.size, 0, none⟩) 0 0) 0 [] := World.ownsRow_made w #[] 0 (Nat.le_refl _) (Nat.zero_le _) rfl
  have h' := h
  rcases h.2 with ⟨rfl, hn⟩ | ⟨g, cap, cur, rfl, _, hg, _⟩
  · have hM : M = [] := List.eq_nil_of_length_eq_zero hn
    subst hM
    refine ⟨some ⟨w.heap.size, 0, none⟩, 0, _, ?_, hmade, below_alloc1 _ _⟩
    simp [Builtin.append_, run_underlying Tryd.underlying26, sizeOf, typeInfo, hi0, hz1, Builtin.lenOf, Builtin.firstCells, loadCells, loadCellsFrom, storeCells]
  · have hc := World.ownsRow.cells h' (g := g) rfl
    obtain ⟨v', w', hr, ho, hg2, _⟩ := run_append_own (P := Tryd.prog) (w.alloc (.cells #[] 141)) w.heap.size 26 ty 141 i0 _ 9 40 Tryd.underlying26 hi0 hz0 hz1 hz2 rfl (by decide) _ 0 [] hmade ⟨g, 0, none⟩ M.length cap (pcs M) (pcs_len M) (fun j u hj => Lib.cell?_alloc_some _ (hc j u hj)) (fun u hu => by
      obtain ⟨x, _, hx⟩ := List.mem_flatMap.1 hu
      exact pc_one x u hx) (by unfold maxLen; omega) (by omega) (by simp)
    rw [Nat.zero_add, List.nil_append] at ho
    obtain ⟨A, c, rfl⟩ := own_formC ho
    refine ⟨A, c, w', hr, ho, app_step (Nat.le_refl _) hg2 (fun k hk => ?_)⟩
    have e : some w.heap.size = some k := hk
    have := Option.some.inj e
    omega

theorem push_pair (h : PairsOwn w B v M) (hl : M.length ≤ 1000) (hB : B ≤ w.heap.size) (x : Pr) (ty : TypeId) :
    ∃ A c w2, (Builtin.append_ #[26, 26] ty #[v, .slice (some ⟨w.heap.size, 0, none⟩) 1 1]).run Tryd.prog (w.alloc (.cells (pc x).toArray 141)) = .ok (.slice A (M.length + 1) c) w2 ∧ PairsOwn w2 B (.slice A (M.length + 1) c) (M ++ [x]) ∧ Below B w w2 := by
  obtain ⟨i0, hi0, hz0, hz1, hz2⟩ := info_parts infoPair
  obtain ⟨v', w', hr, ho, hg2, _⟩ := run_append_own (P := Tryd.prog) (w.alloc (.cells (pc x).toArray 141)) B 26 ty 141 i0 _ 9 40 Tryd.underlying26 hi0 hz0 hz1 hz2 rfl (by decide) _ M.length (pcs M) (World.ownsRow.alloc h _) ⟨w.heap.size, 0, none⟩ 1 1 (pc x) rfl (World.news_of_block (heap_alloc_new w _)) (pc_one x) (by unfold maxLen; omega) (by omega) (by simp; omega)
  obtain ⟨A, c, rfl⟩ := own_formC ho
  refine ⟨A, c, w', hr, ?_, app_step hB hg2 (fun k hk => (h.lt hk).1)⟩
  unfold PairsOwn
  rw [List.length_append, show pcs (M ++ [x]) = pcs M ++ pc x by unfold pcs; rw [List.flatMap_append]; simp]
  exact ho
end
end Go.Proofs.YtiihhlmddmicjaaDoor
/- The document's Put. -/
namespace Go.Proofs.YtiihhlmddmicjaaDoor
set_option linter.unusedVariables false
set_option linter.unusedSimpArgs false
open Go.ChangeShapes Go.WideShapes Go.ChangeAt Go.RowKit Go.Joins

/-- the boxes of Put, and what was there -/
abbrev putBs (b : Nat) (v : Value) (S p q t f m : Int) (x1 x2 x3 x4 : Bool) : List BoxD :=
  [⟨b + 1 + 1 + 1, #[.slice none 0 0, .int .i64 0], 28⟩, ⟨b + 1 + 1, #[.int .u64 f, .bool x1, .bool x2, .bool x3, .bool x4, .int .u8 m], 105⟩, ⟨b + 1, #[.int .i64 p, .int .i64 q, .int .u64 t], 108⟩, ⟨b, #[v, .int .i64 S], 28⟩]
section
variable {w wr : World} {v v' : Value} {S p q t f m : Int} {x1 x2 x3 x4 : Bool} {M : List Pr} {b B : Nat}
/-- the last three stores of Put: the cache's box, the answer's -/
theorem put_end (h : Mine w wr (putBs b v S p q t f m x1 x2 x3 x4) []) (ho : PairsOwn wr B v' M) (hB : b + 1 + 1 + 1 < B) (hw : w.heap.size ≤ B) :
    Blk (((wr.setCell ⟨b, 0, none⟩ v').setCell ⟨b + 1 + 1 + 1, 0, none⟩ v').setCell ⟨b + 1 + 1 + 1, 1, none⟩ (.int .i64 S)) (b + 1 + 1 + 1) #[v', .int .i64 S] 28 ∧
      PairsOwn (((wr.setCell ⟨b, 0, none⟩ v').setCell ⟨b + 1 + 1 + 1, 0, none⟩ v').setCell ⟨b + 1 + 1 + 1, 1, none⟩ (.int .i64 S)) w.heap.size v' M ∧ Below w.heap.size w (((wr.setCell ⟨b, 0, none⟩ v').setCell ⟨b + 1 + 1 + 1, 0, none⟩ v').setCell ⟨b + 1 + 1 + 1, 1, none⟩ (.int .i64 S)) := by
  have m1 := h.put 3 rfl (turn1 wr b 0 v') ((h.at_ 3 rfl).set1 0 v') (by simp)
  have m2 := m1.put2 0 rfl (y0 := v') (y1 := .int .i64 S) rfl (by simp)
  refine ⟨m2.at_ 0 rfl, PairsOwn.down ?_ hw, m2.below⟩
  have o1 := ho.turn (turn1 wr b 0 v') fun i hi e => by have := (ho.lt hi).1; omega
  have o2 := o1.turn (turn1 _ (b + 1 + 1 + 1) 0 v') fun i hi e => by have := (ho.lt hi).1; omega
  exact o2.turn (turn1 _ (b + 1 + 1 + 1) 1 _) fun i hi e => by have := (ho.lt hi).1; omega
theorem turnB6' (w : World) (g o0 o1 o2 o3 o4 o5 : Nat) (y0 y1 y2 y3 y4 y5 : Value) : Turn (fun j => j = g) w ((((((w.setCell ⟨g, o0, none⟩ y0).setCell ⟨g, o1, none⟩ y1).setCell ⟨g, o2, none⟩ y2).setCell ⟨g, o3, none⟩ y3).setCell ⟨g, o4, none⟩ y4).setCell ⟨g, o5, none⟩ y5) :=
  (((((turn1 _ _ _ _).and (turn1 _ _ _ _)).and (turn1 _ _ _ _)).and (turn1 _ _ _ _)).and (turn1 _ _ _ _)).and (turn1 _ _ _ _)
/-- a block that is none of the boxes is turned -/
theorem Mine.quiet2 {w3 : World} {bs : List BoxD} {g : Nat} (h : Mine w wr bs []) (ht : Turn (fun j => j = g) wr w3) (hg : w.heap.size ≤ g) (hb : ∀ z ∈ bs, z.b ≠ g) : Mine w w3 bs [] :=
  ⟨h.hold.turn ht hb (by simp), h.below.trans (ht.below (fun i hi => by rw [hi]; exact hg) h.below.size)⟩
theorem Mine.putBs (w : World) (v : Value) (S p q t f m : Int) (x1 x2 x3 x4 : Bool) : Mine w ((((w.alloc (.cells #[v, .int .i64 S] 28)).alloc (.cells #[.int .i64 p, .int .i64 q, .int .u64 t] 108)).alloc (.cells #[.int .u64 f, .bool x1, .bool x2, .bool x3, .bool x4, .int .u8 m] 105)).alloc (.cells #[.slice none 0 0, .int .i64 0] 28)) (putBs w.heap.size v S p q t f m x1 x2 x3 x4) [] :=
  ((((Mine.start w).new (b := w.heap.size) rfl #[v, .int .i64 S] 28).new (b := w.heap.size + 1) (by simp) #[.int .i64 p, .int .i64 q, .int .u64 t] 108).new (b := w.heap.size + 1 + 1) (by simp) #[.int .u64 f, .bool x1, .bool x2, .bool x3, .bool x4, .int .u8 m] 105).new (b := w.heap.size + 1 + 1 + 1) (by simp) #[.slice none 0 0, .int .i64 0] 28
end

set_option maxRecDepth 100000 in
set_option maxHeartbeats 1600000 in
theorem rput_found (w : World) (v : Value) (M : List Pr) (R : Nat) (p q t f m a : Int) (x1 x2 x3 x4 : Bool) (h : PairsOwn w 0 v M) (hl : M.length ≤ 900) {i : Nat} (hx : idxF (keysK M) (p, q, t) = some i) :
    Calls Tryd.prog 67 #[.agg #[v, .int .i64 R], .agg #[.int .i64 p, .int .i64 q, .int .u64 t], .agg #[.int .u64 f, .bool x1, .bool x2, .bool x3, .bool x4, .int .u8 m], .int .i64 a] w fun e w' => ∃ A c, e = .returned (.agg #[.slice A (putK R M (p, q, t) (f, x1, x2, x3, x4, m) a).length c, .int .i64 R]) ∧ PairsNew w w' v (.slice A (putK R M (p, q, t) (f, x1, x2, x3, x4, m) a).length c) (putK R M (p, q, t) (f, x1, x2, x3, x4, m) a) ∧ Below w.heap.size w w' := by
  obtain ⟨A, cap, rfl⟩ := h.form
  have HF : Hid (∀ w', Below w.heap.size w w' → _) := Lib.hid fun w' (hb : Below w.heap.size w w') => rfind_any w' (.slice A M.length cap) M R p q t (h.below hb) (by omega)
  have HO := Lib.hid h
  have H0 := Lib.hid (Mine.putBs w (.slice A M.length cap) R p q t f m x1 x2 x3 x4)
  rw [hx] at HF
  have hp : putK R M (p, q, t) (f, x1, x2, x3, x4, m) a = M.set i ((p, q, t), (f, x1, x2, x3, x4, m)) := by unfold putK; rw [hx]
  rw [hp, List.length_set]
  have hi := idxF_of hx
  rw [keysK_len, keysK_getD] at hi
  have hil := hi.1
  have HI := Lib.hid hi.2
  obtain ⟨n, hn⟩ : ∃ n, M.length = n := ⟨_, rfl⟩
  have HN := Lib.hid hn
  rw [hn] at h HO HF H0 hl hil ⊢
  clear hp hx hi hn h
  go_enter Tryd.func67, Tryd.ntmps67
  go_upto_region 1 with fail
  generalize hw0 : (((w.alloc _).alloc _).alloc _).alloc _ = w0
  have H1 := Lib.hid (H0.out.world hw0)
  clear hw0 H0
  obtain ⟨a0, a1⟩ := (H1.out.at_ 3 rfl).c2
  obtain ⟨b0, b1, b2⟩ := (H1.out.at_ 2 rfl).c3
  go_upto_region 2 with (go_at_call 74; refine (HF.out _ H1.out.below).mono ?_; rintro e w2 ⟨rfl, hb⟩; have H2 := Lib.hid (H1.out.quiet hb); clear hb)
  have e0 : posF (some i) = (i : Int) := rfl
  clear a0 a1 b0 b1 b2 H1
  obtain ⟨a0, a1⟩ := (H2.out.at_ 3 rfl).c2
  have hlw := (H2.out.at_ 3 rfl).lt
  obtain ⟨A2, c2, w3, hr, ho, hb⟩ := copy_pairs (HO.out.below H2.out.below) (by rw [HN.out]; omega) 26
  rw [HN.out] at hr ho
  have HR := Lib.hid hr
  have HO3 := Lib.hid ho
  have H3 := Lib.hid (H2.out.quiet hb)
  clear hr ho hb
  go_upto_region 4 with (at_builtin; refine list_append_eq rfl (.tmp 17) (.tmp 19) _ _ rfl _ _ _ w3 rfl rfl HR.out ?_)
  obtain ⟨g, c', hv, hg, hgl⟩ := World.ownsRow.form (PairsOwn.cast HO3.out HN.out) (by omega)
  obtain ⟨rfl, rfl⟩ : A2 = some ⟨g, 0, none⟩ ∧ c2 = c' := by simpa using hv
  clear hv
  obtain ⟨⟨⟨p', q', t'⟩, ⟨f', y1, y2, y3, y4, m'⟩⟩, hkk⟩ : ∃ x : Pr, M.getD i zP = x := ⟨_, rfl⟩
  obtain ⟨g', cap', e', hc, _, _⟩ := PairsOwn.at_ (show PairsOwn w3 w2.heap.size (.slice (some ⟨g, 0, none⟩) n c2) M from HO3.out) (k := i) (by rw [HN.out]; exact hil) hkk
  obtain ⟨rfl, rfl⟩ : g = g' ∧ c2 = cap' := by simpa using (And.intro (congrArg (fun v => match v with | .slice (some a) _ _ => a.block | _ => 0) e') (congrArg (fun v => match v with | .slice _ _ c => c | _ => 0) e'))
  clear e'
  obtain ⟨d0, d1, d2, d3, d4, d5⟩ := hc.l
  have HS := Lib.hid (PairsOwn.setL (show PairsOwn w3 w2.heap.size (.slice (some ⟨g, 0, none⟩) M.length c2) M by rw [HN.out]; exact HO3.out) (by rw [HN.out]; exact hil) HI.out f m x1 x2 x3 x4)
  obtain ⟨k0, k1, k2, k3, k4, k5⟩ := (H3.out.at_ 1 rfl).c6
  have z : ∀ j, w3.frozen? ⟨g, j, none⟩ = false := fun j => World.ownsRow.frozenAt (PairsOwn.cast HO3.out HN.out) j
  have z0 := z (i * 9 + 3); have z1 := z (i * 9 + 3 + 1); have z2 := z (i * 9 + 3 + 2); have z3 := z (i * 9 + 3 + 3); have z4 := z (i * 9 + 3 + 4); have z5 := z (i * 9 + 3 + 5)
  have HG := Lib.hid hg
  clear hg
  go_upto_region 5 with fail
  generalize hw5 : (((((w3.setCell _ _).setCell _ _).setCell _ _).setCell _ _).setCell _ _).setCell _ _ = w5 at *
  have ht : Turn (fun j => j = g) w3 w5 := by rw [← hw5]; exact turnB6' w3 g _ _ _ _ _ _ _ _ _ _ _ _
  have H5 := Lib.hid (H3.out.quiet2 ht (by have := H2.out.size; have := HG.out; omega) (by have := HG.out; have h4 := (H2.out.at_ 0 rfl).lt; intro y hy; simp at hy; rcases hy with rfl | rfl | rfl | rfl <;> (simp; omega)))
  rw [HN.out] at HS
  clear hw5 ht z z0 z1 z2 z3 z4 z5 d0 d1 d2 d3 d4 d5 k0 k1 k2 k3 k4 k5 a0 a1 hlw
  obtain ⟨a0, a1⟩ := (H5.out.at_ 3 rfl).c2
  obtain ⟨r0, r1⟩ := (H5.out.at_ 0 rfl).c2
  have g0 := (H5.out.at_ 0 rfl).fz 0; have g1 := (H5.out.at_ 0 rfl).fz 1; have g2 := (H5.out.at_ 3 rfl).fz 0
  have HE := Lib.hid (put_end H5.out HS.out (by have h4 := (H2.out.at_ 0 rfl).lt; omega) H2.out.size)
  go_wp2
  exact bodyPost_ret (results_cell_row rfl _ _ (w.heap.size + 1 + 1 + 1) _ _ _ _ rfl HE.out.1 Tryd.underlying28 rfl rfl) rfl ⟨_, c2, rfl, HE.out.2.1.new, HE.out.2.2⟩

set_option maxRecDepth 100000 in
set_option maxHeartbeats 1600000 in
theorem rput_none (w : World) (v : Value) (M : List Pr) (R : Nat) (p q t f m a : Int) (x1 x2 x3 x4 : Bool) (h : PairsOwn w 0 v M) (hl : M.length ≤ 900) (hR : R = 0) (hx : idxF (keysK M) (p, q, t) = none) :
    Calls Tryd.prog 67 #[.agg #[v, .int .i64 R], .agg #[.int .i64 p, .int .i64 q, .int .u64 t], .agg #[.int .u64 f, .bool x1, .bool x2, .bool x3, .bool x4, .int .u8 m], .int .i64 a] w fun e w' => ∃ A c, e = .returned (.agg #[.slice A (putK R M (p, q, t) (f, x1, x2, x3, x4, m) a).length c, .int .i64 R]) ∧ PairsNew w w' v (.slice A (putK R M (p, q, t) (f, x1, x2, x3, x4, m) a).length c) (putK R M (p, q, t) (f, x1, x2, x3, x4, m) a) ∧ Below w.heap.size w w' := by
  obtain ⟨A, cap, rfl⟩ := h.form
  have HF : Hid (∀ w', Below w.heap.size w w' → _) := Lib.hid fun w' (hb : Below w.heap.size w w') => rfind_any w' (.slice A M.length cap) M R p q t (h.below hb) (by omega)
  have HO := Lib.hid h
  have H0 := Lib.hid (Mine.putBs w (.slice A M.length cap) R p q t f m x1 x2 x3 x4)
  rw [hx] at HF
  have hp : putK R M (p, q, t) (f, x1, x2, x3, x4, m) a = M := by unfold putK; rw [hx]; exact if_pos hR
  rw [hp]
  subst hR
  obtain ⟨n, hn⟩ : ∃ n, M.length = n := ⟨_, rfl⟩
  rw [hn] at h HO HF H0 hl ⊢
  clear hp hx hn h
  go_enter Tryd.func67, Tryd.ntmps67
  go_upto_region 1 with fail
  generalize hw0 : (((w.alloc _).alloc _).alloc _).alloc _ = w0
  have H1 := Lib.hid (H0.out.world hw0)
  clear hw0 H0
  obtain ⟨a0, a1⟩ := (H1.out.at_ 3 rfl).c2
  obtain ⟨b0, b1, b2⟩ := (H1.out.at_ 2 rfl).c3
  go_upto_region 2 with (go_at_call 74; refine (HF.out _ H1.out.below).mono ?_; rintro e w2 ⟨rfl, hb⟩; have H2 := Lib.hid (H1.out.quiet hb); clear hb)
  have e0 : posF none = -1 := rfl
  clear a0 a1 b0 b1 b2 H1
  obtain ⟨a0, a1⟩ := (H2.out.at_ 3 rfl).c2
  have hlw := (H2.out.at_ 3 rfl).lt
  obtain ⟨r0, r1⟩ := (H2.out.at_ 0 rfl).c2
  have g0 := (H2.out.at_ 0 rfl).fz 0; have g1 := (H2.out.at_ 0 rfl).fz 1; have g2 := (H2.out.at_ 3 rfl).fz 0
  go_wp2
  have HP := H2.out.put2 0 rfl (y0 := .slice A n cap) (y1 := .int .i64 ((0 : Nat) : Int)) rfl (by simp)
  exact bodyPost_ret (results_cell_row rfl _ _ (w.heap.size + 1 + 1 + 1) _ _ _ _ rfl (HP.at_ 0 rfl) Tryd.underlying28 rfl rfl) rfl ⟨A, cap, rfl, ⟨HO.out.below HP.below, Or.inl rfl⟩, HP.below⟩

set_option maxRecDepth 100000 in
set_option maxHeartbeats 1600000 in
theorem rput_push (w : World) (v : Value) (M : List Pr) (R : Nat) (p q t f m a : Int) (x1 x2 x3 x4 : Bool) (h : PairsOwn w 0 v M) (hl : M.length ≤ 900) (hR : 0 < R) (hx : idxF (keysK M) (p, q, t) = none) (hr : M.length < R) :
    Calls Tryd.prog 67 #[.agg #[v, .int .i64 R], .agg #[.int .i64 p, .int .i64 q, .int .u64 t], .agg #[.int .u64 f, .bool x1, .bool x2, .bool x3, .bool x4, .int .u8 m], .int .i64 a] w fun e w' => ∃ A c, e = .returned (.agg #[.slice A (putK R M (p, q, t) (f, x1, x2, x3, x4, m) a).length c, .int .i64 R]) ∧ PairsNew w w' v (.slice A (putK R M (p, q, t) (f, x1, x2, x3, x4, m) a).length c) (putK R M (p, q, t) (f, x1, x2, x3, x4, m) a) ∧ Below w.heap.size w w' := by
  obtain ⟨A, cap, rfl⟩ := h.form
  have HF : Hid (∀ w', Below w.heap.size w w' → _) := Lib.hid fun w' (hb : Below w.heap.size w w') => rfind_any w' (.slice A M.length cap) M R p q t (h.below hb) (by omega)
  have HO := Lib.hid h
  have H0 := Lib.hid (Mine.putBs w (.slice A M.length cap) R p q t f m x1 x2 x3 x4)
  rw [hx] at HF
  have hp : putK R M (p, q, t) (f, x1, x2, x3, x4, m) a = M ++ [((p, q, t), (f, x1, x2, x3, x4, m))] := by unfold putK; rw [hx]; show (if R = 0 then M else _) = _; rw [if_neg (by omega), if_neg (by omega)]
  rw [hp, show (M ++ [((p, q, t), (f, x1, x2, x3, x4, m))]).length = M.length + 1 by simp]
  obtain ⟨n, hn⟩ : ∃ n, M.length = n := ⟨_, rfl⟩
  have HND := Lib.hid hn
  rw [hn] at h HO HF H0 hl hr ⊢
  have hR0 : ((R : Int) == 0) = false := by simp; omega
  have hnR : decide ((R : Int) ≤ (n : Int)) = false := by simp; omega
  clear hp hx hn h
  go_enter Tryd.func67, Tryd.ntmps67
  go_upto_region 1 with fail
  generalize hw0 : (((w.alloc _).alloc _).alloc _).alloc _ = w0
  have H1 := Lib.hid (H0.out.world hw0)
  clear hw0 H0
  obtain ⟨a0, a1⟩ := (H1.out.at_ 3 rfl).c2
  obtain ⟨b0, b1, b2⟩ := (H1.out.at_ 2 rfl).c3
  go_upto_region 2 with (go_at_call 74; refine (HF.out _ H1.out.below).mono ?_; rintro e w2 ⟨rfl, hb⟩; have H2 := Lib.hid (H1.out.quiet hb); clear hb)
  have e0 : posF none = -1 := rfl
  clear a0 a1 b0 b1 b2 H1
  obtain ⟨a0, a1⟩ := (H2.out.at_ 3 rfl).c2
  have hlw := (H2.out.at_ 3 rfl).lt
  have HOW := Lib.hid (HO.out.below H2.out.below)
  obtain ⟨A5, c5, w5, hr5, ho5, hb5⟩ := copy_pairs HOW.out (by rw [HND.out]; omega) 26
  obtain ⟨A6, c6, w6, hr6, ho6, hb6⟩ := push_pair ho5 (by rw [HND.out]; omega) hb5.size ((p, q, t), (f, x1, x2, x3, x4, m)) 26
  rw [HND.out] at hr5 ho5 hr6 ho6
  have HR5 := Lib.hid hr5
  have HR6 : Hid ((Builtin.append_ #[26, 26] 26 #[.slice A5 n c5, .slice (some ⟨w5.heap.size, 0, none⟩) 1 1]).run Tryd.prog (w5.alloc (.cells #[.int .i64 p, .int .i64 q, .int .u64 t, .int .u64 f, .bool x1, .bool x2, .bool x3, .bool x4, .int .u8 m] 141)) = .ok (.slice A6 (n + 1) c6) w6) := Lib.hid hr6
  have HO6 := Lib.hid ho6
  have H5 := Lib.hid (H2.out.quiet hb5)
  have H6 := Lib.hid (H2.out.quiet (hb5.trans hb6))
  clear hr5 ho5 hb5 hr6 ho6 hb6
  go_upto_region 12 with (at_builtin; refine list_append_eq rfl (.tmp 46) (.tmp 48) _ _ rfl _ _ _ w5 rfl rfl HR5.out ?_)
  clear a0 a1 hlw
  obtain ⟨b0, b1, b2⟩ := (H5.out.at_ 2 rfl).c3
  obtain ⟨k0, k1, k2, k3, k4, k5⟩ := (H5.out.at_ 1 rfl).c6
  go_upto_region 13 with (at_builtin; refine list_append_eq rfl (.tmp 50) (.tmp 54) _ _ rfl _ _ _ w6 rfl rfl HR6.out ?_)
  clear b0 b1 b2 k0 k1 k2 k3 k4 k5 H5
  obtain ⟨a0, a1⟩ := (H6.out.at_ 3 rfl).c2
  obtain ⟨r0, r1⟩ := (H6.out.at_ 0 rfl).c2
  have g0 := (H6.out.at_ 0 rfl).fz 0; have g1 := (H6.out.at_ 0 rfl).fz 1; have g2 := (H6.out.at_ 3 rfl).fz 0
  have HE := Lib.hid (put_end H6.out HO6.out (by have h4 := (H2.out.at_ 0 rfl).lt; omega) H2.out.size)
  go_wp2
  exact bodyPost_ret (results_cell_row rfl _ _ (w.heap.size + 1 + 1 + 1) _ _ _ _ rfl HE.out.1 Tryd.underlying28 rfl rfl) rfl ⟨A6, c6, rfl, HE.out.2.1.new, HE.out.2.2⟩

set_option maxRecDepth 100000 in
set_option maxHeartbeats 1600000 in
theorem rput_full (w : World) (v : Value) (M : List Pr) (R : Nat) (p q t f m a : Int) (x1 x2 x3 x4 : Bool) (h : PairsOwn w 0 v M) (hl : M.length ≤ 900) (hR : 0 < R) (hx : idxF (keysK M) (p, q, t) = none) (hr : R ≤ M.length) (ha : I64 a) :
    Calls Tryd.prog 67 #[.agg #[v, .int .i64 R], .agg #[.int .i64 p, .int .i64 q, .int .u64 t], .agg #[.int .u64 f, .bool x1, .bool x2, .bool x3, .bool x4, .int .u8 m], .int .i64 a] w fun e w' => ∃ A c, e = .returned (.agg #[.slice A (putK R M (p, q, t) (f, x1, x2, x3, x4, m) a).length c, .int .i64 R]) ∧ PairsNew w w' v (.slice A (putK R M (p, q, t) (f, x1, x2, x3, x4, m) a).length c) (putK R M (p, q, t) (f, x1, x2, x3, x4, m) a) ∧ Below w.heap.size w w' := by
  obtain ⟨A, cap, rfl⟩ := h.form
  have HF : Hid (∀ w', Below w.heap.size w w' → _) := Lib.hid fun w' (hb : Below w.heap.size w w') => rfind_any w' (.slice A M.length cap) M R p q t (h.below hb) (by omega)
  have HO := Lib.hid h
  have H0 := Lib.hid (Mine.putBs w (.slice A M.length cap) R p q t f m x1 x2 x3 x4)
  rw [hx] at HF
  have hev : evK M a = M.eraseIdx (pickF a M.length) := by unfold evK; rw [if_neg (by omega)]
  have hp : putK R M (p, q, t) (f, x1, x2, x3, x4, m) a = evK M a ++ [((p, q, t), (f, x1, x2, x3, x4, m))] := by unfold putK; rw [hx]; show (if R = 0 then M else _) = _; rw [if_neg (by omega), if_pos hr]
  have hle := evK_len M a
  rw [hp, show (evK M a ++ [((p, q, t), (f, x1, x2, x3, x4, m))]).length = (evK M a).length + 1 by simp]
  have hW : ∀ w1, Below w.heap.size w w1 → _ := fun w1 hb => rwithout_any w1 (.slice A M.length cap) M R (pickF a M.length) (h.below hb) (by omega)
  have hq := fun w' => rpicked_any a M.length w' ha (by omega) (by omega)
  rw [cutI_nat, ← hev] at hW
  generalize evK M a = D at hW hle ⊢
  obtain ⟨d, hd⟩ : ∃ d, D.length = d := ⟨_, rfl⟩
  have HND := Lib.hid hd
  rw [hd] at hW hle ⊢
  obtain ⟨n, hn⟩ : ∃ n, M.length = n := ⟨_, rfl⟩
  rw [hn] at h HO HF H0 hl hr hW hq hle ⊢
  generalize pickF a n = z at hW hq
  have HW := Lib.hid hW
  have HQ := Lib.hid hq
  have hR0 : ((R : Int) == 0) = false := by simp; omega
  have hnR : decide ((R : Int) ≤ (n : Int)) = true := by simp; omega
  have hnR2 : (R : Int) ≤ (n : Int) := by omega
  have hle2 : d ≤ 900 := by omega
  clear hp hx hn h hd hev hW hq ha hle
  go_enter Tryd.func67, Tryd.ntmps67
  go_upto_region 1 with fail
  generalize hw0 : (((w.alloc _).alloc _).alloc _).alloc _ = w0
  have H1 := Lib.hid (H0.out.world hw0)
  clear hw0 H0
  obtain ⟨a0, a1⟩ := (H1.out.at_ 3 rfl).c2
  obtain ⟨b0, b1, b2⟩ := (H1.out.at_ 2 rfl).c3
  go_upto_region 2 with (go_at_call 74; refine (HF.out _ H1.out.below).mono ?_; rintro e w2 ⟨rfl, hb⟩; have H2 := Lib.hid (H1.out.quiet hb); clear hb)
  have e0 : posF none = -1 := rfl
  clear a0 a1 b0 b1 b2 H1
  obtain ⟨a0, a1⟩ := (H2.out.at_ 3 rfl).c2
  have hlw := (H2.out.at_ 3 rfl).lt
  go_upto_region 10 with fail
  refine wp_region_still_tail 6 (by kernel_rfl) (by kernel_rfl) ?_
  simp only [List.take_succ_cons, List.take_zero, List.drop_succ_cons, List.drop_zero]
  repeat still_step
  still_call ((HQ.out _).mono fun _ _ ⟨he, hw⟩ => ⟨he, hw.symm⟩)
  repeat still_step
  refine wpStill_nil ?_
  change wpList _ _ _ _ _ w2.drew
  have HB2 := Lib.hid (below_drewN H2.out.below 1)
  go_upto_region 11 with (go_at_call 89; refine (HW.out _ HB2.out).mono ?_; rintro e w3 ⟨A4, c4, rfl, hP, hb⟩; have HP := Lib.hid hP; have HB := Lib.hid (Below.trans (Kept.drew0 w2) hb); have H3 := Lib.hid (H2.out.quiet HB.out); clear hP hb a0 a1; obtain ⟨a0, a1⟩ := (H3.out.at_ 3 rfl).c2; have f0 := (H3.out.at_ 3 rfl).fz 0; have f1 := (H3.out.at_ 3 rfl).fz 1)
  clear a0 a1 f0 f1 hlw
  generalize hw4 : (w3.setCell _ _).setCell _ _ = w4
  have H4 : Hid (Mine w w4 (putBs w.heap.size (.slice A4 d c4) R p q t f m x1 x2 x3 x4) []) := Lib.hid (H3.out.put2 3 rfl hw4)
  have HOW : Hid (PairsOwn w4 0 (.slice A4 d c4) D) := Lib.hid (by
    have hl2 := (H2.out.at_ 3 rfl).lt
    have o1 := HP.out.turn (turn1 w3 w.heap.size 0 (.slice A4 d c4)) fun i hi e => by have := (HP.out.lt hi).1; simp at this; omega
    have o2 := o1.turn (turn1 _ w.heap.size 1 (.int .i64 R)) fun i hi e => by have := (HP.out.lt hi).1; simp at this; omega
    rw [hw4] at o2
    exact o2.zero)
  clear hw4 H3 HP HB
  obtain ⟨a0, a1⟩ := (H4.out.at_ 3 rfl).c2
  have hlw := (H4.out.at_ 3 rfl).lt
  obtain ⟨A5, c5, w5, hr5, ho5, hb5⟩ := copy_pairs HOW.out (by rw [HND.out]; omega) 26
  obtain ⟨A6, c6, w6, hr6, ho6, hb6⟩ := push_pair ho5 (by rw [HND.out]; omega) hb5.size ((p, q, t), (f, x1, x2, x3, x4, m)) 26
  rw [HND.out] at hr5 ho5 hr6 ho6
  have HR5 := Lib.hid hr5
  have HR6 : Hid ((Builtin.append_ #[26, 26] 26 #[.slice A5 d c5, .slice (some ⟨w5.heap.size, 0, none⟩) 1 1]).run Tryd.prog (w5.alloc (.cells #[.int .i64 p, .int .i64 q, .int .u64 t, .int .u64 f, .bool x1, .bool x2, .bool x3, .bool x4, .int .u8 m] 141)) = .ok (.slice A6 (d + 1) c6) w6) := Lib.hid hr6
  have HO6 := Lib.hid ho6
  have H5 := Lib.hid (H4.out.quiet hb5)
  have H6 := Lib.hid (H4.out.quiet (hb5.trans hb6))
  clear hr5 ho5 hb5 hr6 ho6 hb6
  go_upto_region 12 with (at_builtin; refine list_append_eq rfl (.tmp 46) (.tmp 48) _ _ rfl _ _ _ w5 rfl rfl HR5.out ?_)
  clear a0 a1 hlw
  obtain ⟨b0, b1, b2⟩ := (H5.out.at_ 2 rfl).c3
  obtain ⟨k0, k1, k2, k3, k4, k5⟩ := (H5.out.at_ 1 rfl).c6
  go_upto_region 13 with (at_builtin; refine list_append_eq rfl (.tmp 50) (.tmp 54) _ _ rfl _ _ _ w6 rfl rfl HR6.out ?_)
  clear b0 b1 b2 k0 k1 k2 k3 k4 k5 H5
  obtain ⟨a0, a1⟩ := (H6.out.at_ 3 rfl).c2
  obtain ⟨r0, r1⟩ := (H6.out.at_ 0 rfl).c2
  have g0 := (H6.out.at_ 0 rfl).fz 0; have g1 := (H6.out.at_ 0 rfl).fz 1; have g2 := (H6.out.at_ 3 rfl).fz 0
  have HE := Lib.hid (put_end H6.out HO6.out (by have h4 := (H4.out.at_ 0 rfl).lt; omega) H4.out.size)
  go_wp2
  exact bodyPost_ret (results_cell_row rfl _ _ (w.heap.size + 1 + 1 + 1) _ _ _ _ rfl HE.out.1 Tryd.underlying28 rfl rfl) rfl ⟨A6, c6, rfl, HE.out.2.1.new, HE.out.2.2⟩

theorem rputC_any (w : World) (v : Value) (M : List Pr) (R : Nat) (p q t f m a : Int) (x1 x2 x3 x4 : Bool) (h : PairsOwn w 0 v M) (hl : M.length ≤ 900) (ha : I64 a) :
    Calls Tryd.prog 67 #[.agg #[v, .int .i64 R], .agg #[.int .i64 p, .int .i64 q, .int .u64 t], .agg #[.int .u64 f, .bool x1, .bool x2, .bool x3, .bool x4, .int .u8 m], .int .i64 a] w fun e w' => ∃ A c, e = .returned (.agg #[.slice A (putK R M (p, q, t) (f, x1, x2, x3, x4, m) a).length c, .int .i64 R]) ∧ PairsNew w w' v (.slice A (putK R M (p, q, t) (f, x1, x2, x3, x4, m) a).length c) (putK R M (p, q, t) (f, x1, x2, x3, x4, m) a) ∧ Below w.heap.size w w' := by
  cases hx : idxF (keysK M) (p, q, t) with
  | some i => exact rput_found w v M R p q t f m a x1 x2 x3 x4 h hl hx
  | none =>
    rcases Nat.eq_zero_or_pos R with hR | hR
    · exact rput_none w v M R p q t f m a x1 x2 x3 x4 h hl hR hx
    · rcases Nat.lt_or_ge M.length R with hr | hr
      · exact rput_push w v M R p q t f m a x1 x2 x3 x4 h hl hR hx hr
      · exact rput_full w v M R p q t f m a x1 x2 x3 x4 h hl hR hx hr ha
end Go.Proofs.YtiihhlmddmicjaaDoor
/- The document's psc (dormerref11): New, Key, DropPage, DropOf, Clear, Evict. (Laid by tools/gen_jp.py.) -/
namespace Go.Proofs.YtiihhlmddmicjaaDoor
set_option linter.unusedVariables false
set_option linter.unusedSimpArgs false
open Go.ChangeShapes Go.WideShapes Go.ChangeAt Go.RowKit Go.Joins

abbrev xCells (v0 v1 v2 : Value) (S : Int) : Array Value := #[v0, .int .i64 S, v1, .int .i64 S, v2, .int .i64 S]
abbrev xV (v0 v1 v2 : Value) (S : Int) : Value := .agg (xCells v0 v1 v2 S)
abbrev xZero : Array Value := #[.slice none 0 0, .int .i64 0, .slice none 0 0, .int .i64 0, .slice none 0 0, .int .i64 0]

section
variable {w wr w3 : World} {v u u' : Value} {M M' : List Pr}
theorem PairsOwn.slice {B : Nat} (h : PairsOwn w B v M) : ∃ A n c, v = .slice A n c := by
  obtain ⟨A, c, e⟩ := h.form
  exact ⟨A, _, c, e⟩
theorem PairsNew.start (h : PairsOwn w 0 v M) : PairsNew w w v v M := ⟨h, Or.inl rfl⟩
theorem PairsNew.quiet (h : PairsNew w wr v u M) (hb : Below wr.heap.size wr w3) : PairsNew w w3 v u M := ⟨h.1.below hb, h.2⟩
theorem PairsNew.box (h : PairsNew w wr v u M) {b : Nat} {cs : Array Value} {t : TypeId} (hb : Blk wr b cs t) (hne : (141 : TypeId) ≠ t) (ht : Turn (fun i => i = b) wr w3) : PairsNew w w3 v u M := ⟨h.1.turn ht (not_box h.1 hb hne), h.2⟩
theorem PairsNew.next (h : PairsNew w wr v u M) (k : PairsNew wr w3 u u' M') (hs : w.heap.size ≤ wr.heap.size) : PairsNew w w3 v u' M' := ⟨k.1, by
  rcases k.2 with e | h2
  · rw [e]; exact h.2
  · exact Or.inr fun i hi => Nat.le_trans hs (h2 i hi)⟩
end
/-- the three rows of a document's psc -/
structure DocX (w : World) (v0 v1 v2 : Value) (L : Ls) : Prop where
  a : PairsOwn w 0 v0 (L 0)
  b : PairsOwn w 0 v1 (L 1)
  c : PairsOwn w 0 v2 (L 2)
/-- .. behind a call: each as it was, or new -/
structure NewX (w wr : World) (v0 v1 v2 u0 u1 u2 : Value) (L : Ls) : Prop where
  a : PairsNew w wr v0 u0 (L 0)
  b : PairsNew w wr v1 u1 (L 1)
  c : PairsNew w wr v2 u2 (L 2)

section
variable {w wr w3 : World} {v M : Value}
theorem rputU (w : World) (v : Value) (M : List Pr) (R : Nat) (p q t f m a : Int) (x1 x2 x3 x4 : Bool) (h : PairsOwn w 0 v M) (hl : M.length ≤ 900) (ha : I64 a) :
    Calls Tryd.prog 67 #[.agg #[v, .int .i64 R], .agg #[.int .i64 p, .int .i64 q, .int .u64 t], .agg #[.int .u64 f, .bool x1, .bool x2, .bool x3, .bool x4, .int .u8 m], .int .i64 a] w fun e w' => ∃ A n c, e = .returned (.agg #[.slice A n c, .int .i64 R]) ∧ PairsNew w w' v (.slice A n c) (putK R M (p, q, t) (f, x1, x2, x3, x4, m) a) ∧ Below w.heap.size w w' :=
  (rputC_any w v M R p q t f m a x1 x2 x3 x4 h hl ha).mono fun _ _ ⟨A, c, h1, h2, h3⟩ => ⟨A, _, c, h1, h2, h3⟩
theorem rdropU (w : World) (v : Value) (M : List Pr) (S p q t : Int) (h : PairsOwn w 0 v M) (hl : M.length ≤ 1000) :
    Calls Tryd.prog 69 #[.agg #[v, .int .i64 S], .agg #[.int .i64 p, .int .i64 q, .int .u64 t]] w fun e w' => ∃ A n c, e = .returned (.agg #[.slice A n c, .int .i64 S]) ∧ PairsNew w w' v (.slice A n c) (dropK M (p, q, t)) ∧ Below w.heap.size w w' :=
  (rdropC_any w v M S p q t h hl).mono fun _ _ ⟨A, c, h1, h2, h3⟩ => ⟨A, _, c, h1, h2.new, h3⟩
theorem revictU (w : World) (v : Value) (M : List Pr) (S a : Int) (h : PairsOwn w 0 v M) (hl : M.length ≤ 1000) (ha : I64 a) :
    Calls Tryd.prog 71 #[.agg #[v, .int .i64 S], .int .i64 a] w fun e w' => ∃ A n c, e = .returned (.agg #[.slice A n c, .int .i64 S]) ∧ PairsNew w w' v (.slice A n c) (evK M a) ∧ Below w.heap.size w w' :=
  (revictC_any w v M S a h hl ha).mono fun _ _ ⟨A, c, h1, h2, h3⟩ => ⟨A, _, c, h1, h2, h3⟩
theorem rdropOfU (w : World) (v : Value) (M : List Pr) (S p : Int) (h : PairsOwn w 0 v M) (hl : M.length ≤ 1000) :
    Calls Tryd.prog 70 #[.agg #[v, .int .i64 S], .int .i64 p] w fun e w' => ∃ A n c, e = .returned (.agg #[.slice A n c, .int .i64 S]) ∧ PairsNew w w' v (.slice A n c) (ofK M p) ∧ Below w.heap.size w w' :=
  (rdropOf_any w v M S p h hl).mono fun _ _ ⟨A, c, h1, h2, h3⟩ => ⟨A, _, c, h1, h2.new, h3⟩
end

section
variable {w : World} {b : Nat} {t : TypeId} {x0 x1 x2 x3 x4 x5 y0 y1 : Value}
theorem setX0 (h : Blk w b #[x0, x1, x2, x3, x4, x5] t) (y0 y1 : Value) : Blk ((w.setCell ⟨b, 0, none⟩ y0).setCell ⟨b, 1, none⟩ y1) b #[y0, y1, x2, x3, x4, x5] t := by
  unfold Blk at *; simp [World.setCell, Array.getElem?_modify, h]
theorem setX1 (h : Blk w b #[x0, x1, x2, x3, x4, x5] t) (y0 y1 : Value) : Blk ((w.setCell ⟨b, 2, none⟩ y0).setCell ⟨b, 3, none⟩ y1) b #[x0, x1, y0, y1, x4, x5] t := by
  unfold Blk at *; simp [World.setCell, Array.getElem?_modify, h]
theorem setX2 (h : Blk w b #[x0, x1, x2, x3, x4, x5] t) (y0 y1 : Value) : Blk ((w.setCell ⟨b, 4, none⟩ y0).setCell ⟨b, 5, none⟩ y1) b #[x0, x1, x2, x3, y0, y1] t := by
  unfold Blk at *; simp [World.setCell, Array.getElem?_modify, h]
theorem setY0 (h : Blk w b #[x0, x1, x2, x3, x4, x5] t) (y0 : Value) : Blk (w.setCell ⟨b, 0, none⟩ y0) b #[y0, x1, x2, x3, x4, x5] t := by
  unfold Blk at *; simp [World.setCell, Array.getElem?_modify, h]
theorem setY1 (h : Blk w b #[x0, x1, x2, x3, x4, x5] t) (y0 : Value) : Blk (w.setCell ⟨b, 2, none⟩ y0) b #[x0, x1, y0, x3, x4, x5] t := by
  unfold Blk at *; simp [World.setCell, Array.getElem?_modify, h]
theorem setY2 (h : Blk w b #[x0, x1, x2, x3, x4, x5] t) (y0 : Value) : Blk (w.setCell ⟨b, 4, none⟩ y0) b #[x0, x1, x2, x3, y0, x5] t := by
  unfold Blk at *; simp [World.setCell, Array.getElem?_modify, h]
theorem turnX (w : World) (b i j : Nat) (y0 y1 : Value) : Turn (fun k => k = b) w ((w.setCell ⟨b, i, none⟩ y0).setCell ⟨b, j, none⟩ y1) := (turn1 _ _ _ _).and (turn1 _ _ _ _)
end

/-- the first so many of the three are done -/
def upL (n : Nat) (L' L : Ls) : Ls := fun k => if k < n then L' k else L k

theorem get48 {a : Int} (ha : W64 a) : getF a 0 48 = a % 281474976710656 := by
  rw [get_div ha (by decide)]
  simp
set_option maxRecDepth 100000 in
theorem rkey_any (p l a : Int) (w : World) (ha : W64 a) (h2 : 2 ≤ l) (h4 : l ≤ 4) :
    Calls Tryd.prog 42 #[.int .i64 p, .int .i64 l, .int .u64 a] w fun e w' => e = .returned (.agg #[.int .i64 p, .int .i64 l, .int .u64 (tagF a l)]) ∧ Below w.heap.size w w' := by
  obtain ⟨n, hn⟩ : ∃ n, getF a 0 48 = n := ⟨_, rfl⟩
  have hn2 : a % 281474976710656 = n := (get48 ha).symm.trans hn
  have hb : 0 ≤ n ∧ n < 281474976710656 := by omega
  have HG := Lib.hid fun w => hn ▸ rget_any a 0 48 w ha
  have hl : l = 2 ∨ l = 3 ∨ l = 4 := by omega
  have ht : tagF a l = if l = 4 then n / 549755813888 else if l = 3 then n / 1073741824 else n / 2097152 := by unfold tagF; rw [hn2]
  have H0 := Lib.hid ((Mine.start w).new (b := w.heap.size) rfl #[.int .i64 0, .int .i64 0, .int .u64 0] 108)
  have HB := Lib.hid hb
  clear hn hn2 ha h2 h4 hb
  rcases hl with rfl | rfl | rfl
  · have ht2 : tagF a 2 = n / 2097152 := ht
    have e0 : n.tdiv 2097152 = n / 2097152 := Int.tdiv_eq_ediv_of_nonneg HB.out.1
    obtain ⟨z, hz⟩ : ∃ z, n / 2097152 = z := ⟨_, rfl⟩
    have e1 : IntKind.u64.wrap z = z := wrap_in (by have := HB.out; omega) (by have := HB.out; omega)
    rw [hz] at ht2 e0
    have HT := Lib.hid ht2
    clear ht ht2 hz
    go_enter Tryd.func42, Tryd.ntmps42
    go_upto_region 1 with fail
    generalize hw0 : w.alloc _ = w0
    have H1 := Lib.hid (H0.out.world hw0)
    clear hw0 H0
    obtain ⟨r0, r1, r2⟩ := (H1.out.at_ 0 rfl).c3
    have f0 := (H1.out.at_ 0 rfl).fz 0; have f1 := (H1.out.at_ 0 rfl).fz 1; have f2 := (H1.out.at_ 0 rfl).fz 2
    go_wp2_with (go_at_call 75; refine (HG.out _).mono ?_; rintro e _ ⟨rfl, rfl⟩)
    refine wp_loop_rounds 4 ?_
    rw [rounds_succ]
    go_wp2_with fail
    rw [rounds_succ]
    go_wp2_with fail
    refine bodyPost_ret (results_cell_row rfl _ _ w.heap.size _ _ _ _ rfl (setB3 (H1.out.at_ 0 rfl) _ _ _) Tryd.underlying108 rfl rfl) rfl ⟨by rw [HT.out], (H1.out.put3 0 rfl rfl).below⟩
  · have ht2 : tagF a 3 = n / 1073741824 := ht
    have e0 : n.tdiv 1073741824 = n / 1073741824 := Int.tdiv_eq_ediv_of_nonneg HB.out.1
    obtain ⟨z, hz⟩ : ∃ z, n / 1073741824 = z := ⟨_, rfl⟩
    have e1 : IntKind.u64.wrap z = z := wrap_in (by have := HB.out; omega) (by have := HB.out; omega)
    rw [hz] at ht2 e0
    have HT := Lib.hid ht2
    clear ht ht2 hz
    go_enter Tryd.func42, Tryd.ntmps42
    go_upto_region 1 with fail
    generalize hw0 : w.alloc _ = w0
    have H1 := Lib.hid (H0.out.world hw0)
    clear hw0 H0
    obtain ⟨r0, r1, r2⟩ := (H1.out.at_ 0 rfl).c3
    have f0 := (H1.out.at_ 0 rfl).fz 0; have f1 := (H1.out.at_ 0 rfl).fz 1; have f2 := (H1.out.at_ 0 rfl).fz 2
    go_wp2_with (go_at_call 75; refine (HG.out _).mono ?_; rintro e _ ⟨rfl, rfl⟩)
    refine wp_loop_rounds 4 ?_
    rw [rounds_succ]
    go_wp2_with fail
    rw [rounds_succ]
    go_wp2_with fail
    rw [rounds_succ]
    go_wp2_with fail
    refine bodyPost_ret (results_cell_row rfl _ _ w.heap.size _ _ _ _ rfl (setB3 (H1.out.at_ 0 rfl) _ _ _) Tryd.underlying108 rfl rfl) rfl ⟨by rw [HT.out], (H1.out.put3 0 rfl rfl).below⟩
  · have ht2 : tagF a 4 = n / 549755813888 := ht
    have e0 : n.tdiv 549755813888 = n / 549755813888 := Int.tdiv_eq_ediv_of_nonneg HB.out.1
    obtain ⟨z, hz⟩ : ∃ z, n / 549755813888 = z := ⟨_, rfl⟩
    have e1 : IntKind.u64.wrap z = z := wrap_in (by have := HB.out; omega) (by have := HB.out; omega)
    rw [hz] at ht2 e0
    have HT := Lib.hid ht2
    clear ht ht2 hz
    go_enter Tryd.func42, Tryd.ntmps42
    go_upto_region 1 with fail
    generalize hw0 : w.alloc _ = w0
    have H1 := Lib.hid (H0.out.world hw0)
    clear hw0 H0
    obtain ⟨r0, r1, r2⟩ := (H1.out.at_ 0 rfl).c3
    have f0 := (H1.out.at_ 0 rfl).fz 0; have f1 := (H1.out.at_ 0 rfl).fz 1; have f2 := (H1.out.at_ 0 rfl).fz 2
    go_wp2_with (go_at_call 75; refine (HG.out _).mono ?_; rintro e _ ⟨rfl, rfl⟩)
    refine wp_loop_rounds 4 ?_
    rw [rounds_succ]
    go_wp2_with fail
    rw [rounds_succ]
    go_wp2_with fail
    rw [rounds_succ]
    go_wp2_with fail
    rw [rounds_succ]
    go_wp2_with fail
    refine bodyPost_ret (results_cell_row rfl _ _ w.heap.size _ _ _ _ rfl (setB3 (H1.out.at_ 0 rfl) _ _ _) Tryd.underlying108 rfl rfl) rfl ⟨by rw [HT.out], (H1.out.put3 0 rfl rfl).below⟩

set_option maxRecDepth 100000 in
theorem rnewX_any (z : Int) (w : World) :
    Calls Tryd.prog 11 #[.int .i64 z] w fun e w' => e = .returned (xV (.slice none 0 0) (.slice none 0 0) (.slice none 0 0) (roomF z)) ∧ Below w.heap.size w w' := by
  have H0 := Lib.hid ((Mine.start w).new (b := w.heap.size) rfl xZero 31)
  have HN := Lib.hid (rnewC_any z)
  generalize (roomF z : Int) = S at *
  go_enter Tryd.func11, Tryd.ntmps11
  go_upto_region 1 with fail
  generalize hw0 : w.alloc _ = w0
  have H1 := Lib.hid (H0.out.world hw0)
  clear hw0 H0
  go_upto_region 2 with (go_at_call 31; refine (HN.out _).mono ?_; rintro e w1 ⟨rfl, hb⟩; have H2 := Lib.hid (H1.out.quiet hb); clear hb H1)
  generalize hw2 : w1.alloc _ = w2
  have H3 := Lib.hid ((H2.out.new (b := w1.heap.size) rfl #[.slice none 0 0, .int .i64 S] 28).world hw2)
  clear hw2 H2
  generalize w1.heap.size = b1 at *
  obtain ⟨a0, a1⟩ := (H3.out.at_ 0 rfl).c2
  obtain ⟨r0, r1, r2, r3, r4, r5⟩ := (H3.out.at_ 1 rfl).c6
  have f0 := (H3.out.at_ 1 rfl).fz 0; have f1 := (H3.out.at_ 1 rfl).fz 1; have f2 := (H3.out.at_ 1 rfl).fz 2; have f3 := (H3.out.at_ 1 rfl).fz 3; have f4 := (H3.out.at_ 1 rfl).fz 4; have f5 := (H3.out.at_ 1 rfl).fz 5
  go_wp2
  refine bodyPost_ret (results_cell_row rfl _ _ w.heap.size _ _ _ _ rfl (setB6 (H3.out.at_ 1 rfl) _ _ _ _ _ _) Tryd.underlying31 rfl rfl) rfl ⟨rfl, (H3.out.put6 1 rfl rfl).below⟩

set_option maxRecDepth 100000 in
set_option maxHeartbeats 3200000 in
theorem rdropOfX_any (w : World) (v0 v1 v2 : Value) (L : Ls) (S : Int) (h : DocX w v0 v1 v2 L) (hl : ∀ k : Nat, k < 3 → (L k).length ≤ 64) (p : Int) :
    Calls Tryd.prog 35 #[xV v0 v1 v2 S, .int .i64 p] w fun e w' => ∃ u0 u1 u2, e = .returned (xV u0 u1 u2 S) ∧ NewX w w' v0 v1 v2 u0 u1 u2 (ofL L p) ∧ Below w.heap.size w w' := by
  obtain ⟨h0, h1, h2⟩ := h
  obtain ⟨B0, m0, d0, rfl⟩ := h0.slice
  obtain ⟨B1, m1, d1, rfl⟩ := h1.slice
  obtain ⟨B2, m2, d2, rfl⟩ := h2.slice
  have P0_0 := Lib.hid (PairsNew.start h0)
  have P1_0 := Lib.hid (PairsNew.start h1)
  have P2_0 := Lib.hid (PairsNew.start h2)
  have l0 := hl 0 (by decide); have l1 := hl 1 (by decide); have l2 := hl 2 (by decide)
  have HL0 := Lib.hid l0; have HL1 := Lib.hid l1; have HL2 := Lib.hid l2
  have H0 := Lib.hid (((Mine.start w).new (b := w.heap.size) rfl (xCells (.slice B0 m0 d0) (.slice B1 m1 d1) (.slice B2 m2 d2) S) 31).new (b := w.heap.size + 1) (by simp) xZero 31)
  clear h0 h1 h2 hl l0 l1 l2
  go_enter Tryd.func35, Tryd.ntmps35
  go_upto_region 1 with fail
  have hb0 : Below w.heap.size w ((w.alloc (.cells (xCells (.slice B0 m0 d0) (.slice B1 m1 d1) (.slice B2 m2 d2) S) 31)).alloc (.cells xZero 31)) := H0.out.below
  generalize hw1 : (w.alloc _).alloc _ = w1 at hb0 ⊢
  have H1 := Lib.hid (H0.out.world hw1)
  have P0_1 := Lib.hid (P0_0.out.quiet hb0)
  have P1_1 := Lib.hid (P1_0.out.quiet hb0)
  have P2_1 := Lib.hid (P2_0.out.quiet hb0)
  clear hw1 H0 P0_0 P1_0 P2_0 hb0
  obtain ⟨b, hb⟩ : ∃ b, w.heap.size = b := ⟨_, rfl⟩
  have HBB := Lib.hid hb
  rw [hb] at H1 ⊢
  clear hb
  go_wp2_with fail
  refine wp_loop_rounds 4 ?_
  obtain ⟨a0, a1, a2, a3, a4, a5⟩ := (H1.out.at_ 1 rfl).c6
  have f0 := (H1.out.at_ 1 rfl).fz 0; have f1 := (H1.out.at_ 1 rfl).fz 1; have f2 := (H1.out.at_ 1 rfl).fz 2; have f3 := (H1.out.at_ 1 rfl).fz 3; have f4 := (H1.out.at_ 1 rfl).fz 4; have f5 := (H1.out.at_ 1 rfl).fz 5
  rw [rounds_succ]
  go_upto_region 3 with (go_at_call 70; refine (rdropOfU _ (.slice B0 m0 d0) _ S p P0_1.out.1 (Nat.le_trans HL0.out (by decide))).mono ?_; rintro e w2 ⟨A0, n0, c0, rfl, hP, hb⟩; have H2 := Lib.hid (H1.out.quiet hb); have P0_2 := Lib.hid (P0_1.out.next hP H1.out.size); have P1_2 := Lib.hid (P1_1.out.quiet hb); have P2_2 := Lib.hid (P2_1.out.quiet hb); clear hb hP H1 P0_1 P1_1 P2_1; clear a0 a1 a2 a3 a4 a5 f0 f1 f2 f3 f4 f5; obtain ⟨a0, a1, a2, a3, a4, a5⟩ := (H2.out.at_ 1 rfl).c6; have f0 := (H2.out.at_ 1 rfl).fz 0; have f1 := (H2.out.at_ 1 rfl).fz 1; have f2 := (H2.out.at_ 1 rfl).fz 2; have f3 := (H2.out.at_ 1 rfl).fz 3; have f4 := (H2.out.at_ 1 rfl).fz 4; have f5 := (H2.out.at_ 1 rfl).fz 5)
  generalize hq : (w2.setCell _ _).setCell _ _ = w3
  have ht : Turn (fun i => i = b) w2 w3 := by rw [← hq]; exact turnX _ _ _ _ _ _
  have H3 := Lib.hid ((H2.out.put 1 rfl (turnX _ _ 0 1 _ _) (setX0 (H2.out.at_ 1 rfl) _ _)).world hq)
  have P0_3 := Lib.hid (P0_2.out.box (H2.out.at_ 1 rfl) (by decide) ht)
  have P1_3 := Lib.hid (P1_2.out.box (H2.out.at_ 1 rfl) (by decide) ht)
  have P2_3 := Lib.hid (P2_2.out.box (H2.out.at_ 1 rfl) (by decide) ht)
  clear ht
  clear hq
  clear P0_2
  clear P1_2
  clear P2_2
  clear H2
  clear a0 a1 a2 a3 a4 a5 f0 f1 f2 f3 f4 f5
  go_wp2_with fail
  obtain ⟨a0, a1, a2, a3, a4, a5⟩ := (H3.out.at_ 1 rfl).c6
  have f0 := (H3.out.at_ 1 rfl).fz 0; have f1 := (H3.out.at_ 1 rfl).fz 1; have f2 := (H3.out.at_ 1 rfl).fz 2; have f3 := (H3.out.at_ 1 rfl).fz 3; have f4 := (H3.out.at_ 1 rfl).fz 4; have f5 := (H3.out.at_ 1 rfl).fz 5
  rw [rounds_succ]
  go_upto_region 3 with (go_at_call 70; refine (rdropOfU _ (.slice B1 m1 d1) _ S p P1_3.out.1 (Nat.le_trans HL1.out (by decide))).mono ?_; rintro e w4 ⟨A1, n1, c1, rfl, hP, hb⟩; have H4 := Lib.hid (H3.out.quiet hb); have P0_4 := Lib.hid (P0_3.out.quiet hb); have P1_4 := Lib.hid (P1_3.out.next hP H3.out.size); have P2_4 := Lib.hid (P2_3.out.quiet hb); clear hb hP H3 P0_3 P1_3 P2_3; clear a0 a1 a2 a3 a4 a5 f0 f1 f2 f3 f4 f5; obtain ⟨a0, a1, a2, a3, a4, a5⟩ := (H4.out.at_ 1 rfl).c6; have f0 := (H4.out.at_ 1 rfl).fz 0; have f1 := (H4.out.at_ 1 rfl).fz 1; have f2 := (H4.out.at_ 1 rfl).fz 2; have f3 := (H4.out.at_ 1 rfl).fz 3; have f4 := (H4.out.at_ 1 rfl).fz 4; have f5 := (H4.out.at_ 1 rfl).fz 5)
  generalize hq : (w4.setCell _ _).setCell _ _ = w5
  have ht : Turn (fun i => i = b) w4 w5 := by rw [← hq]; exact turnX _ _ _ _ _ _
  have H5 := Lib.hid ((H4.out.put 1 rfl (turnX _ _ 2 3 _ _) (setX1 (H4.out.at_ 1 rfl) _ _)).world hq)
  have P0_5 := Lib.hid (P0_4.out.box (H4.out.at_ 1 rfl) (by decide) ht)
  have P1_5 := Lib.hid (P1_4.out.box (H4.out.at_ 1 rfl) (by decide) ht)
  have P2_5 := Lib.hid (P2_4.out.box (H4.out.at_ 1 rfl) (by decide) ht)
  clear ht
  clear hq
  clear P0_4
  clear P1_4
  clear P2_4
  clear H4
  clear a0 a1 a2 a3 a4 a5 f0 f1 f2 f3 f4 f5
  go_wp2_with fail
  obtain ⟨a0, a1, a2, a3, a4, a5⟩ := (H5.out.at_ 1 rfl).c6
  have f0 := (H5.out.at_ 1 rfl).fz 0; have f1 := (H5.out.at_ 1 rfl).fz 1; have f2 := (H5.out.at_ 1 rfl).fz 2; have f3 := (H5.out.at_ 1 rfl).fz 3; have f4 := (H5.out.at_ 1 rfl).fz 4; have f5 := (H5.out.at_ 1 rfl).fz 5
  rw [rounds_succ]
  go_upto_region 3 with (go_at_call 70; refine (rdropOfU _ (.slice B2 m2 d2) _ S p P2_5.out.1 (Nat.le_trans HL2.out (by decide))).mono ?_; rintro e w6 ⟨A2, n2, c2, rfl, hP, hb⟩; have H6 := Lib.hid (H5.out.quiet hb); have P0_6 := Lib.hid (P0_5.out.quiet hb); have P1_6 := Lib.hid (P1_5.out.quiet hb); have P2_6 := Lib.hid (P2_5.out.next hP H5.out.size); clear hb hP H5 P0_5 P1_5 P2_5; clear a0 a1 a2 a3 a4 a5 f0 f1 f2 f3 f4 f5; obtain ⟨a0, a1, a2, a3, a4, a5⟩ := (H6.out.at_ 1 rfl).c6; have f0 := (H6.out.at_ 1 rfl).fz 0; have f1 := (H6.out.at_ 1 rfl).fz 1; have f2 := (H6.out.at_ 1 rfl).fz 2; have f3 := (H6.out.at_ 1 rfl).fz 3; have f4 := (H6.out.at_ 1 rfl).fz 4; have f5 := (H6.out.at_ 1 rfl).fz 5)
  generalize hq : (w6.setCell _ _).setCell _ _ = w7
  have ht : Turn (fun i => i = b) w6 w7 := by rw [← hq]; exact turnX _ _ _ _ _ _
  have H7 := Lib.hid ((H6.out.put 1 rfl (turnX _ _ 4 5 _ _) (setX2 (H6.out.at_ 1 rfl) _ _)).world hq)
  have P0_7 := Lib.hid (P0_6.out.box (H6.out.at_ 1 rfl) (by decide) ht)
  have P1_7 := Lib.hid (P1_6.out.box (H6.out.at_ 1 rfl) (by decide) ht)
  have P2_7 := Lib.hid (P2_6.out.box (H6.out.at_ 1 rfl) (by decide) ht)
  clear ht
  clear hq
  clear P0_6
  clear P1_6
  clear P2_6
  clear H6
  clear a0 a1 a2 a3 a4 a5 f0 f1 f2 f3 f4 f5
  go_wp2_with fail
  rw [rounds_succ]
  obtain ⟨a0, a1, a2, a3, a4, a5⟩ := (H7.out.at_ 1 rfl).c6
  have f0 := (H7.out.at_ 1 rfl).fz 0; have f1 := (H7.out.at_ 1 rfl).fz 1; have f2 := (H7.out.at_ 1 rfl).fz 2; have f3 := (H7.out.at_ 1 rfl).fz 3; have f4 := (H7.out.at_ 1 rfl).fz 4; have f5 := (H7.out.at_ 1 rfl).fz 5
  obtain ⟨r0, r1, r2, r3, r4, r5⟩ := (H7.out.at_ 0 rfl).c6
  have g0 := (H7.out.at_ 0 rfl).fz 0; have g1 := (H7.out.at_ 0 rfl).fz 1; have g2 := (H7.out.at_ 0 rfl).fz 2; have g3 := (H7.out.at_ 0 rfl).fz 3; have g4 := (H7.out.at_ 0 rfl).fz 4; have g5 := (H7.out.at_ 0 rfl).fz 5
  go_wp2_with fail
  refine bodyPost_ret (results_cell_row rfl _ _ (b + 1) _ _ _ _ rfl (setB6 (H7.out.at_ 0 rfl) _ _ _ _ _ _) Tryd.underlying31 rfl rfl) rfl ⟨_, _, _, rfl, ⟨P0_7.out.box (H7.out.at_ 0 rfl) (by decide) (turnB6 _ _ _ _ _ _ _ _), P1_7.out.box (H7.out.at_ 0 rfl) (by decide) (turnB6 _ _ _ _ _ _ _ _), P2_7.out.box (H7.out.at_ 0 rfl) (by decide) (turnB6 _ _ _ _ _ _ _ _)⟩, ?_⟩
  rw [← HBB.out]
  rw [← HBB.out] at H7
  exact (H7.out.put6 0 rfl rfl).below

set_option maxRecDepth 100000 in
set_option maxHeartbeats 3200000 in
theorem rclearX_any (w : World) (v0 v1 v2 : Value) (L : Ls) (S : Int) (h : DocX w v0 v1 v2 L) (hl : ∀ k : Nat, k < 3 → (L k).length ≤ 64) :
    Calls Tryd.prog 36 #[xV v0 v1 v2 S] w fun e w' => ∃ u0 u1 u2, e = .returned (xV u0 u1 u2 S) ∧ NewX w w' v0 v1 v2 u0 u1 u2 (noneL L) ∧ Below w.heap.size w w' := by
  obtain ⟨h0, h1, h2⟩ := h
  obtain ⟨B0, m0, d0, rfl⟩ := h0.slice
  obtain ⟨B1, m1, d1, rfl⟩ := h1.slice
  obtain ⟨B2, m2, d2, rfl⟩ := h2.slice
  have P0_0 := Lib.hid (PairsNew.start h0)
  have P1_0 := Lib.hid (PairsNew.start h1)
  have P2_0 := Lib.hid (PairsNew.start h2)
  have l0 := hl 0 (by decide); have l1 := hl 1 (by decide); have l2 := hl 2 (by decide)
  have HL0 := Lib.hid l0; have HL1 := Lib.hid l1; have HL2 := Lib.hid l2
  have H0 := Lib.hid (((Mine.start w).new (b := w.heap.size) rfl (xCells (.slice B0 m0 d0) (.slice B1 m1 d1) (.slice B2 m2 d2) S) 31).new (b := w.heap.size + 1) (by simp) xZero 31)
  clear h0 h1 h2 hl l0 l1 l2
  go_enter Tryd.func36, Tryd.ntmps36
  go_upto_region 1 with fail
  have hb0 : Below w.heap.size w ((w.alloc (.cells (xCells (.slice B0 m0 d0) (.slice B1 m1 d1) (.slice B2 m2 d2) S) 31)).alloc (.cells xZero 31)) := H0.out.below
  generalize hw1 : (w.alloc _).alloc _ = w1 at hb0 ⊢
  have H1 := Lib.hid (H0.out.world hw1)
  have P0_1 := Lib.hid (P0_0.out.quiet hb0)
  have P1_1 := Lib.hid (P1_0.out.quiet hb0)
  have P2_1 := Lib.hid (P2_0.out.quiet hb0)
  clear hw1 H0 P0_0 P1_0 P2_0 hb0
  obtain ⟨b, hb⟩ : ∃ b, w.heap.size = b := ⟨_, rfl⟩
  have HBB := Lib.hid hb
  rw [hb] at H1 ⊢
  clear hb
  go_wp2_with fail
  refine wp_loop_rounds 4 ?_
  obtain ⟨a0, a1, a2, a3, a4, a5⟩ := (H1.out.at_ 1 rfl).c6
  have f0 := (H1.out.at_ 1 rfl).fz 0; have f1 := (H1.out.at_ 1 rfl).fz 1; have f2 := (H1.out.at_ 1 rfl).fz 2; have f3 := (H1.out.at_ 1 rfl).fz 3; have f4 := (H1.out.at_ 1 rfl).fz 4; have f5 := (H1.out.at_ 1 rfl).fz 5
  rw [rounds_succ]
  go_upto_region 3 with fail
  generalize hq : w1.setCell _ _ = w2
  have ht : Turn (fun i => i = b) w1 w2 := by rw [← hq]; exact turn1 _ _ _ _
  have H2 := Lib.hid ((H1.out.put 1 rfl (turn1 _ _ 0 _) (setY0 (H1.out.at_ 1 rfl) _)).world hq)
  have P0_2 : Hid (PairsNew w w2 (.slice B0 m0 d0) (.slice none 0 0) []) := Lib.hid ⟨PairsOwn.nil _ 0, Or.inr (by simp [Value.ownBlock])⟩
  have P1_2 := Lib.hid (P1_1.out.box (H1.out.at_ 1 rfl) (by decide) ht)
  have P2_2 := Lib.hid (P2_1.out.box (H1.out.at_ 1 rfl) (by decide) ht)
  clear ht
  clear hq H1 P0_1 P1_1 P2_1
  clear a0 a1 a2 a3 a4 a5 f0 f1 f2 f3 f4 f5
  go_wp2_with fail
  obtain ⟨a0, a1, a2, a3, a4, a5⟩ := (H2.out.at_ 1 rfl).c6
  have f0 := (H2.out.at_ 1 rfl).fz 0; have f1 := (H2.out.at_ 1 rfl).fz 1; have f2 := (H2.out.at_ 1 rfl).fz 2; have f3 := (H2.out.at_ 1 rfl).fz 3; have f4 := (H2.out.at_ 1 rfl).fz 4; have f5 := (H2.out.at_ 1 rfl).fz 5
  rw [rounds_succ]
  go_upto_region 3 with fail
  generalize hq : w2.setCell _ _ = w3
  have ht : Turn (fun i => i = b) w2 w3 := by rw [← hq]; exact turn1 _ _ _ _
  have H3 := Lib.hid ((H2.out.put 1 rfl (turn1 _ _ 2 _) (setY1 (H2.out.at_ 1 rfl) _)).world hq)
  have P0_3 := Lib.hid (P0_2.out.box (H2.out.at_ 1 rfl) (by decide) ht)
  have P1_3 : Hid (PairsNew w w3 (.slice B1 m1 d1) (.slice none 0 0) []) := Lib.hid ⟨PairsOwn.nil _ 0, Or.inr (by simp [Value.ownBlock])⟩
  have P2_3 := Lib.hid (P2_2.out.box (H2.out.at_ 1 rfl) (by decide) ht)
  clear ht
  clear hq H2 P0_2 P1_2 P2_2
  clear a0 a1 a2 a3 a4 a5 f0 f1 f2 f3 f4 f5
  go_wp2_with fail
  obtain ⟨a0, a1, a2, a3, a4, a5⟩ := (H3.out.at_ 1 rfl).c6
  have f0 := (H3.out.at_ 1 rfl).fz 0; have f1 := (H3.out.at_ 1 rfl).fz 1; have f2 := (H3.out.at_ 1 rfl).fz 2; have f3 := (H3.out.at_ 1 rfl).fz 3; have f4 := (H3.out.at_ 1 rfl).fz 4; have f5 := (H3.out.at_ 1 rfl).fz 5
  rw [rounds_succ]
  go_upto_region 3 with fail
  generalize hq : w3.setCell _ _ = w4
  have ht : Turn (fun i => i = b) w3 w4 := by rw [← hq]; exact turn1 _ _ _ _
  have H4 := Lib.hid ((H3.out.put 1 rfl (turn1 _ _ 4 _) (setY2 (H3.out.at_ 1 rfl) _)).world hq)
  have P0_4 := Lib.hid (P0_3.out.box (H3.out.at_ 1 rfl) (by decide) ht)
  have P1_4 := Lib.hid (P1_3.out.box (H3.out.at_ 1 rfl) (by decide) ht)
  have P2_4 : Hid (PairsNew w w4 (.slice B2 m2 d2) (.slice none 0 0) []) := Lib.hid ⟨PairsOwn.nil _ 0, Or.inr (by simp [Value.ownBlock])⟩
  clear ht
  clear hq H3 P0_3 P1_3 P2_3
  clear a0 a1 a2 a3 a4 a5 f0 f1 f2 f3 f4 f5
  go_wp2_with fail
  rw [rounds_succ]
  obtain ⟨a0, a1, a2, a3, a4, a5⟩ := (H4.out.at_ 1 rfl).c6
  have f0 := (H4.out.at_ 1 rfl).fz 0; have f1 := (H4.out.at_ 1 rfl).fz 1; have f2 := (H4.out.at_ 1 rfl).fz 2; have f3 := (H4.out.at_ 1 rfl).fz 3; have f4 := (H4.out.at_ 1 rfl).fz 4; have f5 := (H4.out.at_ 1 rfl).fz 5
  obtain ⟨r0, r1, r2, r3, r4, r5⟩ := (H4.out.at_ 0 rfl).c6
  have g0 := (H4.out.at_ 0 rfl).fz 0; have g1 := (H4.out.at_ 0 rfl).fz 1; have g2 := (H4.out.at_ 0 rfl).fz 2; have g3 := (H4.out.at_ 0 rfl).fz 3; have g4 := (H4.out.at_ 0 rfl).fz 4; have g5 := (H4.out.at_ 0 rfl).fz 5
  go_wp2_with fail
  refine bodyPost_ret (results_cell_row rfl _ _ (b + 1) _ _ _ _ rfl (setB6 (H4.out.at_ 0 rfl) _ _ _ _ _ _) Tryd.underlying31 rfl rfl) rfl ⟨_, _, _, rfl, ⟨P0_4.out.box (H4.out.at_ 0 rfl) (by decide) (turnB6 _ _ _ _ _ _ _ _), P1_4.out.box (H4.out.at_ 0 rfl) (by decide) (turnB6 _ _ _ _ _ _ _ _), P2_4.out.box (H4.out.at_ 0 rfl) (by decide) (turnB6 _ _ _ _ _ _ _ _)⟩, ?_⟩
  rw [← HBB.out]
  rw [← HBB.out] at H4
  exact (H4.out.put6 0 rfl rfl).below

set_option maxRecDepth 100000 in
set_option maxHeartbeats 3200000 in
theorem revictX_any (w : World) (v0 v1 v2 : Value) (L : Ls) (S : Int) (h : DocX w v0 v1 v2 L) (hl : ∀ k : Nat, k < 3 → (L k).length ≤ 64) (l a : Int) (ha : I64 a) :
    Calls Tryd.prog 37 #[xV v0 v1 v2 S, .int .i64 l, .int .i64 a] w fun e w' => ∃ u0 u1 u2, e = .returned (xV u0 u1 u2 S) ∧ NewX w w' v0 v1 v2 u0 u1 u2 (evL L l a) ∧ Below w.heap.size w w' := by
  obtain ⟨h0, h1, h2⟩ := h
  obtain ⟨B0, m0, d0, rfl⟩ := h0.slice
  obtain ⟨B1, m1, d1, rfl⟩ := h1.slice
  obtain ⟨B2, m2, d2, rfl⟩ := h2.slice
  have P0_0 := Lib.hid (PairsNew.start h0)
  have P1_0 := Lib.hid (PairsNew.start h1)
  have P2_0 := Lib.hid (PairsNew.start h2)
  have l0 := hl 0 (by decide); have l1 := hl 1 (by decide); have l2 := hl 2 (by decide)
  have HL0 := Lib.hid l0; have HL1 := Lib.hid l1; have HL2 := Lib.hid l2
  have H0 := Lib.hid (((Mine.start w).new (b := w.heap.size) rfl (xCells (.slice B0 m0 d0) (.slice B1 m1 d1) (.slice B2 m2 d2) S) 31).new (b := w.heap.size + 1) (by simp) xZero 31)
  clear h0 h1 h2 hl l0 l1 l2
  have HAA := Lib.hid ha
  clear ha
  by_cases hl : 2 ≤ l ∧ l ≤ 4
  · have hll : l = 2 ∨ l = 3 ∨ l = 4 := by omega
    clear hl
    rcases hll with rfl | rfl | rfl
    · go_enter Tryd.func37, Tryd.ntmps37
      go_upto_region 1 with fail
      have hb0 : Below w.heap.size w ((w.alloc (.cells (xCells (.slice B0 m0 d0) (.slice B1 m1 d1) (.slice B2 m2 d2) S) 31)).alloc (.cells xZero 31)) := H0.out.below
      generalize hw1 : (w.alloc _).alloc _ = w1 at hb0 ⊢
      have H1 := Lib.hid (H0.out.world hw1)
      have P0_1 := Lib.hid (P0_0.out.quiet hb0)
      have P1_1 := Lib.hid (P1_0.out.quiet hb0)
      have P2_1 := Lib.hid (P2_0.out.quiet hb0)
      clear hw1 H0 P0_0 P1_0 P2_0 hb0
      obtain ⟨b, hb⟩ : ∃ b, w.heap.size = b := ⟨_, rfl⟩
      have HBB := Lib.hid hb
      rw [hb] at H1 ⊢
      clear hb
      obtain ⟨a0, a1, a2, a3, a4, a5⟩ := (H1.out.at_ 1 rfl).c6
      have f0 := (H1.out.at_ 1 rfl).fz 0; have f1 := (H1.out.at_ 1 rfl).fz 1; have f2 := (H1.out.at_ 1 rfl).fz 2; have f3 := (H1.out.at_ 1 rfl).fz 3; have f4 := (H1.out.at_ 1 rfl).fz 4; have f5 := (H1.out.at_ 1 rfl).fz 5
      go_upto_region 3 with (go_at_call 71; refine (revictU _ (.slice B2 m2 d2) _ S a P2_1.out.1 (Nat.le_trans HL2.out (by decide)) HAA.out).mono ?_; rintro e w2 ⟨A2, n2, c2, rfl, hP, hb⟩; have H2 := Lib.hid (H1.out.quiet hb); have P0_2 := Lib.hid (P0_1.out.quiet hb); have P1_2 := Lib.hid (P1_1.out.quiet hb); have P2_2 := Lib.hid (P2_1.out.next hP H1.out.size); clear hb hP H1 P0_1 P1_1 P2_1; clear a0 a1 a2 a3 a4 a5 f0 f1 f2 f3 f4 f5; obtain ⟨a0, a1, a2, a3, a4, a5⟩ := (H2.out.at_ 1 rfl).c6; have f0 := (H2.out.at_ 1 rfl).fz 0; have f1 := (H2.out.at_ 1 rfl).fz 1; have f2 := (H2.out.at_ 1 rfl).fz 2; have f3 := (H2.out.at_ 1 rfl).fz 3; have f4 := (H2.out.at_ 1 rfl).fz 4; have f5 := (H2.out.at_ 1 rfl).fz 5)
      generalize hq : (w2.setCell _ _).setCell _ _ = w3
      have ht : Turn (fun i => i = b) w2 w3 := by rw [← hq]; exact turnX _ _ _ _ _ _
      have H3 := Lib.hid ((H2.out.put 1 rfl (turnX _ _ 4 5 _ _) (setX2 (H2.out.at_ 1 rfl) _ _)).world hq)
      have P0_3 := Lib.hid (P0_2.out.box (H2.out.at_ 1 rfl) (by decide) ht)
      have P1_3 := Lib.hid (P1_2.out.box (H2.out.at_ 1 rfl) (by decide) ht)
      have P2_3 := Lib.hid (P2_2.out.box (H2.out.at_ 1 rfl) (by decide) ht)
      clear ht
      clear hq
      clear P0_2
      clear P1_2
      clear P2_2
      clear H2
      clear a0 a1 a2 a3 a4 a5 f0 f1 f2 f3 f4 f5
      obtain ⟨a0, a1, a2, a3, a4, a5⟩ := (H3.out.at_ 1 rfl).c6
      have f0 := (H3.out.at_ 1 rfl).fz 0; have f1 := (H3.out.at_ 1 rfl).fz 1; have f2 := (H3.out.at_ 1 rfl).fz 2; have f3 := (H3.out.at_ 1 rfl).fz 3; have f4 := (H3.out.at_ 1 rfl).fz 4; have f5 := (H3.out.at_ 1 rfl).fz 5
      obtain ⟨r0, r1, r2, r3, r4, r5⟩ := (H3.out.at_ 0 rfl).c6
      have g0 := (H3.out.at_ 0 rfl).fz 0; have g1 := (H3.out.at_ 0 rfl).fz 1; have g2 := (H3.out.at_ 0 rfl).fz 2; have g3 := (H3.out.at_ 0 rfl).fz 3; have g4 := (H3.out.at_ 0 rfl).fz 4; have g5 := (H3.out.at_ 0 rfl).fz 5
      go_wp2
      refine bodyPost_ret (results_cell_row rfl _ _ (b + 1) _ _ _ _ rfl (setB6 (H3.out.at_ 0 rfl) _ _ _ _ _ _) Tryd.underlying31 rfl rfl) rfl ⟨_, _, _, rfl, ⟨P0_3.out.box (H3.out.at_ 0 rfl) (by decide) (turnB6 _ _ _ _ _ _ _ _), P1_3.out.box (H3.out.at_ 0 rfl) (by decide) (turnB6 _ _ _ _ _ _ _ _), P2_3.out.box (H3.out.at_ 0 rfl) (by decide) (turnB6 _ _ _ _ _ _ _ _)⟩, ?_⟩
      rw [← HBB.out]
      rw [← HBB.out] at H3
      exact (H3.out.put6 0 rfl rfl).below
    · go_enter Tryd.func37, Tryd.ntmps37
      go_upto_region 1 with fail
      have hb0 : Below w.heap.size w ((w.alloc (.cells (xCells (.slice B0 m0 d0) (.slice B1 m1 d1) (.slice B2 m2 d2) S) 31)).alloc (.cells xZero 31)) := H0.out.below
      generalize hw1 : (w.alloc _).alloc _ = w1 at hb0 ⊢
      have H1 := Lib.hid (H0.out.world hw1)
      have P0_1 := Lib.hid (P0_0.out.quiet hb0)
      have P1_1 := Lib.hid (P1_0.out.quiet hb0)
      have P2_1 := Lib.hid (P2_0.out.quiet hb0)
      clear hw1 H0 P0_0 P1_0 P2_0 hb0
      obtain ⟨b, hb⟩ : ∃ b, w.heap.size = b := ⟨_, rfl⟩
      have HBB := Lib.hid hb
      rw [hb] at H1 ⊢
      clear hb
      obtain ⟨a0, a1, a2, a3, a4, a5⟩ := (H1.out.at_ 1 rfl).c6
      have f0 := (H1.out.at_ 1 rfl).fz 0; have f1 := (H1.out.at_ 1 rfl).fz 1; have f2 := (H1.out.at_ 1 rfl).fz 2; have f3 := (H1.out.at_ 1 rfl).fz 3; have f4 := (H1.out.at_ 1 rfl).fz 4; have f5 := (H1.out.at_ 1 rfl).fz 5
      go_upto_region 3 with (go_at_call 71; refine (revictU _ (.slice B1 m1 d1) _ S a P1_1.out.1 (Nat.le_trans HL1.out (by decide)) HAA.out).mono ?_; rintro e w2 ⟨A1, n1, c1, rfl, hP, hb⟩; have H2 := Lib.hid (H1.out.quiet hb); have P0_2 := Lib.hid (P0_1.out.quiet hb); have P1_2 := Lib.hid (P1_1.out.next hP H1.out.size); have P2_2 := Lib.hid (P2_1.out.quiet hb); clear hb hP H1 P0_1 P1_1 P2_1; clear a0 a1 a2 a3 a4 a5 f0 f1 f2 f3 f4 f5; obtain ⟨a0, a1, a2, a3, a4, a5⟩ := (H2.out.at_ 1 rfl).c6; have f0 := (H2.out.at_ 1 rfl).fz 0; have f1 := (H2.out.at_ 1 rfl).fz 1; have f2 := (H2.out.at_ 1 rfl).fz 2; have f3 := (H2.out.at_ 1 rfl).fz 3; have f4 := (H2.out.at_ 1 rfl).fz 4; have f5 := (H2.out.at_ 1 rfl).fz 5)
      generalize hq : (w2.setCell _ _).setCell _ _ = w3
      have ht : Turn (fun i => i = b) w2 w3 := by rw [← hq]; exact turnX _ _ _ _ _ _
      have H3 := Lib.hid ((H2.out.put 1 rfl (turnX _ _ 2 3 _ _) (setX1 (H2.out.at_ 1 rfl) _ _)).world hq)
      have P0_3 := Lib.hid (P0_2.out.box (H2.out.at_ 1 rfl) (by decide) ht)
      have P1_3 := Lib.hid (P1_2.out.box (H2.out.at_ 1 rfl) (by decide) ht)
      have P2_3 := Lib.hid (P2_2.out.box (H2.out.at_ 1 rfl) (by decide) ht)
      clear ht
      clear hq
      clear P0_2
      clear P1_2
      clear P2_2
      clear H2
      clear a0 a1 a2 a3 a4 a5 f0 f1 f2 f3 f4 f5
      obtain ⟨a0, a1, a2, a3, a4, a5⟩ := (H3.out.at_ 1 rfl).c6
      have f0 := (H3.out.at_ 1 rfl).fz 0; have f1 := (H3.out.at_ 1 rfl).fz 1; have f2 := (H3.out.at_ 1 rfl).fz 2; have f3 := (H3.out.at_ 1 rfl).fz 3; have f4 := (H3.out.at_ 1 rfl).fz 4; have f5 := (H3.out.at_ 1 rfl).fz 5
      obtain ⟨r0, r1, r2, r3, r4, r5⟩ := (H3.out.at_ 0 rfl).c6
      have g0 := (H3.out.at_ 0 rfl).fz 0; have g1 := (H3.out.at_ 0 rfl).fz 1; have g2 := (H3.out.at_ 0 rfl).fz 2; have g3 := (H3.out.at_ 0 rfl).fz 3; have g4 := (H3.out.at_ 0 rfl).fz 4; have g5 := (H3.out.at_ 0 rfl).fz 5
      go_wp2
      refine bodyPost_ret (results_cell_row rfl _ _ (b + 1) _ _ _ _ rfl (setB6 (H3.out.at_ 0 rfl) _ _ _ _ _ _) Tryd.underlying31 rfl rfl) rfl ⟨_, _, _, rfl, ⟨P0_3.out.box (H3.out.at_ 0 rfl) (by decide) (turnB6 _ _ _ _ _ _ _ _), P1_3.out.box (H3.out.at_ 0 rfl) (by decide) (turnB6 _ _ _ _ _ _ _ _), P2_3.out.box (H3.out.at_ 0 rfl) (by decide) (turnB6 _ _ _ _ _ _ _ _)⟩, ?_⟩
      rw [← HBB.out]
      rw [← HBB.out] at H3
      exact (H3.out.put6 0 rfl rfl).below
    · go_enter Tryd.func37, Tryd.ntmps37
      go_upto_region 1 with fail
      have hb0 : Below w.heap.size w ((w.alloc (.cells (xCells (.slice B0 m0 d0) (.slice B1 m1 d1) (.slice B2 m2 d2) S) 31)).alloc (.cells xZero 31)) := H0.out.below
      generalize hw1 : (w.alloc _).alloc _ = w1 at hb0 ⊢
      have H1 := Lib.hid (H0.out.world hw1)
      have P0_1 := Lib.hid (P0_0.out.quiet hb0)
      have P1_1 := Lib.hid (P1_0.out.quiet hb0)
      have P2_1 := Lib.hid (P2_0.out.quiet hb0)
      clear hw1 H0 P0_0 P1_0 P2_0 hb0
      obtain ⟨b, hb⟩ : ∃ b, w.heap.size = b := ⟨_, rfl⟩
      have HBB := Lib.hid hb
      rw [hb] at H1 ⊢
      clear hb
      obtain ⟨a0, a1, a2, a3, a4, a5⟩ := (H1.out.at_ 1 rfl).c6
      have f0 := (H1.out.at_ 1 rfl).fz 0; have f1 := (H1.out.at_ 1 rfl).fz 1; have f2 := (H1.out.at_ 1 rfl).fz 2; have f3 := (H1.out.at_ 1 rfl).fz 3; have f4 := (H1.out.at_ 1 rfl).fz 4; have f5 := (H1.out.at_ 1 rfl).fz 5
      go_upto_region 3 with (go_at_call 71; refine (revictU _ (.slice B0 m0 d0) _ S a P0_1.out.1 (Nat.le_trans HL0.out (by decide)) HAA.out).mono ?_; rintro e w2 ⟨A0, n0, c0, rfl, hP, hb⟩; have H2 := Lib.hid (H1.out.quiet hb); have P0_2 := Lib.hid (P0_1.out.next hP H1.out.size); have P1_2 := Lib.hid (P1_1.out.quiet hb); have P2_2 := Lib.hid (P2_1.out.quiet hb); clear hb hP H1 P0_1 P1_1 P2_1; clear a0 a1 a2 a3 a4 a5 f0 f1 f2 f3 f4 f5; obtain ⟨a0, a1, a2, a3, a4, a5⟩ := (H2.out.at_ 1 rfl).c6; have f0 := (H2.out.at_ 1 rfl).fz 0; have f1 := (H2.out.at_ 1 rfl).fz 1; have f2 := (H2.out.at_ 1 rfl).fz 2; have f3 := (H2.out.at_ 1 rfl).fz 3; have f4 := (H2.out.at_ 1 rfl).fz 4; have f5 := (H2.out.at_ 1 rfl).fz 5)
      generalize hq : (w2.setCell _ _).setCell _ _ = w3
      have ht : Turn (fun i => i = b) w2 w3 := by rw [← hq]; exact turnX _ _ _ _ _ _
      have H3 := Lib.hid ((H2.out.put 1 rfl (turnX _ _ 0 1 _ _) (setX0 (H2.out.at_ 1 rfl) _ _)).world hq)
      have P0_3 := Lib.hid (P0_2.out.box (H2.out.at_ 1 rfl) (by decide) ht)
      have P1_3 := Lib.hid (P1_2.out.box (H2.out.at_ 1 rfl) (by decide) ht)
      have P2_3 := Lib.hid (P2_2.out.box (H2.out.at_ 1 rfl) (by decide) ht)
      clear ht
      clear hq
      clear P0_2
      clear P1_2
      clear P2_2
      clear H2
      clear a0 a1 a2 a3 a4 a5 f0 f1 f2 f3 f4 f5
      obtain ⟨a0, a1, a2, a3, a4, a5⟩ := (H3.out.at_ 1 rfl).c6
      have f0 := (H3.out.at_ 1 rfl).fz 0; have f1 := (H3.out.at_ 1 rfl).fz 1; have f2 := (H3.out.at_ 1 rfl).fz 2; have f3 := (H3.out.at_ 1 rfl).fz 3; have f4 := (H3.out.at_ 1 rfl).fz 4; have f5 := (H3.out.at_ 1 rfl).fz 5
      obtain ⟨r0, r1, r2, r3, r4, r5⟩ := (H3.out.at_ 0 rfl).c6
      have g0 := (H3.out.at_ 0 rfl).fz 0; have g1 := (H3.out.at_ 0 rfl).fz 1; have g2 := (H3.out.at_ 0 rfl).fz 2; have g3 := (H3.out.at_ 0 rfl).fz 3; have g4 := (H3.out.at_ 0 rfl).fz 4; have g5 := (H3.out.at_ 0 rfl).fz 5
      go_wp2
      refine bodyPost_ret (results_cell_row rfl _ _ (b + 1) _ _ _ _ rfl (setB6 (H3.out.at_ 0 rfl) _ _ _ _ _ _) Tryd.underlying31 rfl rfl) rfl ⟨_, _, _, rfl, ⟨P0_3.out.box (H3.out.at_ 0 rfl) (by decide) (turnB6 _ _ _ _ _ _ _ _), P1_3.out.box (H3.out.at_ 0 rfl) (by decide) (turnB6 _ _ _ _ _ _ _ _), P2_3.out.box (H3.out.at_ 0 rfl) (by decide) (turnB6 _ _ _ _ _ _ _ _)⟩, ?_⟩
      rw [← HBB.out]
      rw [← HBB.out] at H3
      exact (H3.out.put6 0 rfl rfl).below
  · have HE : Hid (evL L l a = L) := Lib.hid (if_neg hl)
    by_cases h2 : 2 ≤ l
    · have h4 : decide (l ≤ 4) = false := decide_eq_false (by omega)
      clear hl
      go_enter Tryd.func37, Tryd.ntmps37
      go_upto_region 1 with fail
      have hb0 : Below w.heap.size w ((w.alloc (.cells (xCells (.slice B0 m0 d0) (.slice B1 m1 d1) (.slice B2 m2 d2) S) 31)).alloc (.cells xZero 31)) := H0.out.below
      generalize hw1 : (w.alloc _).alloc _ = w1 at hb0 ⊢
      have H1 := Lib.hid (H0.out.world hw1)
      have P0_1 := Lib.hid (P0_0.out.quiet hb0)
      have P1_1 := Lib.hid (P1_0.out.quiet hb0)
      have P2_1 := Lib.hid (P2_0.out.quiet hb0)
      clear hw1 H0 P0_0 P1_0 P2_0 hb0
      obtain ⟨b, hb⟩ : ∃ b, w.heap.size = b := ⟨_, rfl⟩
      have HBB := Lib.hid hb
      rw [hb] at H1 ⊢
      clear hb
      obtain ⟨a0, a1, a2, a3, a4, a5⟩ := (H1.out.at_ 1 rfl).c6
      have f0 := (H1.out.at_ 1 rfl).fz 0; have f1 := (H1.out.at_ 1 rfl).fz 1; have f2 := (H1.out.at_ 1 rfl).fz 2; have f3 := (H1.out.at_ 1 rfl).fz 3; have f4 := (H1.out.at_ 1 rfl).fz 4; have f5 := (H1.out.at_ 1 rfl).fz 5
      obtain ⟨r0, r1, r2, r3, r4, r5⟩ := (H1.out.at_ 0 rfl).c6
      have g0 := (H1.out.at_ 0 rfl).fz 0; have g1 := (H1.out.at_ 0 rfl).fz 1; have g2 := (H1.out.at_ 0 rfl).fz 2; have g3 := (H1.out.at_ 0 rfl).fz 3; have g4 := (H1.out.at_ 0 rfl).fz 4; have g5 := (H1.out.at_ 0 rfl).fz 5
      go_wp2
      refine bodyPost_ret (results_cell_row rfl _ _ (b + 1) _ _ _ _ rfl (setB6 (H1.out.at_ 0 rfl) _ _ _ _ _ _) Tryd.underlying31 rfl rfl) rfl ⟨_, _, _, rfl, HE.out.symm ▸ ⟨P0_1.out.box (H1.out.at_ 0 rfl) (by decide) (turnB6 _ _ _ _ _ _ _ _), P1_1.out.box (H1.out.at_ 0 rfl) (by decide) (turnB6 _ _ _ _ _ _ _ _), P2_1.out.box (H1.out.at_ 0 rfl) (by decide) (turnB6 _ _ _ _ _ _ _ _)⟩, ?_⟩
      rw [← HBB.out]
      rw [← HBB.out] at H1
      exact (H1.out.put6 0 rfl rfl).below
    · have h4 : l < 2 := by omega
      clear hl h2
      go_enter Tryd.func37, Tryd.ntmps37
      go_upto_region 1 with fail
      have hb0 : Below w.heap.size w ((w.alloc (.cells (xCells (.slice B0 m0 d0) (.slice B1 m1 d1) (.slice B2 m2 d2) S) 31)).alloc (.cells xZero 31)) := H0.out.below
      generalize hw1 : (w.alloc _).alloc _ = w1 at hb0 ⊢
      have H1 := Lib.hid (H0.out.world hw1)
      have P0_1 := Lib.hid (P0_0.out.quiet hb0)
      have P1_1 := Lib.hid (P1_0.out.quiet hb0)
      have P2_1 := Lib.hid (P2_0.out.quiet hb0)
      clear hw1 H0 P0_0 P1_0 P2_0 hb0
      obtain ⟨b, hb⟩ : ∃ b, w.heap.size = b := ⟨_, rfl⟩
      have HBB := Lib.hid hb
      rw [hb] at H1 ⊢
      clear hb
      obtain ⟨a0, a1, a2, a3, a4, a5⟩ := (H1.out.at_ 1 rfl).c6
      have f0 := (H1.out.at_ 1 rfl).fz 0; have f1 := (H1.out.at_ 1 rfl).fz 1; have f2 := (H1.out.at_ 1 rfl).fz 2; have f3 := (H1.out.at_ 1 rfl).fz 3; have f4 := (H1.out.at_ 1 rfl).fz 4; have f5 := (H1.out.at_ 1 rfl).fz 5
      obtain ⟨r0, r1, r2, r3, r4, r5⟩ := (H1.out.at_ 0 rfl).c6
      have g0 := (H1.out.at_ 0 rfl).fz 0; have g1 := (H1.out.at_ 0 rfl).fz 1; have g2 := (H1.out.at_ 0 rfl).fz 2; have g3 := (H1.out.at_ 0 rfl).fz 3; have g4 := (H1.out.at_ 0 rfl).fz 4; have g5 := (H1.out.at_ 0 rfl).fz 5
      go_wp2
      refine bodyPost_ret (results_cell_row rfl _ _ (b + 1) _ _ _ _ rfl (setB6 (H1.out.at_ 0 rfl) _ _ _ _ _ _) Tryd.underlying31 rfl rfl) rfl ⟨_, _, _, rfl, HE.out.symm ▸ ⟨P0_1.out.box (H1.out.at_ 0 rfl) (by decide) (turnB6 _ _ _ _ _ _ _ _), P1_1.out.box (H1.out.at_ 0 rfl) (by decide) (turnB6 _ _ _ _ _ _ _ _), P2_1.out.box (H1.out.at_ 0 rfl) (by decide) (turnB6 _ _ _ _ _ _ _ _)⟩, ?_⟩
      rw [← HBB.out]
      rw [← HBB.out] at H1
      exact (H1.out.put6 0 rfl rfl).below

set_option maxRecDepth 100000 in
set_option maxHeartbeats 3200000 in
theorem rdropX_any (w : World) (v0 v1 v2 : Value) (L : Ls) (S : Int) (h : DocX w v0 v1 v2 L) (hl : ∀ k : Nat, k < 3 → (L k).length ≤ 64) (p a : Int) (ha : W64 a) :
    Calls Tryd.prog 34 #[xV v0 v1 v2 S, .int .i64 p, .int .u64 a] w fun e w' => ∃ u0 u1 u2, e = .returned (xV u0 u1 u2 S) ∧ NewX w w' v0 v1 v2 u0 u1 u2 (dropL L p a) ∧ Below w.heap.size w w' := by
  obtain ⟨h0, h1, h2⟩ := h
  obtain ⟨B0, m0, d0, rfl⟩ := h0.slice
  obtain ⟨B1, m1, d1, rfl⟩ := h1.slice
  obtain ⟨B2, m2, d2, rfl⟩ := h2.slice
  have P0_0 := Lib.hid (PairsNew.start h0)
  have P1_0 := Lib.hid (PairsNew.start h1)
  have P2_0 := Lib.hid (PairsNew.start h2)
  have l0 := hl 0 (by decide); have l1 := hl 1 (by decide); have l2 := hl 2 (by decide)
  have HL0 := Lib.hid l0; have HL1 := Lib.hid l1; have HL2 := Lib.hid l2
  have H0 := Lib.hid (((Mine.start w).new (b := w.heap.size) rfl (xCells (.slice B0 m0 d0) (.slice B1 m1 d1) (.slice B2 m2 d2) S) 31).new (b := w.heap.size + 1) (by simp) xZero 31)
  clear h0 h1 h2 hl l0 l1 l2
  have HAA := Lib.hid ha
  clear ha
  go_enter Tryd.func34, Tryd.ntmps34
  go_upto_region 1 with fail
  have hb0 : Below w.heap.size w ((w.alloc (.cells (xCells (.slice B0 m0 d0) (.slice B1 m1 d1) (.slice B2 m2 d2) S) 31)).alloc (.cells xZero 31)) := H0.out.below
  generalize hw1 : (w.alloc _).alloc _ = w1 at hb0 ⊢
  have H1 := Lib.hid (H0.out.world hw1)
  have P0_1 := Lib.hid (P0_0.out.quiet hb0)
  have P1_1 := Lib.hid (P1_0.out.quiet hb0)
  have P2_1 := Lib.hid (P2_0.out.quiet hb0)
  clear hw1 H0 P0_0 P1_0 P2_0 hb0
  obtain ⟨b, hb⟩ : ∃ b, w.heap.size = b := ⟨_, rfl⟩
  have HBB := Lib.hid hb
  rw [hb] at H1 ⊢
  clear hb
  have HX1 : Hid (NewX w w1 (.slice B0 m0 d0) (.slice B1 m1 d1) (.slice B2 m2 d2) (.slice B0 m0 d0) (.slice B1 m1 d1) (.slice B2 m2 d2) (upL 0 (dropL L p a) L)) := Lib.hid ⟨P0_1.out, P1_1.out, P2_1.out⟩
  clear P0_1 P1_1 P2_1
  go_wp2_with fail
  go_loopw [7] (fun i wr => ∃ (k : Nat) (A0 : Option Addr) (n0 c0 : Nat) (A1 : Option Addr) (n1 c1 : Nat) (A2 : Option Addr) (n2 c2 : Nat), k ≤ 3 ∧ i = .int .i64 k ∧ Hid (Mine w wr [⟨b + 1, xZero, 31⟩, ⟨b, #[(.slice A0 n0 c0), .int .i64 S, (.slice A1 n1 c1), .int .i64 S, (.slice A2 n2 c2), .int .i64 S], 31⟩] []) ∧ Hid (NewX w wr (.slice B0 m0 d0) (.slice B1 m1 d1) (.slice B2 m2 d2) (.slice A0 n0 c0) (.slice A1 n1 c1) (.slice A2 n2 c2) (upL k (dropL L p a) L))) (fun i _ => (3 - intOf i).toNat)
  case atStart => exact ⟨0, B0, m0, d0, B1, m1, d1, B2, m2, d2, by omega, rfl, H1, HX1⟩
  case round =>
    obtain ⟨k, A0, n0, c0, A1, n1, c1, A2, n2, c2, hk, rfl, H1, HX1⟩ := hrel
    have hkk : k = 0 ∨ k = 1 ∨ k = 2 ∨ k = 3 := by omega
    clear hk
    rcases hkk with rfl | rfl | rfl | rfl
    · have P0_1 : Hid (PairsNew w wr (.slice B0 m0 d0) (.slice A0 n0 c0) (L 0)) := Lib.hid HX1.out.a
      have P1_1 : Hid (PairsNew w wr (.slice B1 m1 d1) (.slice A1 n1 c1) (L 1)) := Lib.hid HX1.out.b
      have P2_1 : Hid (PairsNew w wr (.slice B2 m2 d2) (.slice A2 n2 c2) (L 2)) := Lib.hid HX1.out.c
      clear HX1
      go_upto_region 4 with fail
      have hb : Below wr.heap.size wr wr.drew := Kept.drew0 _
      refine wp_region_held_drew (S := fun _ => True) (by kernel_rfl) True.intro (fun hHeld => ?_)
      generalize wr.drew = w2 at *
      have H2 := Lib.hid (H1.out.quiet hb)
      have P0_2 := Lib.hid (P0_1.out.quiet hb)
      have P1_2 := Lib.hid (P1_1.out.quiet hb)
      have P2_2 := Lib.hid (P2_1.out.quiet hb)
      clear hb H1 P0_1 P1_1 P2_1
      refine tk (v := ?_) 0 ?_ ?_
      rotate_left
      · intro w hSw
        go_simp
        (try with_reducible rfl)
      (try simp only [Act.put, List.setIfInBounds_toArray, List.set_cons_zero, List.set_cons_succ])
      refine tk (v := ?_) 1 ?_ ?_
      rotate_left
      · intro w hSw
        go_simp
        (try with_reducible rfl)
      (try simp only [Act.put, List.setIfInBounds_toArray, List.set_cons_zero, List.set_cons_succ])
      refine tk (v := ?_) 2 ?_ ?_
      rotate_left
      · intro w hSw
        go_simp
        (try with_reducible rfl)
      (try simp only [Act.put, List.setIfInBounds_toArray, List.set_cons_zero, List.set_cons_succ])
      refine tk (v := ?_) 3 ?_ ?_
      rotate_left
      · intro w hSw
        go_simp
        (try with_reducible rfl)
      (try simp only [Act.put, List.setIfInBounds_toArray, List.set_cons_zero, List.set_cons_succ])
      refine tk (v := ?_) 5 ?_ ?_
      rotate_left
      · intro w hSw
        go_simp
        (try with_reducible rfl)
      (try simp only [Act.put, List.setIfInBounds_toArray, List.set_cons_zero, List.set_cons_succ])
      refine tk (v := ?_) 6 ?_ ?_
      rotate_left
      · intro w hSw
        go_simp
        (try with_reducible rfl)
      (try simp only [Act.put, List.setIfInBounds_toArray, List.set_cons_zero, List.set_cons_succ])
      refine tk (v := ?_) 7 ?_ ?_
      rotate_left
      · intro w hSw
        go_simp
        (try with_reducible rfl)
      (try simp only [Act.put, List.setIfInBounds_toArray, List.set_cons_zero, List.set_cons_succ])
      refine tk (v := ?_) 8 ?_ ?_
      rotate_left
      · intro w hSw
        go_simp
        (try with_reducible rfl)
      (try simp only [Act.put, List.setIfInBounds_toArray, List.set_cons_zero, List.set_cons_succ])
      refine tk (v := ?_) 11 ?_ ?_
      rotate_left
      · intro w hSw
        go_simp
        (try with_reducible rfl)
      (try simp only [Act.put, List.setIfInBounds_toArray, List.set_cons_zero, List.set_cons_succ])
      refine wpAnyH_ready (rs := [4, 9]) (by kernel_rfl) (by simp) ?_
      refine anyH_one rfl (fun K hK => ?_) ?_
      · obtain ⟨a0, a1, a2, a3, a4, a5⟩ := (H2.out.at_ 1 rfl).c6
        have f0 := (H2.out.at_ 1 rfl).fz 0; have f1 := (H2.out.at_ 1 rfl).fz 1; have f2 := (H2.out.at_ 1 rfl).fz 2; have f3 := (H2.out.at_ 1 rfl).fz 3; have f4 := (H2.out.at_ 1 rfl).fz 4; have f5 := (H2.out.at_ 1 rfl).fz 5
        go_simp
        clear a0 a1 a2 a3 a4 a5 f0 f1 f2 f3 f4 f5
        refine hK.out _ _ (True.intro) (fun hHeld => ?_)
        clear hK K
        (try simp only [Act.put, List.setIfInBounds_toArray, List.set_cons_zero, List.set_cons_succ])
        refine wpAnyH_ready (rs := [9]) (by kernel_rfl) (by simp) ?_
        refine anyH_one rfl (fun K hK => ?_) ?_
        · go_simp
          refine (rkey_any p 4 a _ HAA.out (by decide) (by decide)).mono ?_
          rintro e w3 ⟨rfl, hb⟩
          have H3 := Lib.hid (H2.out.quiet hb)
          have P0_3 := Lib.hid (P0_2.out.quiet hb)
          have P1_3 := Lib.hid (P1_2.out.quiet hb)
          have P2_3 := Lib.hid (P2_2.out.quiet hb)
          clear hb H2 P0_2 P1_2 P2_2
          refine hK.out _ _ (True.intro) (fun hHeld => ?_)
          clear hK K
          (try simp only [Act.put, List.setIfInBounds_toArray, List.set_cons_zero, List.set_cons_succ])
          refine wpAnyH_ready (rs := [10]) (by kernel_rfl) (by simp) ?_
          refine anyH_one rfl (fun K hK => ?_) ?_
          · go_simp
            refine (rdropU _ (.slice A0 n0 c0) _ S p 4 (tagF a 4) P0_3.out.1 (Nat.le_trans HL0.out (by decide))).mono ?_
            rintro e w4 ⟨Az, nz, cz, rfl, hP, hb⟩
            have H4 := Lib.hid (H3.out.quiet hb)
            have P0_4 := Lib.hid (P0_3.out.next hP H3.out.size)
            have P1_4 := Lib.hid (P1_3.out.quiet hb)
            have P2_4 := Lib.hid (P2_3.out.quiet hb)
            clear hb hP H3 P0_3 P1_3 P2_3
            refine hK.out _ _ (True.intro) (fun hHeld => ?_)
            clear hK K
            (try simp only [Act.put, List.setIfInBounds_toArray, List.set_cons_zero, List.set_cons_succ])
            refine tk (v := ?_) 12 ?_ ?_
            rotate_left
            · intro w hSw
              go_simp
              (try with_reducible rfl)
            (try simp only [Act.put, List.setIfInBounds_toArray, List.set_cons_zero, List.set_cons_succ])
            refine wpAnyH_ready (rs := [13]) (by kernel_rfl) (by simp) ?_
            refine anyH_one rfl (fun K hK => ?_) ?_
            · obtain ⟨a0, a1, a2, a3, a4, a5⟩ := (H4.out.at_ 1 rfl).c6
              have f0 := (H4.out.at_ 1 rfl).fz 0; have f1 := (H4.out.at_ 1 rfl).fz 1; have f2 := (H4.out.at_ 1 rfl).fz 2; have f3 := (H4.out.at_ 1 rfl).fz 3; have f4 := (H4.out.at_ 1 rfl).fz 4; have f5 := (H4.out.at_ 1 rfl).fz 5
              go_simp
              generalize hq : (w4.setCell _ _).setCell _ _ = w5
              have ht : Turn (fun i => i = b) w4 w5 := by rw [← hq]; exact turnX _ _ _ _ _ _
              have H5 := Lib.hid ((H4.out.put 1 rfl (turnX _ _ 0 1 _ _) (setX0 (H4.out.at_ 1 rfl) _ _)).world hq)
              have P0_5 := Lib.hid (P0_4.out.box (H4.out.at_ 1 rfl) (by decide) ht)
              have P1_5 := Lib.hid (P1_4.out.box (H4.out.at_ 1 rfl) (by decide) ht)
              have P2_5 := Lib.hid (P2_4.out.box (H4.out.at_ 1 rfl) (by decide) ht)
              clear ht
              clear hq
              clear P0_4
              clear P1_4
              clear P2_4
              clear H4
              clear a0 a1 a2 a3 a4 a5 f0 f1 f2 f3 f4 f5
              refine hK.out _ _ (True.intro) (fun hHeld => ?_)
              clear hK K
              (try simp only [Act.put, List.setIfInBounds_toArray, List.set_cons_zero, List.set_cons_succ])
              refine wpAnyH_done (by kernel_rfl) ?_ _
              clear hHeld
              have HX : Hid (NewX w w5 (.slice B0 m0 d0) (.slice B1 m1 d1) (.slice B2 m2 d2) (.slice Az nz cz) (.slice A1 n1 c1) (.slice A2 n2 c2) (upL 1 (dropL L p a) L)) := Lib.hid ⟨P0_5.out, P1_5.out, P2_5.out⟩
              clear P0_5 P1_5 P2_5
              go_wp2
              go_roundw
              case rel => exact ⟨1, Az, nz, cz, A1, n1, c1, A2, n2, c2, by omega, by go_num, H5, HX⟩
              case measure => simp [intOf]
            exact AllReadyH.nil
          exact AllReadyH.nil
        exact AllReadyH.nil
      refine anyH_one rfl (fun K hK => ?_) ?_
      · go_simp
        refine (rkey_any p 4 a _ HAA.out (by decide) (by decide)).mono ?_
        rintro e w3 ⟨rfl, hb⟩
        have H3 := Lib.hid (H2.out.quiet hb)
        have P0_3 := Lib.hid (P0_2.out.quiet hb)
        have P1_3 := Lib.hid (P1_2.out.quiet hb)
        have P2_3 := Lib.hid (P2_2.out.quiet hb)
        clear hb H2 P0_2 P1_2 P2_2
        refine hK.out _ _ (True.intro) (fun hHeld => ?_)
        clear hK K
        (try simp only [Act.put, List.setIfInBounds_toArray, List.set_cons_zero, List.set_cons_succ])
        refine wpAnyH_ready (rs := [4]) (by kernel_rfl) (by simp) ?_
        refine anyH_one rfl (fun K hK => ?_) ?_
        · obtain ⟨a0, a1, a2, a3, a4, a5⟩ := (H3.out.at_ 1 rfl).c6
          have f0 := (H3.out.at_ 1 rfl).fz 0; have f1 := (H3.out.at_ 1 rfl).fz 1; have f2 := (H3.out.at_ 1 rfl).fz 2; have f3 := (H3.out.at_ 1 rfl).fz 3; have f4 := (H3.out.at_ 1 rfl).fz 4; have f5 := (H3.out.at_ 1 rfl).fz 5
          go_simp
          clear a0 a1 a2 a3 a4 a5 f0 f1 f2 f3 f4 f5
          refine hK.out _ _ (True.intro) (fun hHeld => ?_)
          clear hK K
          (try simp only [Act.put, List.setIfInBounds_toArray, List.set_cons_zero, List.set_cons_succ])
          refine wpAnyH_ready (rs := [10]) (by kernel_rfl) (by simp) ?_
          refine anyH_one rfl (fun K hK => ?_) ?_
          · go_simp
            refine (rdropU _ (.slice A0 n0 c0) _ S p 4 (tagF a 4) P0_3.out.1 (Nat.le_trans HL0.out (by decide))).mono ?_
            rintro e w4 ⟨Az, nz, cz, rfl, hP, hb⟩
            have H4 := Lib.hid (H3.out.quiet hb)
            have P0_4 := Lib.hid (P0_3.out.next hP H3.out.size)
            have P1_4 := Lib.hid (P1_3.out.quiet hb)
            have P2_4 := Lib.hid (P2_3.out.quiet hb)
            clear hb hP H3 P0_3 P1_3 P2_3
            refine hK.out _ _ (True.intro) (fun hHeld => ?_)
            clear hK K
            (try simp only [Act.put, List.setIfInBounds_toArray, List.set_cons_zero, List.set_cons_succ])
            refine tk (v := ?_) 12 ?_ ?_
            rotate_left
            · intro w hSw
              go_simp
              (try with_reducible rfl)
            (try simp only [Act.put, List.setIfInBounds_toArray, List.set_cons_zero, List.set_cons_succ])
            refine wpAnyH_ready (rs := [13]) (by kernel_rfl) (by simp) ?_
            refine anyH_one rfl (fun K hK => ?_) ?_
            · obtain ⟨a0, a1, a2, a3, a4, a5⟩ := (H4.out.at_ 1 rfl).c6
              have f0 := (H4.out.at_ 1 rfl).fz 0; have f1 := (H4.out.at_ 1 rfl).fz 1; have f2 := (H4.out.at_ 1 rfl).fz 2; have f3 := (H4.out.at_ 1 rfl).fz 3; have f4 := (H4.out.at_ 1 rfl).fz 4; have f5 := (H4.out.at_ 1 rfl).fz 5
              go_simp
              generalize hq : (w4.setCell _ _).setCell _ _ = w5
              have ht : Turn (fun i => i = b) w4 w5 := by rw [← hq]; exact turnX _ _ _ _ _ _
              have H5 := Lib.hid ((H4.out.put 1 rfl (turnX _ _ 0 1 _ _) (setX0 (H4.out.at_ 1 rfl) _ _)).world hq)
              have P0_5 := Lib.hid (P0_4.out.box (H4.out.at_ 1 rfl) (by decide) ht)
              have P1_5 := Lib.hid (P1_4.out.box (H4.out.at_ 1 rfl) (by decide) ht)
              have P2_5 := Lib.hid (P2_4.out.box (H4.out.at_ 1 rfl) (by decide) ht)
              clear ht
              clear hq
              clear P0_4
              clear P1_4
              clear P2_4
              clear H4
              clear a0 a1 a2 a3 a4 a5 f0 f1 f2 f3 f4 f5
              refine hK.out _ _ (True.intro) (fun hHeld => ?_)
              clear hK K
              (try simp only [Act.put, List.setIfInBounds_toArray, List.set_cons_zero, List.set_cons_succ])
              refine wpAnyH_done (by kernel_rfl) ?_ _
              clear hHeld
              have HX : Hid (NewX w w5 (.slice B0 m0 d0) (.slice B1 m1 d1) (.slice B2 m2 d2) (.slice Az nz cz) (.slice A1 n1 c1) (.slice A2 n2 c2) (upL 1 (dropL L p a) L)) := Lib.hid ⟨P0_5.out, P1_5.out, P2_5.out⟩
              clear P0_5 P1_5 P2_5
              go_wp2
              go_roundw
              case rel => exact ⟨1, Az, nz, cz, A1, n1, c1, A2, n2, c2, by omega, by go_num, H5, HX⟩
              case measure => simp [intOf]
            exact AllReadyH.nil
          exact AllReadyH.nil
        exact AllReadyH.nil
      exact AllReadyH.nil
    · have P0_1 : Hid (PairsNew w wr (.slice B0 m0 d0) (.slice A0 n0 c0) (dropK (L 0) (p, 4, tagF a 4))) := Lib.hid HX1.out.a
      have P1_1 : Hid (PairsNew w wr (.slice B1 m1 d1) (.slice A1 n1 c1) (L 1)) := Lib.hid HX1.out.b
      have P2_1 : Hid (PairsNew w wr (.slice B2 m2 d2) (.slice A2 n2 c2) (L 2)) := Lib.hid HX1.out.c
      clear HX1
      go_upto_region 4 with fail
      have hb : Below wr.heap.size wr wr.drew := Kept.drew0 _
      refine wp_region_held_drew (S := fun _ => True) (by kernel_rfl) True.intro (fun hHeld => ?_)
      generalize wr.drew = w2 at *
      have H2 := Lib.hid (H1.out.quiet hb)
      have P0_2 := Lib.hid (P0_1.out.quiet hb)
      have P1_2 := Lib.hid (P1_1.out.quiet hb)
      have P2_2 := Lib.hid (P2_1.out.quiet hb)
      clear hb H1 P0_1 P1_1 P2_1
      refine tk (v := ?_) 0 ?_ ?_
      rotate_left
      · intro w hSw
        go_simp
        (try with_reducible rfl)
      (try simp only [Act.put, List.setIfInBounds_toArray, List.set_cons_zero, List.set_cons_succ])
      refine tk (v := ?_) 1 ?_ ?_
      rotate_left
      · intro w hSw
        go_simp
        (try with_reducible rfl)
      (try simp only [Act.put, List.setIfInBounds_toArray, List.set_cons_zero, List.set_cons_succ])
      refine tk (v := ?_) 2 ?_ ?_
      rotate_left
      · intro w hSw
        go_simp
        (try with_reducible rfl)
      (try simp only [Act.put, List.setIfInBounds_toArray, List.set_cons_zero, List.set_cons_succ])
      refine tk (v := ?_) 3 ?_ ?_
      rotate_left
      · intro w hSw
        go_simp
        (try with_reducible rfl)
      (try simp only [Act.put, List.setIfInBounds_toArray, List.set_cons_zero, List.set_cons_succ])
      refine tk (v := ?_) 5 ?_ ?_
      rotate_left
      · intro w hSw
        go_simp
        (try with_reducible rfl)
      (try simp only [Act.put, List.setIfInBounds_toArray, List.set_cons_zero, List.set_cons_succ])
      refine tk (v := ?_) 6 ?_ ?_
      rotate_left
      · intro w hSw
        go_simp
        (try with_reducible rfl)
      (try simp only [Act.put, List.setIfInBounds_toArray, List.set_cons_zero, List.set_cons_succ])
      refine tk (v := ?_) 7 ?_ ?_
      rotate_left
      · intro w hSw
        go_simp
        (try with_reducible rfl)
      (try simp only [Act.put, List.setIfInBounds_toArray, List.set_cons_zero, List.set_cons_succ])
      refine tk (v := ?_) 8 ?_ ?_
      rotate_left
      · intro w hSw
        go_simp
        (try with_reducible rfl)
      (try simp only [Act.put, List.setIfInBounds_toArray, List.set_cons_zero, List.set_cons_succ])
      refine tk (v := ?_) 11 ?_ ?_
      rotate_left
      · intro w hSw
        go_simp
        (try with_reducible rfl)
      (try simp only [Act.put, List.setIfInBounds_toArray, List.set_cons_zero, List.set_cons_succ])
      refine wpAnyH_ready (rs := [4, 9]) (by kernel_rfl) (by simp) ?_
      refine anyH_one rfl (fun K hK => ?_) ?_
      · obtain ⟨a0, a1, a2, a3, a4, a5⟩ := (H2.out.at_ 1 rfl).c6
        have f0 := (H2.out.at_ 1 rfl).fz 0; have f1 := (H2.out.at_ 1 rfl).fz 1; have f2 := (H2.out.at_ 1 rfl).fz 2; have f3 := (H2.out.at_ 1 rfl).fz 3; have f4 := (H2.out.at_ 1 rfl).fz 4; have f5 := (H2.out.at_ 1 rfl).fz 5
        go_simp
        clear a0 a1 a2 a3 a4 a5 f0 f1 f2 f3 f4 f5
        refine hK.out _ _ (True.intro) (fun hHeld => ?_)
        clear hK K
        (try simp only [Act.put, List.setIfInBounds_toArray, List.set_cons_zero, List.set_cons_succ])
        refine wpAnyH_ready (rs := [9]) (by kernel_rfl) (by simp) ?_
        refine anyH_one rfl (fun K hK => ?_) ?_
        · go_simp
          refine (rkey_any p 3 a _ HAA.out (by decide) (by decide)).mono ?_
          rintro e w3 ⟨rfl, hb⟩
          have H3 := Lib.hid (H2.out.quiet hb)
          have P0_3 := Lib.hid (P0_2.out.quiet hb)
          have P1_3 := Lib.hid (P1_2.out.quiet hb)
          have P2_3 := Lib.hid (P2_2.out.quiet hb)
          clear hb H2 P0_2 P1_2 P2_2
          refine hK.out _ _ (True.intro) (fun hHeld => ?_)
          clear hK K
          (try simp only [Act.put, List.setIfInBounds_toArray, List.set_cons_zero, List.set_cons_succ])
          refine wpAnyH_ready (rs := [10]) (by kernel_rfl) (by simp) ?_
          refine anyH_one rfl (fun K hK => ?_) ?_
          · go_simp
            refine (rdropU _ (.slice A1 n1 c1) _ S p 3 (tagF a 3) P1_3.out.1 (Nat.le_trans HL1.out (by decide))).mono ?_
            rintro e w4 ⟨Az, nz, cz, rfl, hP, hb⟩
            have H4 := Lib.hid (H3.out.quiet hb)
            have P0_4 := Lib.hid (P0_3.out.quiet hb)
            have P1_4 := Lib.hid (P1_3.out.next hP H3.out.size)
            have P2_4 := Lib.hid (P2_3.out.quiet hb)
            clear hb hP H3 P0_3 P1_3 P2_3
            refine hK.out _ _ (True.intro) (fun hHeld => ?_)
            clear hK K
            (try simp only [Act.put, List.setIfInBounds_toArray, List.set_cons_zero, List.set_cons_succ])
            refine tk (v := ?_) 12 ?_ ?_
            rotate_left
            · intro w hSw
              go_simp
              (try with_reducible rfl)
            (try simp only [Act.put, List.setIfInBounds_toArray, List.set_cons_zero, List.set_cons_succ])
            refine wpAnyH_ready (rs := [13]) (by kernel_rfl) (by simp) ?_
            refine anyH_one rfl (fun K hK => ?_) ?_
            · obtain ⟨a0, a1, a2, a3, a4, a5⟩ := (H4.out.at_ 1 rfl).c6
              have f0 := (H4.out.at_ 1 rfl).fz 0; have f1 := (H4.out.at_ 1 rfl).fz 1; have f2 := (H4.out.at_ 1 rfl).fz 2; have f3 := (H4.out.at_ 1 rfl).fz 3; have f4 := (H4.out.at_ 1 rfl).fz 4; have f5 := (H4.out.at_ 1 rfl).fz 5
              go_simp
              generalize hq : (w4.setCell _ _).setCell _ _ = w5
              have ht : Turn (fun i => i = b) w4 w5 := by rw [← hq]; exact turnX _ _ _ _ _ _
              have H5 := Lib.hid ((H4.out.put 1 rfl (turnX _ _ 2 3 _ _) (setX1 (H4.out.at_ 1 rfl) _ _)).world hq)
              have P0_5 := Lib.hid (P0_4.out.box (H4.out.at_ 1 rfl) (by decide) ht)
              have P1_5 := Lib.hid (P1_4.out.box (H4.out.at_ 1 rfl) (by decide) ht)
              have P2_5 := Lib.hid (P2_4.out.box (H4.out.at_ 1 rfl) (by decide) ht)
              clear ht
              clear hq
              clear P0_4
              clear P1_4
              clear P2_4
              clear H4
              clear a0 a1 a2 a3 a4 a5 f0 f1 f2 f3 f4 f5
              refine hK.out _ _ (True.intro) (fun hHeld => ?_)
              clear hK K
              (try simp only [Act.put, List.setIfInBounds_toArray, List.set_cons_zero, List.set_cons_succ])
              refine wpAnyH_done (by kernel_rfl) ?_ _
              clear hHeld
              have HX : Hid (NewX w w5 (.slice B0 m0 d0) (.slice B1 m1 d1) (.slice B2 m2 d2) (.slice A0 n0 c0) (.slice Az nz cz) (.slice A2 n2 c2) (upL 2 (dropL L p a) L)) := Lib.hid ⟨P0_5.out, P1_5.out, P2_5.out⟩
              clear P0_5 P1_5 P2_5
              go_wp2
              go_roundw
              case rel => exact ⟨2, A0, n0, c0, Az, nz, cz, A2, n2, c2, by omega, by go_num, H5, HX⟩
              case measure => simp [intOf]
            exact AllReadyH.nil
          exact AllReadyH.nil
        exact AllReadyH.nil
      refine anyH_one rfl (fun K hK => ?_) ?_
      · go_simp
        refine (rkey_any p 3 a _ HAA.out (by decide) (by decide)).mono ?_
        rintro e w3 ⟨rfl, hb⟩
        have H3 := Lib.hid (H2.out.quiet hb)
        have P0_3 := Lib.hid (P0_2.out.quiet hb)
        have P1_3 := Lib.hid (P1_2.out.quiet hb)
        have P2_3 := Lib.hid (P2_2.out.quiet hb)
        clear hb H2 P0_2 P1_2 P2_2
        refine hK.out _ _ (True.intro) (fun hHeld => ?_)
        clear hK K
        (try simp only [Act.put, List.setIfInBounds_toArray, List.set_cons_zero, List.set_cons_succ])
        refine wpAnyH_ready (rs := [4]) (by kernel_rfl) (by simp) ?_
        refine anyH_one rfl (fun K hK => ?_) ?_
        · obtain ⟨a0, a1, a2, a3, a4, a5⟩ := (H3.out.at_ 1 rfl).c6
          have f0 := (H3.out.at_ 1 rfl).fz 0; have f1 := (H3.out.at_ 1 rfl).fz 1; have f2 := (H3.out.at_ 1 rfl).fz 2; have f3 := (H3.out.at_ 1 rfl).fz 3; have f4 := (H3.out.at_ 1 rfl).fz 4; have f5 := (H3.out.at_ 1 rfl).fz 5
          go_simp
          clear a0 a1 a2 a3 a4 a5 f0 f1 f2 f3 f4 f5
          refine hK.out _ _ (True.intro) (fun hHeld => ?_)
          clear hK K
          (try simp only [Act.put, List.setIfInBounds_toArray, List.set_cons_zero, List.set_cons_succ])
          refine wpAnyH_ready (rs := [10]) (by kernel_rfl) (by simp) ?_
          refine anyH_one rfl (fun K hK => ?_) ?_
          · go_simp
            refine (rdropU _ (.slice A1 n1 c1) _ S p 3 (tagF a 3) P1_3.out.1 (Nat.le_trans HL1.out (by decide))).mono ?_
            rintro e w4 ⟨Az, nz, cz, rfl, hP, hb⟩
            have H4 := Lib.hid (H3.out.quiet hb)
            have P0_4 := Lib.hid (P0_3.out.quiet hb)
            have P1_4 := Lib.hid (P1_3.out.next hP H3.out.size)
            have P2_4 := Lib.hid (P2_3.out.quiet hb)
            clear hb hP H3 P0_3 P1_3 P2_3
            refine hK.out _ _ (True.intro) (fun hHeld => ?_)
            clear hK K
            (try simp only [Act.put, List.setIfInBounds_toArray, List.set_cons_zero, List.set_cons_succ])
            refine tk (v := ?_) 12 ?_ ?_
            rotate_left
            · intro w hSw
              go_simp
              (try with_reducible rfl)
            (try simp only [Act.put, List.setIfInBounds_toArray, List.set_cons_zero, List.set_cons_succ])
            refine wpAnyH_ready (rs := [13]) (by kernel_rfl) (by simp) ?_
            refine anyH_one rfl (fun K hK => ?_) ?_
            · obtain ⟨a0, a1, a2, a3, a4, a5⟩ := (H4.out.at_ 1 rfl).c6
              have f0 := (H4.out.at_ 1 rfl).fz 0; have f1 := (H4.out.at_ 1 rfl).fz 1; have f2 := (H4.out.at_ 1 rfl).fz 2; have f3 := (H4.out.at_ 1 rfl).fz 3; have f4 := (H4.out.at_ 1 rfl).fz 4; have f5 := (H4.out.at_ 1 rfl).fz 5
              go_simp
              generalize hq : (w4.setCell _ _).setCell _ _ = w5
              have ht : Turn (fun i => i = b) w4 w5 := by rw [← hq]; exact turnX _ _ _ _ _ _
              have H5 := Lib.hid ((H4.out.put 1 rfl (turnX _ _ 2 3 _ _) (setX1 (H4.out.at_ 1 rfl) _ _)).world hq)
              have P0_5 := Lib.hid (P0_4.out.box (H4.out.at_ 1 rfl) (by decide) ht)
              have P1_5 := Lib.hid (P1_4.out.box (H4.out.at_ 1 rfl) (by decide) ht)
              have P2_5 := Lib.hid (P2_4.out.box (H4.out.at_ 1 rfl) (by decide) ht)
              clear ht
              clear hq
              clear P0_4
              clear P1_4
              clear P2_4
              clear H4
              clear a0 a1 a2 a3 a4 a5 f0 f1 f2 f3 f4 f5
              refine hK.out _ _ (True.intro) (fun hHeld => ?_)
              clear hK K
              (try simp only [Act.put, List.setIfInBounds_toArray, List.set_cons_zero, List.set_cons_succ])
              refine wpAnyH_done (by kernel_rfl) ?_ _
              clear hHeld
              have HX : Hid (NewX w w5 (.slice B0 m0 d0) (.slice B1 m1 d1) (.slice B2 m2 d2) (.slice A0 n0 c0) (.slice Az nz cz) (.slice A2 n2 c2) (upL 2 (dropL L p a) L)) := Lib.hid ⟨P0_5.out, P1_5.out, P2_5.out⟩
              clear P0_5 P1_5 P2_5
              go_wp2
              go_roundw
              case rel => exact ⟨2, A0, n0, c0, Az, nz, cz, A2, n2, c2, by omega, by go_num, H5, HX⟩
              case measure => simp [intOf]
            exact AllReadyH.nil
          exact AllReadyH.nil
        exact AllReadyH.nil
      exact AllReadyH.nil
    · have P0_1 : Hid (PairsNew w wr (.slice B0 m0 d0) (.slice A0 n0 c0) (dropK (L 0) (p, 4, tagF a 4))) := Lib.hid HX1.out.a
      have P1_1 : Hid (PairsNew w wr (.slice B1 m1 d1) (.slice A1 n1 c1) (dropK (L 1) (p, 3, tagF a 3))) := Lib.hid HX1.out.b
      have P2_1 : Hid (PairsNew w wr (.slice B2 m2 d2) (.slice A2 n2 c2) (L 2)) := Lib.hid HX1.out.c
      clear HX1
      go_upto_region 4 with fail
      have hb : Below wr.heap.size wr wr.drew := Kept.drew0 _
      refine wp_region_held_drew (S := fun _ => True) (by kernel_rfl) True.intro (fun hHeld => ?_)
      generalize wr.drew = w2 at *
      have H2 := Lib.hid (H1.out.quiet hb)
      have P0_2 := Lib.hid (P0_1.out.quiet hb)
      have P1_2 := Lib.hid (P1_1.out.quiet hb)
      have P2_2 := Lib.hid (P2_1.out.quiet hb)
      clear hb H1 P0_1 P1_1 P2_1
      refine tk (v := ?_) 0 ?_ ?_
      rotate_left
      · intro w hSw
        go_simp
        (try with_reducible rfl)
      (try simp only [Act.put, List.setIfInBounds_toArray, List.set_cons_zero, List.set_cons_succ])
      refine tk (v := ?_) 1 ?_ ?_
      rotate_left
      · intro w hSw
        go_simp
        (try with_reducible rfl)
      (try simp only [Act.put, List.setIfInBounds_toArray, List.set_cons_zero, List.set_cons_succ])
      refine tk (v := ?_) 2 ?_ ?_
      rotate_left
      · intro w hSw
        go_simp
        (try with_reducible rfl)
      (try simp only [Act.put, List.setIfInBounds_toArray, List.set_cons_zero, List.set_cons_succ])
      refine tk (v := ?_) 3 ?_ ?_
      rotate_left
      · intro w hSw
        go_simp
        (try with_reducible rfl)
      (try simp only [Act.put, List.setIfInBounds_toArray, List.set_cons_zero, List.set_cons_succ])
      refine tk (v := ?_) 5 ?_ ?_
      rotate_left
      · intro w hSw
        go_simp
        (try with_reducible rfl)
      (try simp only [Act.put, List.setIfInBounds_toArray, List.set_cons_zero, List.set_cons_succ])
      refine tk (v := ?_) 6 ?_ ?_
      rotate_left
      · intro w hSw
        go_simp
        (try with_reducible rfl)
      (try simp only [Act.put, List.setIfInBounds_toArray, List.set_cons_zero, List.set_cons_succ])
      refine tk (v := ?_) 7 ?_ ?_
      rotate_left
      · intro w hSw
        go_simp
        (try with_reducible rfl)
      (try simp only [Act.put, List.setIfInBounds_toArray, List.set_cons_zero, List.set_cons_succ])
      refine tk (v := ?_) 8 ?_ ?_
      rotate_left
      · intro w hSw
        go_simp
        (try with_reducible rfl)
      (try simp only [Act.put, List.setIfInBounds_toArray, List.set_cons_zero, List.set_cons_succ])
      refine tk (v := ?_) 11 ?_ ?_
      rotate_left
      · intro w hSw
        go_simp
        (try with_reducible rfl)
      (try simp only [Act.put, List.setIfInBounds_toArray, List.set_cons_zero, List.set_cons_succ])
      refine wpAnyH_ready (rs := [4, 9]) (by kernel_rfl) (by simp) ?_
      refine anyH_one rfl (fun K hK => ?_) ?_
      · obtain ⟨a0, a1, a2, a3, a4, a5⟩ := (H2.out.at_ 1 rfl).c6
        have f0 := (H2.out.at_ 1 rfl).fz 0; have f1 := (H2.out.at_ 1 rfl).fz 1; have f2 := (H2.out.at_ 1 rfl).fz 2; have f3 := (H2.out.at_ 1 rfl).fz 3; have f4 := (H2.out.at_ 1 rfl).fz 4; have f5 := (H2.out.at_ 1 rfl).fz 5
        go_simp
        clear a0 a1 a2 a3 a4 a5 f0 f1 f2 f3 f4 f5
        refine hK.out _ _ (True.intro) (fun hHeld => ?_)
        clear hK K
        (try simp only [Act.put, List.setIfInBounds_toArray, List.set_cons_zero, List.set_cons_succ])
        refine wpAnyH_ready (rs := [9]) (by kernel_rfl) (by simp) ?_
        refine anyH_one rfl (fun K hK => ?_) ?_
        · go_simp
          refine (rkey_any p 2 a _ HAA.out (by decide) (by decide)).mono ?_
          rintro e w3 ⟨rfl, hb⟩
          have H3 := Lib.hid (H2.out.quiet hb)
          have P0_3 := Lib.hid (P0_2.out.quiet hb)
          have P1_3 := Lib.hid (P1_2.out.quiet hb)
          have P2_3 := Lib.hid (P2_2.out.quiet hb)
          clear hb H2 P0_2 P1_2 P2_2
          refine hK.out _ _ (True.intro) (fun hHeld => ?_)
          clear hK K
          (try simp only [Act.put, List.setIfInBounds_toArray, List.set_cons_zero, List.set_cons_succ])
          refine wpAnyH_ready (rs := [10]) (by kernel_rfl) (by simp) ?_
          refine anyH_one rfl (fun K hK => ?_) ?_
          · go_simp
            refine (rdropU _ (.slice A2 n2 c2) _ S p 2 (tagF a 2) P2_3.out.1 (Nat.le_trans HL2.out (by decide))).mono ?_
            rintro e w4 ⟨Az, nz, cz, rfl, hP, hb⟩
            have H4 := Lib.hid (H3.out.quiet hb)
            have P0_4 := Lib.hid (P0_3.out.quiet hb)
            have P1_4 := Lib.hid (P1_3.out.quiet hb)
            have P2_4 := Lib.hid (P2_3.out.next hP H3.out.size)
            clear hb hP H3 P0_3 P1_3 P2_3
            refine hK.out _ _ (True.intro) (fun hHeld => ?_)
            clear hK K
            (try simp only [Act.put, List.setIfInBounds_toArray, List.set_cons_zero, List.set_cons_succ])
            refine tk (v := ?_) 12 ?_ ?_
            rotate_left
            · intro w hSw
              go_simp
              (try with_reducible rfl)
            (try simp only [Act.put, List.setIfInBounds_toArray, List.set_cons_zero, List.set_cons_succ])
            refine wpAnyH_ready (rs := [13]) (by kernel_rfl) (by simp) ?_
            refine anyH_one rfl (fun K hK => ?_) ?_
            · obtain ⟨a0, a1, a2, a3, a4, a5⟩ := (H4.out.at_ 1 rfl).c6
              have f0 := (H4.out.at_ 1 rfl).fz 0; have f1 := (H4.out.at_ 1 rfl).fz 1; have f2 := (H4.out.at_ 1 rfl).fz 2; have f3 := (H4.out.at_ 1 rfl).fz 3; have f4 := (H4.out.at_ 1 rfl).fz 4; have f5 := (H4.out.at_ 1 rfl).fz 5
              go_simp
              generalize hq : (w4.setCell _ _).setCell _ _ = w5
              have ht : Turn (fun i => i = b) w4 w5 := by rw [← hq]; exact turnX _ _ _ _ _ _
              have H5 := Lib.hid ((H4.out.put 1 rfl (turnX _ _ 4 5 _ _) (setX2 (H4.out.at_ 1 rfl) _ _)).world hq)
              have P0_5 := Lib.hid (P0_4.out.box (H4.out.at_ 1 rfl) (by decide) ht)
              have P1_5 := Lib.hid (P1_4.out.box (H4.out.at_ 1 rfl) (by decide) ht)
              have P2_5 := Lib.hid (P2_4.out.box (H4.out.at_ 1 rfl) (by decide) ht)
              clear ht
              clear hq
              clear P0_4
              clear P1_4
              clear P2_4
              clear H4
              clear a0 a1 a2 a3 a4 a5 f0 f1 f2 f3 f4 f5
              refine hK.out _ _ (True.intro) (fun hHeld => ?_)
              clear hK K
              (try simp only [Act.put, List.setIfInBounds_toArray, List.set_cons_zero, List.set_cons_succ])
              refine wpAnyH_done (by kernel_rfl) ?_ _
              clear hHeld
              have HX : Hid (NewX w w5 (.slice B0 m0 d0) (.slice B1 m1 d1) (.slice B2 m2 d2) (.slice A0 n0 c0) (.slice A1 n1 c1) (.slice Az nz cz) (upL 3 (dropL L p a) L)) := Lib.hid ⟨P0_5.out, P1_5.out, P2_5.out⟩
              clear P0_5 P1_5 P2_5
              go_wp2
              go_roundw
              case rel => exact ⟨3, A0, n0, c0, A1, n1, c1, Az, nz, cz, by omega, by go_num, H5, HX⟩
              case measure => simp [intOf]
            exact AllReadyH.nil
          exact AllReadyH.nil
        exact AllReadyH.nil
      refine anyH_one rfl (fun K hK => ?_) ?_
      · go_simp
        refine (rkey_any p 2 a _ HAA.out (by decide) (by decide)).mono ?_
        rintro e w3 ⟨rfl, hb⟩
        have H3 := Lib.hid (H2.out.quiet hb)
        have P0_3 := Lib.hid (P0_2.out.quiet hb)
        have P1_3 := Lib.hid (P1_2.out.quiet hb)
        have P2_3 := Lib.hid (P2_2.out.quiet hb)
        clear hb H2 P0_2 P1_2 P2_2
        refine hK.out _ _ (True.intro) (fun hHeld => ?_)
        clear hK K
        (try simp only [Act.put, List.setIfInBounds_toArray, List.set_cons_zero, List.set_cons_succ])
        refine wpAnyH_ready (rs := [4]) (by kernel_rfl) (by simp) ?_
        refine anyH_one rfl (fun K hK => ?_) ?_
        · obtain ⟨a0, a1, a2, a3, a4, a5⟩ := (H3.out.at_ 1 rfl).c6
          have f0 := (H3.out.at_ 1 rfl).fz 0; have f1 := (H3.out.at_ 1 rfl).fz 1; have f2 := (H3.out.at_ 1 rfl).fz 2; have f3 := (H3.out.at_ 1 rfl).fz 3; have f4 := (H3.out.at_ 1 rfl).fz 4; have f5 := (H3.out.at_ 1 rfl).fz 5
          go_simp
          clear a0 a1 a2 a3 a4 a5 f0 f1 f2 f3 f4 f5
          refine hK.out _ _ (True.intro) (fun hHeld => ?_)
          clear hK K
          (try simp only [Act.put, List.setIfInBounds_toArray, List.set_cons_zero, List.set_cons_succ])
          refine wpAnyH_ready (rs := [10]) (by kernel_rfl) (by simp) ?_
          refine anyH_one rfl (fun K hK => ?_) ?_
          · go_simp
            refine (rdropU _ (.slice A2 n2 c2) _ S p 2 (tagF a 2) P2_3.out.1 (Nat.le_trans HL2.out (by decide))).mono ?_
            rintro e w4 ⟨Az, nz, cz, rfl, hP, hb⟩
            have H4 := Lib.hid (H3.out.quiet hb)
            have P0_4 := Lib.hid (P0_3.out.quiet hb)
            have P1_4 := Lib.hid (P1_3.out.quiet hb)
            have P2_4 := Lib.hid (P2_3.out.next hP H3.out.size)
            clear hb hP H3 P0_3 P1_3 P2_3
            refine hK.out _ _ (True.intro) (fun hHeld => ?_)
            clear hK K
            (try simp only [Act.put, List.setIfInBounds_toArray, List.set_cons_zero, List.set_cons_succ])
            refine tk (v := ?_) 12 ?_ ?_
            rotate_left
            · intro w hSw
              go_simp
              (try with_reducible rfl)
            (try simp only [Act.put, List.setIfInBounds_toArray, List.set_cons_zero, List.set_cons_succ])
            refine wpAnyH_ready (rs := [13]) (by kernel_rfl) (by simp) ?_
            refine anyH_one rfl (fun K hK => ?_) ?_
            · obtain ⟨a0, a1, a2, a3, a4, a5⟩ := (H4.out.at_ 1 rfl).c6
              have f0 := (H4.out.at_ 1 rfl).fz 0; have f1 := (H4.out.at_ 1 rfl).fz 1; have f2 := (H4.out.at_ 1 rfl).fz 2; have f3 := (H4.out.at_ 1 rfl).fz 3; have f4 := (H4.out.at_ 1 rfl).fz 4; have f5 := (H4.out.at_ 1 rfl).fz 5
              go_simp
              generalize hq : (w4.setCell _ _).setCell _ _ = w5
              have ht : Turn (fun i => i = b) w4 w5 := by rw [← hq]; exact turnX _ _ _ _ _ _
              have H5 := Lib.hid ((H4.out.put 1 rfl (turnX _ _ 4 5 _ _) (setX2 (H4.out.at_ 1 rfl) _ _)).world hq)
              have P0_5 := Lib.hid (P0_4.out.box (H4.out.at_ 1 rfl) (by decide) ht)
              have P1_5 := Lib.hid (P1_4.out.box (H4.out.at_ 1 rfl) (by decide) ht)
              have P2_5 := Lib.hid (P2_4.out.box (H4.out.at_ 1 rfl) (by decide) ht)
              clear ht
              clear hq
              clear P0_4
              clear P1_4
              clear P2_4
              clear H4
              clear a0 a1 a2 a3 a4 a5 f0 f1 f2 f3 f4 f5
              refine hK.out _ _ (True.intro) (fun hHeld => ?_)
              clear hK K
              (try simp only [Act.put, List.setIfInBounds_toArray, List.set_cons_zero, List.set_cons_succ])
              refine wpAnyH_done (by kernel_rfl) ?_ _
              clear hHeld
              have HX : Hid (NewX w w5 (.slice B0 m0 d0) (.slice B1 m1 d1) (.slice B2 m2 d2) (.slice A0 n0 c0) (.slice A1 n1 c1) (.slice Az nz cz) (upL 3 (dropL L p a) L)) := Lib.hid ⟨P0_5.out, P1_5.out, P2_5.out⟩
              clear P0_5 P1_5 P2_5
              go_wp2
              go_roundw
              case rel => exact ⟨3, A0, n0, c0, A1, n1, c1, Az, nz, cz, by omega, by go_num, H5, HX⟩
              case measure => simp [intOf]
            exact AllReadyH.nil
          exact AllReadyH.nil
        exact AllReadyH.nil
      exact AllReadyH.nil
    · have HX2 : Hid (NewX w wr (.slice B0 m0 d0) (.slice B1 m1 d1) (.slice B2 m2 d2) (.slice A0 n0 c0) (.slice A1 n1 c1) (.slice A2 n2 c2) (dropL L p a)) := Lib.hid ⟨HX1.out.a, HX1.out.b, HX1.out.c⟩
      clear HX1
      obtain ⟨a0, a1, a2, a3, a4, a5⟩ := (H1.out.at_ 1 rfl).c6
      have f0 := (H1.out.at_ 1 rfl).fz 0; have f1 := (H1.out.at_ 1 rfl).fz 1; have f2 := (H1.out.at_ 1 rfl).fz 2; have f3 := (H1.out.at_ 1 rfl).fz 3; have f4 := (H1.out.at_ 1 rfl).fz 4; have f5 := (H1.out.at_ 1 rfl).fz 5
      obtain ⟨r0, r1, r2, r3, r4, r5⟩ := (H1.out.at_ 0 rfl).c6
      have g0 := (H1.out.at_ 0 rfl).fz 0; have g1 := (H1.out.at_ 0 rfl).fz 1; have g2 := (H1.out.at_ 0 rfl).fz 2; have g3 := (H1.out.at_ 0 rfl).fz 3; have g4 := (H1.out.at_ 0 rfl).fz 4; have g5 := (H1.out.at_ 0 rfl).fz 5
      go_wp2
      refine bodyPost_ret (results_cell_row rfl _ _ (b + 1) _ _ _ _ rfl (setB6 (H1.out.at_ 0 rfl) _ _ _ _ _ _) Tryd.underlying31 rfl rfl) rfl ⟨_, _, _, rfl, ⟨HX2.out.a.box (H1.out.at_ 0 rfl) (by decide) (turnB6 _ _ _ _ _ _ _ _), HX2.out.b.box (H1.out.at_ 0 rfl) (by decide) (turnB6 _ _ _ _ _ _ _ _), HX2.out.c.box (H1.out.at_ 0 rfl) (by decide) (turnB6 _ _ _ _ _ _ _ _)⟩, ?_⟩
      rw [← HBB.out]
      rw [← HBB.out] at H1
      exact (H1.out.put6 0 rfl rfl).below
end Go.Proofs.YtiihhlmddmicjaaDoor
