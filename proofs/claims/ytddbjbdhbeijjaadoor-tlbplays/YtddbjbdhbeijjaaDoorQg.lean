/- The document's translations (dormerref13): Small, Great, DropPage. (Laid by tools/gen_qg.py.) -/
import Derived.Test.YtddbjbdhbeijjaaDoorGCqCrJp
import Derived.Test.YtddbjbdhbeijjaaDoorGNhNk
import Derived.Test.YtddbjbdhbeijjaaDoorGQdQeCm
namespace Go.Proofs.YtddbjbdhbeijjaaDoor
set_option linter.unusedVariables false
set_option linter.unusedSimpArgs false
open Go.ChangeShapes Go.WideShapes Go.ChangeAt Go.RowKit Go.Joins

/-- a call's boxes beside the pairs that it goes on with -/
structure Dv (w wr : World) (v u : Value) (M : List Pr) (bs : List BoxD) : Prop where
  m : Mine w wr bs []
  p : PairsNew w wr v u M
section
variable {w wr w3 : World} {v u u' : Value} {M M' : List Pr} {bs : List BoxD}
theorem Dv.start (h : PairsOwn w 0 v M) : Dv w w v v M [] := ⟨Mine.start w, PairsNew.start h⟩
theorem Dv.quiet (h : Dv w wr v u M bs) (hb : Below wr.heap.size wr w3) : Dv w w3 v u M bs := ⟨h.m.quiet hb, h.p.quiet hb⟩
theorem Dv.world (h : Dv w wr v u M bs) (e : wr = w3) : Dv w w3 v u M bs := e ▸ h
theorem Dv.new (h : Dv w wr v u M bs) {b : Nat} (hb : wr.heap.size = b) (cs : Array Value) (t : TypeId) : Dv w (wr.alloc (.cells cs t)) v u M (⟨b, cs, t⟩ :: bs) := ⟨h.m.new hb cs t, h.p.quiet (below_alloc1 _ _)⟩
theorem Dv.at_ (h : Dv w wr v u M bs) (k : Nat) {b : Nat} {cs : Array Value} {t : TypeId} (hk : bs[k]? = some ⟨b, cs, t⟩) : Blk wr b cs t := h.m.at_ k hk
theorem Dv.put (h : Dv w wr v u M bs) (k : Nat) {b : Nat} {cs cs' : Array Value} {t : TypeId} (hk : bs[k]? = some ⟨b, cs, t⟩) (ht : Turn (fun i => i = b) wr w3) (hb : Blk w3 b cs' t) (hne : (99 : TypeId) ≠ t := by decide) : Dv w w3 v u M (bs.set k ⟨b, cs', t⟩) :=
  ⟨h.m.put k hk ht hb, h.p.box (h.m.at_ k hk) hne ht⟩
theorem Dv.pick (h : Dv w wr v u M bs) (l : List Nat) (hl : l.Nodup := by decide) : Dv w wr v u M (l.filterMap fun i => bs[i]?) := ⟨h.m.pick l [] hl, h.p⟩
/-- a call answered other pairs -/
theorem Dv.next (h : Dv w wr v u M bs) (k : PairsNew wr w3 u u' M') (hb : Below wr.heap.size wr w3) : Dv w w3 v u' M' bs := ⟨h.m.quiet hb, h.p.next k h.m.size⟩
theorem Dv.own (h : Dv w wr v u M bs) : PairsOwn wr 0 u M := h.p.1
theorem Dv.below (h : Dv w wr v u M bs) : Below w.heap.size w wr := h.m.below
end

section
variable {w : World} {M : List Pr} (p a : Int)
set_option maxRecDepth 100000 in
set_option maxHeartbeats 3200000 in
theorem rsmallT_any (v : Value) (R : Nat) (h : PairsOwn w 0 v M) (hl : M.length ≤ 900) (hp : I64 p) (ha : W64 a) (l : Ln) (k : Int) (hk : I64 k) :
    Calls Tryd.prog 30 #[.agg #[v, .int .i64 R], .int .i64 p, .int .u64 a, lineV l, .int .i64 k] w fun e w' => ∃ A n c, e = .returned (.agg #[.slice A n c, .int .i64 R]) ∧ PairsNew w w' v (.slice A n c) (smallT R M p a l k) ∧ Below w.heap.size w w' := by
  obtain ⟨A, n, c, rfl⟩ := h.slice
  have HKEY := Lib.hid fun w1 => rkeyT_any p a 1 w1 ha (by decide) (by decide)
  have HL := Lib.hid hl
  have HOP := Lib.hid hk
  obtain ⟨f, x1, x2, x3, x4, m⟩ := l
  obtain ⟨z, hz⟩ : ∃ z, (m == 0) = z := ⟨_, rfl⟩
  have HE : Hid (smallT R M p a (f, x1, x2, x3, x4, m) k = if z then M else putK R M (p, 1, tagT a 1) (f, x1, x2, x3, x4, m) k) := Lib.hid (by unfold smallT kyT; subst hz; by_cases e : m = 0 <;> simp [e])
  unfold kyT at HKEY
  rw [HE.out]
  have H0 := Lib.hid ((((Dv.start h).new (b := w.heap.size) rfl #[.slice A n c, .int .i64 R] 28).new (b := w.heap.size + 1) (by simp) #[.int .u64 f, .bool x1, .bool x2, .bool x3, .bool x4, .int .u8 m] 71).new (b := w.heap.size + 1 + 1) (by simp) #[.slice none 0 0, .int .i64 0] 28)
  clear h hl hp ha hk HE
  generalize tagT a 1 = t at *
  go_enter Tryd.func30, Tryd.ntmps30
  go_upto_region 1 with fail
  generalize hw0 : ((w.alloc _).alloc _).alloc _ = w1 at *
  have H1 := H0
  clear hw0 H0
  obtain ⟨bc, hb⟩ : ∃ b, w.heap.size = b := ⟨_, rfl⟩
  rw [hb] at H1 ⊢
  have HBC := Lib.hid hb
  clear hb
  obtain ⟨q0, q1, q2, q3, q4, q5⟩ := (H1.out.at_ 1 rfl).c6
  cases z
  · skip
    go_upto_region 3 with fail
    have H2 := Lib.hid (H1.out.quiet (Kept.drew0 w1))
    clear H1 q0 q1 q2 q3 q4 q5
    refine wp_region_held_drew (S := fun w' => Blk w' (bc + 1) #[.int .u64 f, .bool x1, .bool x2, .bool x3, .bool x4, .int .u8 m] 71 ∧ Blk w' bc #[.slice A n c, .int .i64 R] 28) (by kernel_rfl) ⟨H2.out.at_ 1 rfl, H2.out.at_ 2 rfl⟩ (fun hHeld => ?_)
    generalize w1.drew = w2 at *
    refine tk (v := ?_) 0 ?_ ?_
    rotate_left
    · intro w hSw
      obtain ⟨a0, a1⟩ := hSw.2.c2
      go_simp
      (try with_reducible rfl)
    (try simp only [Act.put, List.setIfInBounds_toArray, List.set_cons_zero, List.set_cons_succ])
    refine tk (v := ?_) 1 ?_ ?_
    rotate_left
    · intro w hSw
      go_simp
      (try with_reducible rfl)
    (try simp only [Act.put, List.setIfInBounds_toArray, List.set_cons_zero, List.set_cons_succ])
    refine tk (v := ?_) 2 ?_ ?_
    rotate_left
    · intro w hSw
      go_simp
      (try with_reducible rfl)
    (try simp only [Act.put, List.setIfInBounds_toArray, List.set_cons_zero, List.set_cons_succ])
    refine tk (v := ?_) 4 ?_ ?_
    rotate_left
    · intro w hSw
      obtain ⟨q0, q1, q2, q3, q4, q5⟩ := hSw.1.c6
      go_simp
      (try with_reducible rfl)
    (try simp only [Act.put, List.setIfInBounds_toArray, List.set_cons_zero, List.set_cons_succ])
    refine tk (v := ?_) 5 ?_ ?_
    rotate_left
    · intro w hSw
      go_simp
      (try with_reducible rfl)
    (try simp only [Act.put, List.setIfInBounds_toArray, List.set_cons_zero, List.set_cons_succ])
    refine wpAnyH_ready (rs := [3]) (by kernel_rfl) (by simp) ?_
    refine anyH_one rfl (fun K hK => ?_) ?_
    · go_simp
      refine (HKEY.out _).mono ?_
      rintro e w3 ⟨rfl, hb⟩
      have H3 := Lib.hid (H2.out.quiet hb)
      clear hb H2
      refine hK.out _ _ (⟨H3.out.at_ 1 rfl, H3.out.at_ 2 rfl⟩) (fun hHeld => ?_)
      clear hK K
      (try simp only [Act.put, List.setIfInBounds_toArray, List.set_cons_zero, List.set_cons_succ])
      refine wpAnyH_ready (rs := [6]) (by kernel_rfl) (by simp) ?_
      refine anyH_one rfl (fun K hK => ?_) ?_
      · go_simp
        refine (rputU _ _ M R p 1 t f m k x1 x2 x3 x4 H3.out.own HL.out HOP.out).mono ?_
        rintro e w4 ⟨A2, n2, c2, rfl, hn, hb⟩
        have H4 := Lib.hid (H3.out.next hn hb)
        clear hn hb H3
        refine hK.out _ _ (⟨H4.out.at_ 1 rfl, H4.out.at_ 2 rfl⟩) (fun hHeld => ?_)
        clear hK K
        (try simp only [Act.put, List.setIfInBounds_toArray, List.set_cons_zero, List.set_cons_succ])
        refine wpAnyH_ready (rs := [7]) (by kernel_rfl) (by simp) ?_
        refine anyH_one rfl (fun K hK => ?_) ?_
        · obtain ⟨r0, r1⟩ := (H4.out.at_ 0 rfl).c2
          have g0 := (H4.out.at_ 0 rfl).fz 0; have g1 := (H4.out.at_ 0 rfl).fz 1
          go_simp
          generalize hq9 : (w4.setCell _ _).setCell _ _ = w5
          have H5 := Lib.hid ((H4.out.put 0 rfl (turnB2 _ _ _ _) (setB2 (H4.out.at_ 0 rfl) _ _)).world hq9)
          clear hq9 H4 r0 g0 r1 g1
          refine hK.out _ _ (⟨H5.out.at_ 1 rfl, H5.out.at_ 2 rfl⟩) (fun hHeld => ?_)
          clear hK K
          (try simp only [Act.put, List.setIfInBounds_toArray, List.set_cons_zero, List.set_cons_succ])
          refine wpAnyH_done (by kernel_rfl) ?_ _
          clear hHeld
          go_wp2
          refine bodyPost_ret (results_cell_row rfl _ _ (bc + 1 + 1) _ _ _ _ rfl (H5.out.at_ 0 rfl) Tryd.underlying28 rfl rfl) rfl ⟨_, _, _, rfl, H5.out.p, by first | exact H5.out.below | (rw [← HBC.out]; exact H5.out.below)⟩
        exact AllReadyH.nil
      exact AllReadyH.nil
    exact AllReadyH.nil
  · obtain ⟨a0, a1⟩ := (H1.out.at_ 2 rfl).c2
    obtain ⟨r0, r1⟩ := (H1.out.at_ 0 rfl).c2
    have g0 := (H1.out.at_ 0 rfl).fz 0; have g1 := (H1.out.at_ 0 rfl).fz 1
    go_wp2
    generalize hq9 : (w1.setCell _ _).setCell _ _ = w2
    have H2 := Lib.hid ((H1.out.put 0 rfl (turnB2 _ _ _ _) (setB2 (H1.out.at_ 0 rfl) _ _)).world hq9)
    clear hq9 H1 r0 g0 r1 g1
    refine bodyPost_ret (results_cell_row rfl _ _ (bc + 1 + 1) _ _ _ _ rfl (H2.out.at_ 0 rfl) Tryd.underlying28 rfl rfl) rfl ⟨_, _, _, rfl, H2.out.p, by first | exact H2.out.below | (rw [← HBC.out]; exact H2.out.below)⟩
set_option maxRecDepth 100000 in
set_option maxHeartbeats 3200000 in
theorem rgreatT_no (v : Value) (R : Nat) (h : PairsOwn w 0 v M) (h0 h1 : Int) (h2 h3 h4 h5 : Bool) (k : Int) (e2 : (h1 != 2) = true) (e3 : (h1 != 3) = true) :
    Calls Tryd.prog 32 #[.agg #[v, .int .i64 R], .int .i64 p, .int .u64 a, .agg #[.int .u64 h0, .int .i64 h1, .bool h2, .bool h3, .bool h4, .bool h5], .int .i64 k] w fun e w' => ∃ A n c, e = .returned (.agg #[.slice A n c, .int .i64 R]) ∧ PairsNew w w' v (.slice A n c) (M) ∧ Below w.heap.size w w' := by
  obtain ⟨A, n, c, rfl⟩ := h.slice
  have H0 := Lib.hid ((((Dv.start h).new (b := w.heap.size) rfl #[.slice A n c, .int .i64 R] 28).new (b := w.heap.size + 1) (by simp) #[.int .u64 h0, .int .i64 h1, .bool h2, .bool h3, .bool h4, .bool h5] 44).new (b := w.heap.size + 1 + 1) (by simp) #[.slice none 0 0, .int .i64 0] 28)
  clear h
  go_enter Tryd.func32, Tryd.ntmps32
  go_upto_region 1 with fail
  generalize hw0 : ((w.alloc _).alloc _).alloc _ = w1 at *
  have H1 := H0
  clear hw0 H0
  obtain ⟨bc, hb⟩ : ∃ b, w.heap.size = b := ⟨_, rfl⟩
  rw [hb] at H1 ⊢
  have HBC := Lib.hid hb
  clear hb
  obtain ⟨q0, q1, q2, q3, q4, q5⟩ := (H1.out.at_ 1 rfl).c6
  obtain ⟨a0, a1⟩ := (H1.out.at_ 2 rfl).c2
  obtain ⟨r0, r1⟩ := (H1.out.at_ 0 rfl).c2
  have g0 := (H1.out.at_ 0 rfl).fz 0; have g1 := (H1.out.at_ 0 rfl).fz 1
  go_wp2
  generalize hq9 : (w1.setCell _ _).setCell _ _ = w2
  have H2 := Lib.hid ((H1.out.put 0 rfl (turnB2 _ _ _ _) (setB2 (H1.out.at_ 0 rfl) _ _)).world hq9)
  clear hq9 H1 r0 g0 r1 g1
  refine bodyPost_ret (results_cell_row rfl _ _ (bc + 1 + 1) _ _ _ _ rfl (H2.out.at_ 0 rfl) Tryd.underlying28 rfl rfl) rfl ⟨_, _, _, rfl, H2.out.p, by first | exact H2.out.below | (rw [← HBC.out]; exact H2.out.below)⟩
set_option maxRecDepth 100000 in
set_option maxHeartbeats 3200000 in
theorem rgreatT_yes (v : Value) (R : Nat) (h : PairsOwn w 0 v M) (hl : M.length ≤ 900) (hp : I64 p) (ha : W64 a) (h0 h1 : Int) (h2 h3 h4 h5 : Bool) (k : Int) (hk : I64 k) (h23 : h1 = 2 ∨ h1 = 3) :
    Calls Tryd.prog 32 #[.agg #[v, .int .i64 R], .int .i64 p, .int .u64 a, .agg #[.int .u64 h0, .int .i64 h1, .bool h2, .bool h3, .bool h4, .bool h5], .int .i64 k] w fun e w' => ∃ A n c, e = .returned (.agg #[.slice A n c, .int .i64 R]) ∧ PairsNew w w' v (.slice A n c) (putK R M (kyT p a h1) (h0, h2, h3, h4, h5, 0) k) ∧ Below w.heap.size w w' := by
  obtain ⟨A, n, c, rfl⟩ := h.slice
  have H0 := Lib.hid ((((Dv.start h).new (b := w.heap.size) rfl #[.slice A n c, .int .i64 R] 28).new (b := w.heap.size + 1) (by simp) #[.int .u64 h0, .int .i64 h1, .bool h2, .bool h3, .bool h4, .bool h5] 44).new (b := w.heap.size + 1 + 1) (by simp) #[.slice none 0 0, .int .i64 0] 28)
  have HKEY := Lib.hid fun w1 => rkeyT_any p a h1 w1 ha (by omega) (by omega)
  have HL := Lib.hid hl
  have HOP := Lib.hid hk
  unfold kyT at HKEY ⊢
  clear h hl hp ha hk
  generalize tagT a h1 = t at *
  rcases h23 with rfl | rfl
  · go_enter Tryd.func32, Tryd.ntmps32
    go_upto_region 1 with fail
    generalize hw0 : ((w.alloc _).alloc _).alloc _ = w1 at *
    have H1 := H0
    clear hw0 H0
    obtain ⟨bc, hb⟩ : ∃ b, w.heap.size = b := ⟨_, rfl⟩
    rw [hb] at H1 ⊢
    have HBC := Lib.hid hb
    clear hb
    obtain ⟨q0, q1, q2, q3, q4, q5⟩ := (H1.out.at_ 1 rfl).c6
    go_upto_region 3 with fail
    have H2 := Lib.hid (H1.out.quiet (Kept.drew0 w1))
    clear H1 q0 q1 q2 q3 q4 q5
    refine wp_region_held_drew (S := fun w' => Blk w' (bc + 1) #[.int .u64 h0, .int .i64 2, .bool h2, .bool h3, .bool h4, .bool h5] 44 ∧ Blk w' bc #[.slice A n c, .int .i64 R] 28) (by kernel_rfl) ⟨H2.out.at_ 1 rfl, H2.out.at_ 2 rfl⟩ (fun hHeld => ?_)
    generalize w1.drew = w2 at *
    refine tk (v := ?_) 0 ?_ ?_
    rotate_left
    · intro w hSw
      obtain ⟨a0, a1⟩ := hSw.2.c2
      go_simp
      (try with_reducible rfl)
    (try simp only [Act.put, List.setIfInBounds_toArray, List.set_cons_zero, List.set_cons_succ])
    refine tk (v := ?_) 1 ?_ ?_
    rotate_left
    · intro w hSw
      go_simp
      (try with_reducible rfl)
    (try simp only [Act.put, List.setIfInBounds_toArray, List.set_cons_zero, List.set_cons_succ])
    refine tk (v := ?_) 2 ?_ ?_
    rotate_left
    · intro w hSw
      go_simp
      (try with_reducible rfl)
    (try simp only [Act.put, List.setIfInBounds_toArray, List.set_cons_zero, List.set_cons_succ])
    refine tk (v := ?_) 3 ?_ ?_
    rotate_left
    · intro w hSw
      obtain ⟨q0, q1, q2, q3, q4, q5⟩ := hSw.1.c6
      go_simp
      (try with_reducible rfl)
    (try simp only [Act.put, List.setIfInBounds_toArray, List.set_cons_zero, List.set_cons_succ])
    refine tk (v := ?_) 4 ?_ ?_
    rotate_left
    · intro w hSw
      go_simp
      (try with_reducible rfl)
    (try simp only [Act.put, List.setIfInBounds_toArray, List.set_cons_zero, List.set_cons_succ])
    refine tk (v := ?_) 6 ?_ ?_
    rotate_left
    · intro w hSw
      go_simp
      (try with_reducible rfl)
    (try simp only [Act.put, List.setIfInBounds_toArray, List.set_cons_zero, List.set_cons_succ])
    refine tk (v := ?_) 7 ?_ ?_
    rotate_left
    · intro w hSw
      obtain ⟨q0, q1, q2, q3, q4, q5⟩ := hSw.1.c6
      go_simp
      (try with_reducible rfl)
    (try simp only [Act.put, List.setIfInBounds_toArray, List.set_cons_zero, List.set_cons_succ])
    refine tk (v := ?_) 8 ?_ ?_
    rotate_left
    · intro w hSw
      go_simp
      (try with_reducible rfl)
    (try simp only [Act.put, List.setIfInBounds_toArray, List.set_cons_zero, List.set_cons_succ])
    refine tk (v := ?_) 9 ?_ ?_
    rotate_left
    · intro w hSw
      obtain ⟨q0, q1, q2, q3, q4, q5⟩ := hSw.1.c6
      go_simp
      (try with_reducible rfl)
    (try simp only [Act.put, List.setIfInBounds_toArray, List.set_cons_zero, List.set_cons_succ])
    refine tk (v := ?_) 10 ?_ ?_
    rotate_left
    · intro w hSw
      go_simp
      (try with_reducible rfl)
    (try simp only [Act.put, List.setIfInBounds_toArray, List.set_cons_zero, List.set_cons_succ])
    refine tk (v := ?_) 11 ?_ ?_
    rotate_left
    · intro w hSw
      obtain ⟨q0, q1, q2, q3, q4, q5⟩ := hSw.1.c6
      go_simp
      (try with_reducible rfl)
    (try simp only [Act.put, List.setIfInBounds_toArray, List.set_cons_zero, List.set_cons_succ])
    refine tk (v := ?_) 12 ?_ ?_
    rotate_left
    · intro w hSw
      go_simp
      (try with_reducible rfl)
    (try simp only [Act.put, List.setIfInBounds_toArray, List.set_cons_zero, List.set_cons_succ])
    refine tk (v := ?_) 13 ?_ ?_
    rotate_left
    · intro w hSw
      go_simp
      (try with_reducible rfl)
    (try simp only [Act.put, List.setIfInBounds_toArray, List.set_cons_zero, List.set_cons_succ])
    refine wpAnyH_ready (rs := [5]) (by kernel_rfl) (by simp) ?_
    refine anyH_one rfl (fun K hK => ?_) ?_
    · go_simp
      refine (HKEY.out _).mono ?_
      rintro e w3 ⟨rfl, hb⟩
      have H3 := Lib.hid (H2.out.quiet hb)
      clear hb H2
      refine hK.out _ _ (⟨H3.out.at_ 1 rfl, H3.out.at_ 2 rfl⟩) (fun hHeld => ?_)
      clear hK K
      (try simp only [Act.put, List.setIfInBounds_toArray, List.set_cons_zero, List.set_cons_succ])
      refine wpAnyH_ready (rs := [14]) (by kernel_rfl) (by simp) ?_
      refine anyH_one rfl (fun K hK => ?_) ?_
      · go_simp
        refine (rputU _ _ M R p 2 t h0 0 k h2 h3 h4 h5 H3.out.own HL.out HOP.out).mono ?_
        rintro e w4 ⟨A2, n2, c2, rfl, hn, hb⟩
        have H4 := Lib.hid (H3.out.next hn hb)
        clear hn hb H3
        refine hK.out _ _ (⟨H4.out.at_ 1 rfl, H4.out.at_ 2 rfl⟩) (fun hHeld => ?_)
        clear hK K
        (try simp only [Act.put, List.setIfInBounds_toArray, List.set_cons_zero, List.set_cons_succ])
        refine wpAnyH_ready (rs := [15]) (by kernel_rfl) (by simp) ?_
        refine anyH_one rfl (fun K hK => ?_) ?_
        · obtain ⟨r0, r1⟩ := (H4.out.at_ 0 rfl).c2
          have g0 := (H4.out.at_ 0 rfl).fz 0; have g1 := (H4.out.at_ 0 rfl).fz 1
          go_simp
          generalize hq9 : (w4.setCell _ _).setCell _ _ = w5
          have H5 := Lib.hid ((H4.out.put 0 rfl (turnB2 _ _ _ _) (setB2 (H4.out.at_ 0 rfl) _ _)).world hq9)
          clear hq9 H4 r0 g0 r1 g1
          refine hK.out _ _ (⟨H5.out.at_ 1 rfl, H5.out.at_ 2 rfl⟩) (fun hHeld => ?_)
          clear hK K
          (try simp only [Act.put, List.setIfInBounds_toArray, List.set_cons_zero, List.set_cons_succ])
          refine wpAnyH_done (by kernel_rfl) ?_ _
          clear hHeld
          go_wp2
          refine bodyPost_ret (results_cell_row rfl _ _ (bc + 1 + 1) _ _ _ _ rfl (H5.out.at_ 0 rfl) Tryd.underlying28 rfl rfl) rfl ⟨_, _, _, rfl, H5.out.p, by first | exact H5.out.below | (rw [← HBC.out]; exact H5.out.below)⟩
        exact AllReadyH.nil
      exact AllReadyH.nil
    exact AllReadyH.nil
  · go_enter Tryd.func32, Tryd.ntmps32
    go_upto_region 1 with fail
    generalize hw0 : ((w.alloc _).alloc _).alloc _ = w1 at *
    have H1 := H0
    clear hw0 H0
    obtain ⟨bc, hb⟩ : ∃ b, w.heap.size = b := ⟨_, rfl⟩
    rw [hb] at H1 ⊢
    have HBC := Lib.hid hb
    clear hb
    obtain ⟨q0, q1, q2, q3, q4, q5⟩ := (H1.out.at_ 1 rfl).c6
    go_upto_region 3 with fail
    have H2 := Lib.hid (H1.out.quiet (Kept.drew0 w1))
    clear H1 q0 q1 q2 q3 q4 q5
    refine wp_region_held_drew (S := fun w' => Blk w' (bc + 1) #[.int .u64 h0, .int .i64 3, .bool h2, .bool h3, .bool h4, .bool h5] 44 ∧ Blk w' bc #[.slice A n c, .int .i64 R] 28) (by kernel_rfl) ⟨H2.out.at_ 1 rfl, H2.out.at_ 2 rfl⟩ (fun hHeld => ?_)
    generalize w1.drew = w2 at *
    refine tk (v := ?_) 0 ?_ ?_
    rotate_left
    · intro w hSw
      obtain ⟨a0, a1⟩ := hSw.2.c2
      go_simp
      (try with_reducible rfl)
    (try simp only [Act.put, List.setIfInBounds_toArray, List.set_cons_zero, List.set_cons_succ])
    refine tk (v := ?_) 1 ?_ ?_
    rotate_left
    · intro w hSw
      go_simp
      (try with_reducible rfl)
    (try simp only [Act.put, List.setIfInBounds_toArray, List.set_cons_zero, List.set_cons_succ])
    refine tk (v := ?_) 2 ?_ ?_
    rotate_left
    · intro w hSw
      go_simp
      (try with_reducible rfl)
    (try simp only [Act.put, List.setIfInBounds_toArray, List.set_cons_zero, List.set_cons_succ])
    refine tk (v := ?_) 3 ?_ ?_
    rotate_left
    · intro w hSw
      obtain ⟨q0, q1, q2, q3, q4, q5⟩ := hSw.1.c6
      go_simp
      (try with_reducible rfl)
    (try simp only [Act.put, List.setIfInBounds_toArray, List.set_cons_zero, List.set_cons_succ])
    refine tk (v := ?_) 4 ?_ ?_
    rotate_left
    · intro w hSw
      go_simp
      (try with_reducible rfl)
    (try simp only [Act.put, List.setIfInBounds_toArray, List.set_cons_zero, List.set_cons_succ])
    refine tk (v := ?_) 6 ?_ ?_
    rotate_left
    · intro w hSw
      go_simp
      (try with_reducible rfl)
    (try simp only [Act.put, List.setIfInBounds_toArray, List.set_cons_zero, List.set_cons_succ])
    refine tk (v := ?_) 7 ?_ ?_
    rotate_left
    · intro w hSw
      obtain ⟨q0, q1, q2, q3, q4, q5⟩ := hSw.1.c6
      go_simp
      (try with_reducible rfl)
    (try simp only [Act.put, List.setIfInBounds_toArray, List.set_cons_zero, List.set_cons_succ])
    refine tk (v := ?_) 8 ?_ ?_
    rotate_left
    · intro w hSw
      go_simp
      (try with_reducible rfl)
    (try simp only [Act.put, List.setIfInBounds_toArray, List.set_cons_zero, List.set_cons_succ])
    refine tk (v := ?_) 9 ?_ ?_
    rotate_left
    · intro w hSw
      obtain ⟨q0, q1, q2, q3, q4, q5⟩ := hSw.1.c6
      go_simp
      (try with_reducible rfl)
    (try simp only [Act.put, List.setIfInBounds_toArray, List.set_cons_zero, List.set_cons_succ])
    refine tk (v := ?_) 10 ?_ ?_
    rotate_left
    · intro w hSw
      go_simp
      (try with_reducible rfl)
    (try simp only [Act.put, List.setIfInBounds_toArray, List.set_cons_zero, List.set_cons_succ])
    refine tk (v := ?_) 11 ?_ ?_
    rotate_left
    · intro w hSw
      obtain ⟨q0, q1, q2, q3, q4, q5⟩ := hSw.1.c6
      go_simp
      (try with_reducible rfl)
    (try simp only [Act.put, List.setIfInBounds_toArray, List.set_cons_zero, List.set_cons_succ])
    refine tk (v := ?_) 12 ?_ ?_
    rotate_left
    · intro w hSw
      go_simp
      (try with_reducible rfl)
    (try simp only [Act.put, List.setIfInBounds_toArray, List.set_cons_zero, List.set_cons_succ])
    refine tk (v := ?_) 13 ?_ ?_
    rotate_left
    · intro w hSw
      go_simp
      (try with_reducible rfl)
    (try simp only [Act.put, List.setIfInBounds_toArray, List.set_cons_zero, List.set_cons_succ])
    refine wpAnyH_ready (rs := [5]) (by kernel_rfl) (by simp) ?_
    refine anyH_one rfl (fun K hK => ?_) ?_
    · go_simp
      refine (HKEY.out _).mono ?_
      rintro e w3 ⟨rfl, hb⟩
      have H3 := Lib.hid (H2.out.quiet hb)
      clear hb H2
      refine hK.out _ _ (⟨H3.out.at_ 1 rfl, H3.out.at_ 2 rfl⟩) (fun hHeld => ?_)
      clear hK K
      (try simp only [Act.put, List.setIfInBounds_toArray, List.set_cons_zero, List.set_cons_succ])
      refine wpAnyH_ready (rs := [14]) (by kernel_rfl) (by simp) ?_
      refine anyH_one rfl (fun K hK => ?_) ?_
      · go_simp
        refine (rputU _ _ M R p 3 t h0 0 k h2 h3 h4 h5 H3.out.own HL.out HOP.out).mono ?_
        rintro e w4 ⟨A2, n2, c2, rfl, hn, hb⟩
        have H4 := Lib.hid (H3.out.next hn hb)
        clear hn hb H3
        refine hK.out _ _ (⟨H4.out.at_ 1 rfl, H4.out.at_ 2 rfl⟩) (fun hHeld => ?_)
        clear hK K
        (try simp only [Act.put, List.setIfInBounds_toArray, List.set_cons_zero, List.set_cons_succ])
        refine wpAnyH_ready (rs := [15]) (by kernel_rfl) (by simp) ?_
        refine anyH_one rfl (fun K hK => ?_) ?_
        · obtain ⟨r0, r1⟩ := (H4.out.at_ 0 rfl).c2
          have g0 := (H4.out.at_ 0 rfl).fz 0; have g1 := (H4.out.at_ 0 rfl).fz 1
          go_simp
          generalize hq9 : (w4.setCell _ _).setCell _ _ = w5
          have H5 := Lib.hid ((H4.out.put 0 rfl (turnB2 _ _ _ _) (setB2 (H4.out.at_ 0 rfl) _ _)).world hq9)
          clear hq9 H4 r0 g0 r1 g1
          refine hK.out _ _ (⟨H5.out.at_ 1 rfl, H5.out.at_ 2 rfl⟩) (fun hHeld => ?_)
          clear hK K
          (try simp only [Act.put, List.setIfInBounds_toArray, List.set_cons_zero, List.set_cons_succ])
          refine wpAnyH_done (by kernel_rfl) ?_ _
          clear hHeld
          go_wp2
          refine bodyPost_ret (results_cell_row rfl _ _ (bc + 1 + 1) _ _ _ _ rfl (H5.out.at_ 0 rfl) Tryd.underlying28 rfl rfl) rfl ⟨_, _, _, rfl, H5.out.p, by first | exact H5.out.below | (rw [← HBC.out]; exact H5.out.below)⟩
        exact AllReadyH.nil
      exact AllReadyH.nil
    exact AllReadyH.nil
theorem rgreatT_any (v : Value) (R : Nat) (h : PairsOwn w 0 v M) (hl : M.length ≤ 900) (hp : I64 p) (ha : W64 a) (g : Ht) (k : Int) (hk : I64 k) :
    Calls Tryd.prog 32 #[.agg #[v, .int .i64 R], .int .i64 p, .int .u64 a, hitV g, .int .i64 k] w fun e w' => ∃ A n c, e = .returned (.agg #[.slice A n c, .int .i64 R]) ∧ PairsNew w w' v (.slice A n c) (bigT R M p a g k) ∧ Below w.heap.size w w' := by
  obtain ⟨h0, h1, h2, h3, h4, h5⟩ := g
  by_cases e : h1 = 2 ∨ h1 = 3
  · rw [show bigT R M p a (h0, h1, h2, h3, h4, h5) k = putK R M (kyT p a h1) (h0, h2, h3, h4, h5, 0) k from if_pos e]
    exact rgreatT_yes p a v R h hl hp ha h0 h1 h2 h3 h4 h5 k hk e
  · rw [show bigT R M p a (h0, h1, h2, h3, h4, h5) k = M from if_neg e]
    exact rgreatT_no p a v R h h0 h1 h2 h3 h4 h5 k (by simp; omega) (by simp; omega)
set_option maxRecDepth 100000 in
set_option maxHeartbeats 3200000 in
theorem rdropT_no (v : Value) (R : Nat) (h : PairsOwn w 0 v M) (hl : M.length ≤ 900) (hp : I64 p) (ha : W64 a) (hg : getK (dropK (dropK M (p, 2, tagT a 2)) (p, 3, tagT a 3)) (p, 1, tagT a 1) = none) :
    Calls Tryd.prog 33 #[.agg #[v, .int .i64 R], .int .i64 p, .int .u64 a] w fun e w' => ∃ A n c, e = .returned (.agg #[.slice A n c, .int .i64 R]) ∧ PairsNew w w' v (.slice A n c) (dropK (dropK M (p, 2, tagT a 2)) (p, 3, tagT a 3)) ∧ Below w.heap.size w w' := by
  obtain ⟨A, n, c, rfl⟩ := h.slice
  have HK1 := Lib.hid fun w1 => rkeyT_any p a 1 w1 ha (by decide) (by decide)
  have HK2 := Lib.hid fun w1 => rkeyT_any p a 2 w1 ha (by decide) (by decide)
  have HK3 := Lib.hid fun w1 => rkeyT_any p a 3 w1 ha (by decide) (by decide)
  have HLEN2 : Hid (M.length ≤ 1000) := Lib.hid (by omega)
  have HLEN3 : Hid ((dropK M (p, 2, tagT a 2)).length ≤ 1000) := Lib.hid (Nat.le_trans (dropK_len _ _) (by omega))
  have HLEN9 : Hid ((dropK (dropK M (p, 2, tagT a 2)) (p, 3, tagT a 3)).length ≤ 900) := Lib.hid (Nat.le_trans (dropK_len _ _) (Nat.le_trans (dropK_len _ _) hl))
  have HLEN1 : Hid ((dropK (dropK M (p, 2, tagT a 2)) (p, 3, tagT a 3)).length ≤ 1000) := Lib.hid (Nat.le_trans HLEN9.out (by decide))
  have HG : Hid ((getK (dropK (dropK M (p, 2, tagT a 2)) (p, 3, tagT a 3)) (p, 1, tagT a 1)).getD zL = (0, false, false, false, false, 0)) := Lib.hid (by rw [hg]; rfl)
  have HI : Hid ((getK (dropK (dropK M (p, 2, tagT a 2)) (p, 3, tagT a 3)) (p, 1, tagT a 1)).isSome = false) := Lib.hid (by rw [hg]; rfl)
  have H0 := Lib.hid (((Dv.start h).new (b := w.heap.size) rfl #[.slice A n c, .int .i64 R] 28).new (b := w.heap.size + 1) (by simp) #[.slice none 0 0, .int .i64 0] 28)
  unfold kyT at HK1 HK2 HK3
  clear h hl hp ha hg
  generalize tagT a 1 = t1 at *
  generalize tagT a 2 = t2 at *
  generalize tagT a 3 = t3 at *
  obtain ⟨M2, hM2⟩ : ∃ M2, dropK M (p, 2, t2) = M2 := ⟨_, rfl⟩
  obtain ⟨M3, hM3⟩ : ∃ M3, dropK M2 (p, 3, t3) = M3 := ⟨_, rfl⟩
  rw [hM2] at HLEN3 HLEN9 HLEN1 HG HI ⊢
  rw [hM3] at HLEN9 HLEN1 HG HI ⊢
  have HM2 := Lib.hid hM2
  have HM3 := Lib.hid hM3
  clear hM2 hM3
  go_enter Tryd.func33, Tryd.ntmps33
  go_upto_region 1 with fail
  generalize hw0 : (w.alloc _).alloc _ = w1 at *
  have H1 := H0
  clear hw0 H0
  obtain ⟨bc, hb⟩ : ∃ b, w.heap.size = b := ⟨_, rfl⟩
  rw [hb] at H1 ⊢
  have HBC := Lib.hid hb
  clear hb
  go_upto_region 1 with fail
  have H2 := Lib.hid (H1.out.quiet (Kept.drew0 w1))
  clear H1
  refine wp_region_held_drew (S := fun _ => True) (by kernel_rfl) trivial (fun hHeld => ?_)
  generalize w1.drew = w2 at *
  refine tk (v := ?_) 1 ?_ ?_
  rotate_left
  · intro w hSw
    go_simp
    (try with_reducible rfl)
  (try simp only [Act.put, List.setIfInBounds_toArray, List.set_cons_zero, List.set_cons_succ])
  refine tk (v := ?_) 2 ?_ ?_
  rotate_left
  · intro w hSw
    go_simp
    (try with_reducible rfl)
  (try simp only [Act.put, List.setIfInBounds_toArray, List.set_cons_zero, List.set_cons_succ])
  refine wpAnyH_ready (rs := [0, 3]) (by kernel_rfl) (by simp) ?_
  refine anyH_one rfl (fun K hK => ?_) ?_
  · obtain ⟨a0, a1⟩ := (H2.out.at_ 1 rfl).c2
    go_simp
    clear a0 a1
    refine hK.out _ _ (trivial) (fun hHeld => ?_)
    clear hK K
    (try simp only [Act.put, List.setIfInBounds_toArray, List.set_cons_zero, List.set_cons_succ])
    refine wpAnyH_ready (rs := [3]) (by kernel_rfl) (by simp) ?_
    refine anyH_one rfl (fun K hK => ?_) ?_
    · go_simp
      refine (HK2.out _).mono ?_
      rintro e w3 ⟨rfl, hb⟩
      have H3 := Lib.hid (H2.out.quiet hb)
      clear hb H2
      refine hK.out _ _ (trivial) (fun hHeld => ?_)
      clear hK K
      (try simp only [Act.put, List.setIfInBounds_toArray, List.set_cons_zero, List.set_cons_succ])
      refine wpAnyH_ready (rs := [4]) (by kernel_rfl) (by simp) ?_
      refine anyH_one rfl (fun K hK => ?_) ?_
      · go_simp
        refine (rdropU _ _ (M) R p 2 t2 H3.out.own (by exact HLEN2.out)).mono ?_
        rw [HM2.out]
        rintro e w4 ⟨A2, n2, c2, rfl, hn, hb⟩
        have H4 := Lib.hid (H3.out.next hn hb)
        clear hn hb H3
        refine hK.out _ _ (trivial) (fun hHeld => ?_)
        clear hK K
        (try simp only [Act.put, List.setIfInBounds_toArray, List.set_cons_zero, List.set_cons_succ])
        refine wpAnyH_ready (rs := [5]) (by kernel_rfl) (by simp) ?_
        refine anyH_one rfl (fun K hK => ?_) ?_
        · obtain ⟨r0, r1⟩ := (H4.out.at_ 1 rfl).c2
          have g0 := (H4.out.at_ 1 rfl).fz 0; have g1 := (H4.out.at_ 1 rfl).fz 1
          go_simp
          generalize hq9 : (w4.setCell _ _).setCell _ _ = w5
          have H5 := Lib.hid ((H4.out.put 1 rfl (turnB2 _ _ _ _) (setB2 (H4.out.at_ 1 rfl) _ _)).world hq9)
          clear hq9 H4 r0 g0 r1 g1
          refine hK.out _ _ (trivial) (fun hHeld => ?_)
          clear hK K
          (try simp only [Act.put, List.setIfInBounds_toArray, List.set_cons_zero, List.set_cons_succ])
          refine wpAnyH_done (by kernel_rfl) ?_ _
          clear hHeld
          go_upto_region 2 with fail
          have H6 := Lib.hid (H5.out.quiet (Kept.drew0 w5))
          clear H5
          refine wp_region_held_drew (S := fun _ => True) (by kernel_rfl) trivial (fun hHeld => ?_)
          generalize w5.drew = w6 at *
          refine tk (v := ?_) 1 ?_ ?_
          rotate_left
          · intro w hSw
            go_simp
            (try with_reducible rfl)
          (try simp only [Act.put, List.setIfInBounds_toArray, List.set_cons_zero, List.set_cons_succ])
          refine tk (v := ?_) 2 ?_ ?_
          rotate_left
          · intro w hSw
            go_simp
            (try with_reducible rfl)
          (try simp only [Act.put, List.setIfInBounds_toArray, List.set_cons_zero, List.set_cons_succ])
          refine wpAnyH_ready (rs := [0, 3]) (by kernel_rfl) (by simp) ?_
          refine anyH_one rfl (fun K hK => ?_) ?_
          · obtain ⟨a0, a1⟩ := (H6.out.at_ 1 rfl).c2
            go_simp
            clear a0 a1
            refine hK.out _ _ (trivial) (fun hHeld => ?_)
            clear hK K
            (try simp only [Act.put, List.setIfInBounds_toArray, List.set_cons_zero, List.set_cons_succ])
            refine wpAnyH_ready (rs := [3]) (by kernel_rfl) (by simp) ?_
            refine anyH_one rfl (fun K hK => ?_) ?_
            · go_simp
              refine (HK3.out _).mono ?_
              rintro e w7 ⟨rfl, hb⟩
              have H7 := Lib.hid (H6.out.quiet hb)
              clear hb H6
              refine hK.out _ _ (trivial) (fun hHeld => ?_)
              clear hK K
              (try simp only [Act.put, List.setIfInBounds_toArray, List.set_cons_zero, List.set_cons_succ])
              refine wpAnyH_ready (rs := [4]) (by kernel_rfl) (by simp) ?_
              refine anyH_one rfl (fun K hK => ?_) ?_
              · go_simp
                refine (rdropU _ _ (M2) R p 3 t3 H7.out.own (by exact HLEN3.out)).mono ?_
                rw [HM3.out]
                rintro e w8 ⟨A3, n3, c3, rfl, hn, hb⟩
                have H8 := Lib.hid (H7.out.next hn hb)
                clear hn hb H7
                refine hK.out _ _ (trivial) (fun hHeld => ?_)
                clear hK K
                (try simp only [Act.put, List.setIfInBounds_toArray, List.set_cons_zero, List.set_cons_succ])
                refine wpAnyH_ready (rs := [5]) (by kernel_rfl) (by simp) ?_
                refine anyH_one rfl (fun K hK => ?_) ?_
                · obtain ⟨r0, r1⟩ := (H8.out.at_ 1 rfl).c2
                  have g0 := (H8.out.at_ 1 rfl).fz 0; have g1 := (H8.out.at_ 1 rfl).fz 1
                  go_simp
                  generalize hq9 : (w8.setCell _ _).setCell _ _ = w9
                  have H9 := Lib.hid ((H8.out.put 1 rfl (turnB2 _ _ _ _) (setB2 (H8.out.at_ 1 rfl) _ _)).world hq9)
                  clear hq9 H8 r0 g0 r1 g1
                  refine hK.out _ _ (trivial) (fun hHeld => ?_)
                  clear hK K
                  (try simp only [Act.put, List.setIfInBounds_toArray, List.set_cons_zero, List.set_cons_succ])
                  refine wpAnyH_done (by kernel_rfl) ?_ _
                  clear hHeld
                  go_upto_region 4 with (go_at_call 38; refine (HK1.out _).mono ?_; rintro e w10 ⟨rfl, hb⟩; have H10 := Lib.hid (H9.out.quiet hb); clear hb H9)
                  generalize hq9 : w10.alloc _ = w11
                  have H11 := Lib.hid ((H10.out.new (b := w10.heap.size) rfl #[.int .i64 p, .int .i64 1, .int .u64 t1] 80).world hq9)
                  clear hq9 H10
                  generalize w10.heap.size = kb at H11 ⊢
                  obtain ⟨a0, a1⟩ := (H11.out.at_ 2 rfl).c2
                  obtain ⟨k0, k1, k2⟩ := (H11.out.at_ 0 rfl).c3
                  go_upto_region 6 with (go_at_call 37; refine (rgetC_any _ _ _ R p 1 t1 0 0 false false false false H11.out.own HLEN1.out HG.out false HI.out).mono ?_; rintro e w12 ⟨rfl, hb⟩; have H12 := Lib.hid (H11.out.quiet hb); clear hb H11 a0 a1 k0 k1 k2)
                  generalize hq9 : w12.alloc _ = w13
                  have H13 := Lib.hid ((H12.out.new (b := w12.heap.size) rfl #[.int .u64 0, .bool false, .bool false, .bool false, .bool false, .int .u8 0] 71).world hq9)
                  clear hq9 H12
                  generalize w12.heap.size = lb at H13 ⊢
                  obtain ⟨a0, a1⟩ := (H13.out.at_ 3 rfl).c2
                  obtain ⟨r0, r1⟩ := (H13.out.at_ 2 rfl).c2
                  have g0 := (H13.out.at_ 2 rfl).fz 0; have g1 := (H13.out.at_ 2 rfl).fz 1
                  go_wp2
                  generalize hq9 : (w13.setCell _ _).setCell _ _ = w14
                  have H14 := Lib.hid ((H13.out.put 2 rfl (turnB2 _ _ _ _) (setB2 (H13.out.at_ 2 rfl) _ _)).world hq9)
                  clear hq9 a0 a1 H13 r0 g0 r1 g1
                  refine bodyPost_ret (results_cell_row rfl _ _ (bc + 1) _ _ _ _ rfl (H14.out.at_ 2 rfl) Tryd.underlying28 rfl rfl) rfl ⟨_, _, _, rfl, H14.out.p, by first | exact H14.out.below | (rw [← HBC.out]; exact H14.out.below)⟩
                exact AllReadyH.nil
              exact AllReadyH.nil
            exact AllReadyH.nil
          refine anyH_one rfl (fun K hK => ?_) ?_
          · go_simp
            refine (HK3.out _).mono ?_
            rintro e w7 ⟨rfl, hb⟩
            have H7 := Lib.hid (H6.out.quiet hb)
            clear hb H6
            refine hK.out _ _ (trivial) (fun hHeld => ?_)
            clear hK K
            (try simp only [Act.put, List.setIfInBounds_toArray, List.set_cons_zero, List.set_cons_succ])
            refine wpAnyH_ready (rs := [0]) (by kernel_rfl) (by simp) ?_
            refine anyH_one rfl (fun K hK => ?_) ?_
            · obtain ⟨a0, a1⟩ := (H7.out.at_ 1 rfl).c2
              go_simp
              clear a0 a1
              refine hK.out _ _ (trivial) (fun hHeld => ?_)
              clear hK K
              (try simp only [Act.put, List.setIfInBounds_toArray, List.set_cons_zero, List.set_cons_succ])
              refine wpAnyH_ready (rs := [4]) (by kernel_rfl) (by simp) ?_
              refine anyH_one rfl (fun K hK => ?_) ?_
              · go_simp
                refine (rdropU _ _ (M2) R p 3 t3 H7.out.own (by exact HLEN3.out)).mono ?_
                rw [HM3.out]
                rintro e w8 ⟨A3, n3, c3, rfl, hn, hb⟩
                have H8 := Lib.hid (H7.out.next hn hb)
                clear hn hb H7
                refine hK.out _ _ (trivial) (fun hHeld => ?_)
                clear hK K
                (try simp only [Act.put, List.setIfInBounds_toArray, List.set_cons_zero, List.set_cons_succ])
                refine wpAnyH_ready (rs := [5]) (by kernel_rfl) (by simp) ?_
                refine anyH_one rfl (fun K hK => ?_) ?_
                · obtain ⟨r0, r1⟩ := (H8.out.at_ 1 rfl).c2
                  have g0 := (H8.out.at_ 1 rfl).fz 0; have g1 := (H8.out.at_ 1 rfl).fz 1
                  go_simp
                  generalize hq9 : (w8.setCell _ _).setCell _ _ = w9
                  have H9 := Lib.hid ((H8.out.put 1 rfl (turnB2 _ _ _ _) (setB2 (H8.out.at_ 1 rfl) _ _)).world hq9)
                  clear hq9 H8 r0 g0 r1 g1
                  refine hK.out _ _ (trivial) (fun hHeld => ?_)
                  clear hK K
                  (try simp only [Act.put, List.setIfInBounds_toArray, List.set_cons_zero, List.set_cons_succ])
                  refine wpAnyH_done (by kernel_rfl) ?_ _
                  clear hHeld
                  go_upto_region 4 with (go_at_call 38; refine (HK1.out _).mono ?_; rintro e w10 ⟨rfl, hb⟩; have H10 := Lib.hid (H9.out.quiet hb); clear hb H9)
                  generalize hq9 : w10.alloc _ = w11
                  have H11 := Lib.hid ((H10.out.new (b := w10.heap.size) rfl #[.int .i64 p, .int .i64 1, .int .u64 t1] 80).world hq9)
                  clear hq9 H10
                  generalize w10.heap.size = kb at H11 ⊢
                  obtain ⟨a0, a1⟩ := (H11.out.at_ 2 rfl).c2
                  obtain ⟨k0, k1, k2⟩ := (H11.out.at_ 0 rfl).c3
                  go_upto_region 6 with (go_at_call 37; refine (rgetC_any _ _ _ R p 1 t1 0 0 false false false false H11.out.own HLEN1.out HG.out false HI.out).mono ?_; rintro e w12 ⟨rfl, hb⟩; have H12 := Lib.hid (H11.out.quiet hb); clear hb H11 a0 a1 k0 k1 k2)
                  generalize hq9 : w12.alloc _ = w13
                  have H13 := Lib.hid ((H12.out.new (b := w12.heap.size) rfl #[.int .u64 0, .bool false, .bool false, .bool false, .bool false, .int .u8 0] 71).world hq9)
                  clear hq9 H12
                  generalize w12.heap.size = lb at H13 ⊢
                  obtain ⟨a0, a1⟩ := (H13.out.at_ 3 rfl).c2
                  obtain ⟨r0, r1⟩ := (H13.out.at_ 2 rfl).c2
                  have g0 := (H13.out.at_ 2 rfl).fz 0; have g1 := (H13.out.at_ 2 rfl).fz 1
                  go_wp2
                  generalize hq9 : (w13.setCell _ _).setCell _ _ = w14
                  have H14 := Lib.hid ((H13.out.put 2 rfl (turnB2 _ _ _ _) (setB2 (H13.out.at_ 2 rfl) _ _)).world hq9)
                  clear hq9 a0 a1 H13 r0 g0 r1 g1
                  refine bodyPost_ret (results_cell_row rfl _ _ (bc + 1) _ _ _ _ rfl (H14.out.at_ 2 rfl) Tryd.underlying28 rfl rfl) rfl ⟨_, _, _, rfl, H14.out.p, by first | exact H14.out.below | (rw [← HBC.out]; exact H14.out.below)⟩
                exact AllReadyH.nil
              exact AllReadyH.nil
            exact AllReadyH.nil
          exact AllReadyH.nil
        exact AllReadyH.nil
      exact AllReadyH.nil
    exact AllReadyH.nil
  refine anyH_one rfl (fun K hK => ?_) ?_
  · go_simp
    refine (HK2.out _).mono ?_
    rintro e w3 ⟨rfl, hb⟩
    have H3 := Lib.hid (H2.out.quiet hb)
    clear hb H2
    refine hK.out _ _ (trivial) (fun hHeld => ?_)
    clear hK K
    (try simp only [Act.put, List.setIfInBounds_toArray, List.set_cons_zero, List.set_cons_succ])
    refine wpAnyH_ready (rs := [0]) (by kernel_rfl) (by simp) ?_
    refine anyH_one rfl (fun K hK => ?_) ?_
    · obtain ⟨a0, a1⟩ := (H3.out.at_ 1 rfl).c2
      go_simp
      clear a0 a1
      refine hK.out _ _ (trivial) (fun hHeld => ?_)
      clear hK K
      (try simp only [Act.put, List.setIfInBounds_toArray, List.set_cons_zero, List.set_cons_succ])
      refine wpAnyH_ready (rs := [4]) (by kernel_rfl) (by simp) ?_
      refine anyH_one rfl (fun K hK => ?_) ?_
      · go_simp
        refine (rdropU _ _ (M) R p 2 t2 H3.out.own (by exact HLEN2.out)).mono ?_
        rw [HM2.out]
        rintro e w4 ⟨A2, n2, c2, rfl, hn, hb⟩
        have H4 := Lib.hid (H3.out.next hn hb)
        clear hn hb H3
        refine hK.out _ _ (trivial) (fun hHeld => ?_)
        clear hK K
        (try simp only [Act.put, List.setIfInBounds_toArray, List.set_cons_zero, List.set_cons_succ])
        refine wpAnyH_ready (rs := [5]) (by kernel_rfl) (by simp) ?_
        refine anyH_one rfl (fun K hK => ?_) ?_
        · obtain ⟨r0, r1⟩ := (H4.out.at_ 1 rfl).c2
          have g0 := (H4.out.at_ 1 rfl).fz 0; have g1 := (H4.out.at_ 1 rfl).fz 1
          go_simp
          generalize hq9 : (w4.setCell _ _).setCell _ _ = w5
          have H5 := Lib.hid ((H4.out.put 1 rfl (turnB2 _ _ _ _) (setB2 (H4.out.at_ 1 rfl) _ _)).world hq9)
          clear hq9 H4 r0 g0 r1 g1
          refine hK.out _ _ (trivial) (fun hHeld => ?_)
          clear hK K
          (try simp only [Act.put, List.setIfInBounds_toArray, List.set_cons_zero, List.set_cons_succ])
          refine wpAnyH_done (by kernel_rfl) ?_ _
          clear hHeld
          go_upto_region 2 with fail
          have H6 := Lib.hid (H5.out.quiet (Kept.drew0 w5))
          clear H5
          refine wp_region_held_drew (S := fun _ => True) (by kernel_rfl) trivial (fun hHeld => ?_)
          generalize w5.drew = w6 at *
          refine tk (v := ?_) 1 ?_ ?_
          rotate_left
          · intro w hSw
            go_simp
            (try with_reducible rfl)
          (try simp only [Act.put, List.setIfInBounds_toArray, List.set_cons_zero, List.set_cons_succ])
          refine tk (v := ?_) 2 ?_ ?_
          rotate_left
          · intro w hSw
            go_simp
            (try with_reducible rfl)
          (try simp only [Act.put, List.setIfInBounds_toArray, List.set_cons_zero, List.set_cons_succ])
          refine wpAnyH_ready (rs := [0, 3]) (by kernel_rfl) (by simp) ?_
          refine anyH_one rfl (fun K hK => ?_) ?_
          · obtain ⟨a0, a1⟩ := (H6.out.at_ 1 rfl).c2
            go_simp
            clear a0 a1
            refine hK.out _ _ (trivial) (fun hHeld => ?_)
            clear hK K
            (try simp only [Act.put, List.setIfInBounds_toArray, List.set_cons_zero, List.set_cons_succ])
            refine wpAnyH_ready (rs := [3]) (by kernel_rfl) (by simp) ?_
            refine anyH_one rfl (fun K hK => ?_) ?_
            · go_simp
              refine (HK3.out _).mono ?_
              rintro e w7 ⟨rfl, hb⟩
              have H7 := Lib.hid (H6.out.quiet hb)
              clear hb H6
              refine hK.out _ _ (trivial) (fun hHeld => ?_)
              clear hK K
              (try simp only [Act.put, List.setIfInBounds_toArray, List.set_cons_zero, List.set_cons_succ])
              refine wpAnyH_ready (rs := [4]) (by kernel_rfl) (by simp) ?_
              refine anyH_one rfl (fun K hK => ?_) ?_
              · go_simp
                refine (rdropU _ _ (M2) R p 3 t3 H7.out.own (by exact HLEN3.out)).mono ?_
                rw [HM3.out]
                rintro e w8 ⟨A3, n3, c3, rfl, hn, hb⟩
                have H8 := Lib.hid (H7.out.next hn hb)
                clear hn hb H7
                refine hK.out _ _ (trivial) (fun hHeld => ?_)
                clear hK K
                (try simp only [Act.put, List.setIfInBounds_toArray, List.set_cons_zero, List.set_cons_succ])
                refine wpAnyH_ready (rs := [5]) (by kernel_rfl) (by simp) ?_
                refine anyH_one rfl (fun K hK => ?_) ?_
                · obtain ⟨r0, r1⟩ := (H8.out.at_ 1 rfl).c2
                  have g0 := (H8.out.at_ 1 rfl).fz 0; have g1 := (H8.out.at_ 1 rfl).fz 1
                  go_simp
                  generalize hq9 : (w8.setCell _ _).setCell _ _ = w9
                  have H9 := Lib.hid ((H8.out.put 1 rfl (turnB2 _ _ _ _) (setB2 (H8.out.at_ 1 rfl) _ _)).world hq9)
                  clear hq9 H8 r0 g0 r1 g1
                  refine hK.out _ _ (trivial) (fun hHeld => ?_)
                  clear hK K
                  (try simp only [Act.put, List.setIfInBounds_toArray, List.set_cons_zero, List.set_cons_succ])
                  refine wpAnyH_done (by kernel_rfl) ?_ _
                  clear hHeld
                  go_upto_region 4 with (go_at_call 38; refine (HK1.out _).mono ?_; rintro e w10 ⟨rfl, hb⟩; have H10 := Lib.hid (H9.out.quiet hb); clear hb H9)
                  generalize hq9 : w10.alloc _ = w11
                  have H11 := Lib.hid ((H10.out.new (b := w10.heap.size) rfl #[.int .i64 p, .int .i64 1, .int .u64 t1] 80).world hq9)
                  clear hq9 H10
                  generalize w10.heap.size = kb at H11 ⊢
                  obtain ⟨a0, a1⟩ := (H11.out.at_ 2 rfl).c2
                  obtain ⟨k0, k1, k2⟩ := (H11.out.at_ 0 rfl).c3
                  go_upto_region 6 with (go_at_call 37; refine (rgetC_any _ _ _ R p 1 t1 0 0 false false false false H11.out.own HLEN1.out HG.out false HI.out).mono ?_; rintro e w12 ⟨rfl, hb⟩; have H12 := Lib.hid (H11.out.quiet hb); clear hb H11 a0 a1 k0 k1 k2)
                  generalize hq9 : w12.alloc _ = w13
                  have H13 := Lib.hid ((H12.out.new (b := w12.heap.size) rfl #[.int .u64 0, .bool false, .bool false, .bool false, .bool false, .int .u8 0] 71).world hq9)
                  clear hq9 H12
                  generalize w12.heap.size = lb at H13 ⊢
                  obtain ⟨a0, a1⟩ := (H13.out.at_ 3 rfl).c2
                  obtain ⟨r0, r1⟩ := (H13.out.at_ 2 rfl).c2
                  have g0 := (H13.out.at_ 2 rfl).fz 0; have g1 := (H13.out.at_ 2 rfl).fz 1
                  go_wp2
                  generalize hq9 : (w13.setCell _ _).setCell _ _ = w14
                  have H14 := Lib.hid ((H13.out.put 2 rfl (turnB2 _ _ _ _) (setB2 (H13.out.at_ 2 rfl) _ _)).world hq9)
                  clear hq9 a0 a1 H13 r0 g0 r1 g1
                  refine bodyPost_ret (results_cell_row rfl _ _ (bc + 1) _ _ _ _ rfl (H14.out.at_ 2 rfl) Tryd.underlying28 rfl rfl) rfl ⟨_, _, _, rfl, H14.out.p, by first | exact H14.out.below | (rw [← HBC.out]; exact H14.out.below)⟩
                exact AllReadyH.nil
              exact AllReadyH.nil
            exact AllReadyH.nil
          refine anyH_one rfl (fun K hK => ?_) ?_
          · go_simp
            refine (HK3.out _).mono ?_
            rintro e w7 ⟨rfl, hb⟩
            have H7 := Lib.hid (H6.out.quiet hb)
            clear hb H6
            refine hK.out _ _ (trivial) (fun hHeld => ?_)
            clear hK K
            (try simp only [Act.put, List.setIfInBounds_toArray, List.set_cons_zero, List.set_cons_succ])
            refine wpAnyH_ready (rs := [0]) (by kernel_rfl) (by simp) ?_
            refine anyH_one rfl (fun K hK => ?_) ?_
            · obtain ⟨a0, a1⟩ := (H7.out.at_ 1 rfl).c2
              go_simp
              clear a0 a1
              refine hK.out _ _ (trivial) (fun hHeld => ?_)
              clear hK K
              (try simp only [Act.put, List.setIfInBounds_toArray, List.set_cons_zero, List.set_cons_succ])
              refine wpAnyH_ready (rs := [4]) (by kernel_rfl) (by simp) ?_
              refine anyH_one rfl (fun K hK => ?_) ?_
              · go_simp
                refine (rdropU _ _ (M2) R p 3 t3 H7.out.own (by exact HLEN3.out)).mono ?_
                rw [HM3.out]
                rintro e w8 ⟨A3, n3, c3, rfl, hn, hb⟩
                have H8 := Lib.hid (H7.out.next hn hb)
                clear hn hb H7
                refine hK.out _ _ (trivial) (fun hHeld => ?_)
                clear hK K
                (try simp only [Act.put, List.setIfInBounds_toArray, List.set_cons_zero, List.set_cons_succ])
                refine wpAnyH_ready (rs := [5]) (by kernel_rfl) (by simp) ?_
                refine anyH_one rfl (fun K hK => ?_) ?_
                · obtain ⟨r0, r1⟩ := (H8.out.at_ 1 rfl).c2
                  have g0 := (H8.out.at_ 1 rfl).fz 0; have g1 := (H8.out.at_ 1 rfl).fz 1
                  go_simp
                  generalize hq9 : (w8.setCell _ _).setCell _ _ = w9
                  have H9 := Lib.hid ((H8.out.put 1 rfl (turnB2 _ _ _ _) (setB2 (H8.out.at_ 1 rfl) _ _)).world hq9)
                  clear hq9 H8 r0 g0 r1 g1
                  refine hK.out _ _ (trivial) (fun hHeld => ?_)
                  clear hK K
                  (try simp only [Act.put, List.setIfInBounds_toArray, List.set_cons_zero, List.set_cons_succ])
                  refine wpAnyH_done (by kernel_rfl) ?_ _
                  clear hHeld
                  go_upto_region 4 with (go_at_call 38; refine (HK1.out _).mono ?_; rintro e w10 ⟨rfl, hb⟩; have H10 := Lib.hid (H9.out.quiet hb); clear hb H9)
                  generalize hq9 : w10.alloc _ = w11
                  have H11 := Lib.hid ((H10.out.new (b := w10.heap.size) rfl #[.int .i64 p, .int .i64 1, .int .u64 t1] 80).world hq9)
                  clear hq9 H10
                  generalize w10.heap.size = kb at H11 ⊢
                  obtain ⟨a0, a1⟩ := (H11.out.at_ 2 rfl).c2
                  obtain ⟨k0, k1, k2⟩ := (H11.out.at_ 0 rfl).c3
                  go_upto_region 6 with (go_at_call 37; refine (rgetC_any _ _ _ R p 1 t1 0 0 false false false false H11.out.own HLEN1.out HG.out false HI.out).mono ?_; rintro e w12 ⟨rfl, hb⟩; have H12 := Lib.hid (H11.out.quiet hb); clear hb H11 a0 a1 k0 k1 k2)
                  generalize hq9 : w12.alloc _ = w13
                  have H13 := Lib.hid ((H12.out.new (b := w12.heap.size) rfl #[.int .u64 0, .bool false, .bool false, .bool false, .bool false, .int .u8 0] 71).world hq9)
                  clear hq9 H12
                  generalize w12.heap.size = lb at H13 ⊢
                  obtain ⟨a0, a1⟩ := (H13.out.at_ 3 rfl).c2
                  obtain ⟨r0, r1⟩ := (H13.out.at_ 2 rfl).c2
                  have g0 := (H13.out.at_ 2 rfl).fz 0; have g1 := (H13.out.at_ 2 rfl).fz 1
                  go_wp2
                  generalize hq9 : (w13.setCell _ _).setCell _ _ = w14
                  have H14 := Lib.hid ((H13.out.put 2 rfl (turnB2 _ _ _ _) (setB2 (H13.out.at_ 2 rfl) _ _)).world hq9)
                  clear hq9 a0 a1 H13 r0 g0 r1 g1
                  refine bodyPost_ret (results_cell_row rfl _ _ (bc + 1) _ _ _ _ rfl (H14.out.at_ 2 rfl) Tryd.underlying28 rfl rfl) rfl ⟨_, _, _, rfl, H14.out.p, by first | exact H14.out.below | (rw [← HBC.out]; exact H14.out.below)⟩
                exact AllReadyH.nil
              exact AllReadyH.nil
            exact AllReadyH.nil
          exact AllReadyH.nil
        exact AllReadyH.nil
      exact AllReadyH.nil
    exact AllReadyH.nil
  exact AllReadyH.nil
set_option maxRecDepth 100000 in
set_option maxHeartbeats 3200000 in
theorem rdropT_zero (v : Value) (R : Nat) (h : PairsOwn w 0 v M) (hl : M.length ≤ 900) (hp : I64 p) (ha : W64 a) (l0 l5 : Int) (l1 l2 l3 l4 : Bool) (hg : getK (dropK (dropK M (p, 2, tagT a 2)) (p, 3, tagT a 3)) (p, 1, tagT a 1) = some (l0, l1, l2, l3, l4, l5)) (hol : OkL (l0, l1, l2, l3, l4, l5)) (m0 m5 : Int) (m1 m2 m3 m4 : Bool) (hm : wthG (l0, l1, l2, l3, l4, l5) (plT a) = (m0, m1, m2, m3, m4, m5)) (hz : (m5 == 0) = true) :
    Calls Tryd.prog 33 #[.agg #[v, .int .i64 R], .int .i64 p, .int .u64 a] w fun e w' => ∃ A n c, e = .returned (.agg #[.slice A n c, .int .i64 R]) ∧ PairsNew w w' v (.slice A n c) (dropK (dropK (dropK M (p, 2, tagT a 2)) (p, 3, tagT a 3)) (p, 1, tagT a 1)) ∧ Below w.heap.size w w' := by
  obtain ⟨A, n, c, rfl⟩ := h.slice
  have HK1 := Lib.hid fun w1 => rkeyT_any p a 1 w1 ha (by decide) (by decide)
  have HK2 := Lib.hid fun w1 => rkeyT_any p a 2 w1 ha (by decide) (by decide)
  have HK3 := Lib.hid fun w1 => rkeyT_any p a 3 w1 ha (by decide) (by decide)
  have HLEN2 : Hid (M.length ≤ 1000) := Lib.hid (by omega)
  have HLEN3 : Hid ((dropK M (p, 2, tagT a 2)).length ≤ 1000) := Lib.hid (Nat.le_trans (dropK_len _ _) (by omega))
  have HLEN9 : Hid ((dropK (dropK M (p, 2, tagT a 2)) (p, 3, tagT a 3)).length ≤ 900) := Lib.hid (Nat.le_trans (dropK_len _ _) (Nat.le_trans (dropK_len _ _) hl))
  have HLEN1 : Hid ((dropK (dropK M (p, 2, tagT a 2)) (p, 3, tagT a 3)).length ≤ 1000) := Lib.hid (Nat.le_trans HLEN9.out (by decide))
  have HG : Hid ((getK (dropK (dropK M (p, 2, tagT a 2)) (p, 3, tagT a 3)) (p, 1, tagT a 1)).getD zL = (l0, l1, l2, l3, l4, l5)) := Lib.hid (by rw [hg]; rfl)
  have HI : Hid ((getK (dropK (dropK M (p, 2, tagT a 2)) (p, 3, tagT a 3)) (p, 1, tagT a 1)).isSome = true) := Lib.hid (by rw [hg]; rfl)
  have HPL := Lib.hid fun w1 => rplaceT_any a w1 ha
  have HW := Lib.hid fun w1 => rwith12_any (l0, l1, l2, l3, l4, l5) (plT a) w1 hol
  rw [hm] at HW
  generalize plT a = i at *
  clear hol hm
  have H0 := Lib.hid (((Dv.start h).new (b := w.heap.size) rfl #[.slice A n c, .int .i64 R] 28).new (b := w.heap.size + 1) (by simp) #[.slice none 0 0, .int .i64 0] 28)
  unfold kyT at HK1 HK2 HK3
  clear h hl hp ha hg
  generalize tagT a 1 = t1 at *
  generalize tagT a 2 = t2 at *
  generalize tagT a 3 = t3 at *
  obtain ⟨M2, hM2⟩ : ∃ M2, dropK M (p, 2, t2) = M2 := ⟨_, rfl⟩
  obtain ⟨M3, hM3⟩ : ∃ M3, dropK M2 (p, 3, t3) = M3 := ⟨_, rfl⟩
  rw [hM2] at HLEN3 HLEN9 HLEN1 HG HI ⊢
  rw [hM3] at HLEN9 HLEN1 HG HI ⊢
  have HM2 := Lib.hid hM2
  have HM3 := Lib.hid hM3
  clear hM2 hM3
  go_enter Tryd.func33, Tryd.ntmps33
  go_upto_region 1 with fail
  generalize hw0 : (w.alloc _).alloc _ = w1 at *
  have H1 := H0
  clear hw0 H0
  obtain ⟨bc, hb⟩ : ∃ b, w.heap.size = b := ⟨_, rfl⟩
  rw [hb] at H1 ⊢
  have HBC := Lib.hid hb
  clear hb
  go_upto_region 1 with fail
  have H2 := Lib.hid (H1.out.quiet (Kept.drew0 w1))
  clear H1
  refine wp_region_held_drew (S := fun _ => True) (by kernel_rfl) trivial (fun hHeld => ?_)
  generalize w1.drew = w2 at *
  refine tk (v := ?_) 1 ?_ ?_
  rotate_left
  · intro w hSw
    go_simp
    (try with_reducible rfl)
  (try simp only [Act.put, List.setIfInBounds_toArray, List.set_cons_zero, List.set_cons_succ])
  refine tk (v := ?_) 2 ?_ ?_
  rotate_left
  · intro w hSw
    go_simp
    (try with_reducible rfl)
  (try simp only [Act.put, List.setIfInBounds_toArray, List.set_cons_zero, List.set_cons_succ])
  refine wpAnyH_ready (rs := [0, 3]) (by kernel_rfl) (by simp) ?_
  refine anyH_one rfl (fun K hK => ?_) ?_
  · obtain ⟨a0, a1⟩ := (H2.out.at_ 1 rfl).c2
    go_simp
    clear a0 a1
    refine hK.out _ _ (trivial) (fun hHeld => ?_)
    clear hK K
    (try simp only [Act.put, List.setIfInBounds_toArray, List.set_cons_zero, List.set_cons_succ])
    refine wpAnyH_ready (rs := [3]) (by kernel_rfl) (by simp) ?_
    refine anyH_one rfl (fun K hK => ?_) ?_
    · go_simp
      refine (HK2.out _).mono ?_
      rintro e w3 ⟨rfl, hb⟩
      have H3 := Lib.hid (H2.out.quiet hb)
      clear hb H2
      refine hK.out _ _ (trivial) (fun hHeld => ?_)
      clear hK K
      (try simp only [Act.put, List.setIfInBounds_toArray, List.set_cons_zero, List.set_cons_succ])
      refine wpAnyH_ready (rs := [4]) (by kernel_rfl) (by simp) ?_
      refine anyH_one rfl (fun K hK => ?_) ?_
      · go_simp
        refine (rdropU _ _ (M) R p 2 t2 H3.out.own (by exact HLEN2.out)).mono ?_
        rw [HM2.out]
        rintro e w4 ⟨A2, n2, c2, rfl, hn, hb⟩
        have H4 := Lib.hid (H3.out.next hn hb)
        clear hn hb H3
        refine hK.out _ _ (trivial) (fun hHeld => ?_)
        clear hK K
        (try simp only [Act.put, List.setIfInBounds_toArray, List.set_cons_zero, List.set_cons_succ])
        refine wpAnyH_ready (rs := [5]) (by kernel_rfl) (by simp) ?_
        refine anyH_one rfl (fun K hK => ?_) ?_
        · obtain ⟨r0, r1⟩ := (H4.out.at_ 1 rfl).c2
          have g0 := (H4.out.at_ 1 rfl).fz 0; have g1 := (H4.out.at_ 1 rfl).fz 1
          go_simp
          generalize hq9 : (w4.setCell _ _).setCell _ _ = w5
          have H5 := Lib.hid ((H4.out.put 1 rfl (turnB2 _ _ _ _) (setB2 (H4.out.at_ 1 rfl) _ _)).world hq9)
          clear hq9 H4 r0 g0 r1 g1
          refine hK.out _ _ (trivial) (fun hHeld => ?_)
          clear hK K
          (try simp only [Act.put, List.setIfInBounds_toArray, List.set_cons_zero, List.set_cons_succ])
          refine wpAnyH_done (by kernel_rfl) ?_ _
          clear hHeld
          go_upto_region 2 with fail
          have H6 := Lib.hid (H5.out.quiet (Kept.drew0 w5))
          clear H5
          refine wp_region_held_drew (S := fun _ => True) (by kernel_rfl) trivial (fun hHeld => ?_)
          generalize w5.drew = w6 at *
          refine tk (v := ?_) 1 ?_ ?_
          rotate_left
          · intro w hSw
            go_simp
            (try with_reducible rfl)
          (try simp only [Act.put, List.setIfInBounds_toArray, List.set_cons_zero, List.set_cons_succ])
          refine tk (v := ?_) 2 ?_ ?_
          rotate_left
          · intro w hSw
            go_simp
            (try with_reducible rfl)
          (try simp only [Act.put, List.setIfInBounds_toArray, List.set_cons_zero, List.set_cons_succ])
          refine wpAnyH_ready (rs := [0, 3]) (by kernel_rfl) (by simp) ?_
          refine anyH_one rfl (fun K hK => ?_) ?_
          · obtain ⟨a0, a1⟩ := (H6.out.at_ 1 rfl).c2
            go_simp
            clear a0 a1
            refine hK.out _ _ (trivial) (fun hHeld => ?_)
            clear hK K
            (try simp only [Act.put, List.setIfInBounds_toArray, List.set_cons_zero, List.set_cons_succ])
            refine wpAnyH_ready (rs := [3]) (by kernel_rfl) (by simp) ?_
            refine anyH_one rfl (fun K hK => ?_) ?_
            · go_simp
              refine (HK3.out _).mono ?_
              rintro e w7 ⟨rfl, hb⟩
              have H7 := Lib.hid (H6.out.quiet hb)
              clear hb H6
              refine hK.out _ _ (trivial) (fun hHeld => ?_)
              clear hK K
              (try simp only [Act.put, List.setIfInBounds_toArray, List.set_cons_zero, List.set_cons_succ])
              refine wpAnyH_ready (rs := [4]) (by kernel_rfl) (by simp) ?_
              refine anyH_one rfl (fun K hK => ?_) ?_
              · go_simp
                refine (rdropU _ _ (M2) R p 3 t3 H7.out.own (by exact HLEN3.out)).mono ?_
                rw [HM3.out]
                rintro e w8 ⟨A3, n3, c3, rfl, hn, hb⟩
                have H8 := Lib.hid (H7.out.next hn hb)
                clear hn hb H7
                refine hK.out _ _ (trivial) (fun hHeld => ?_)
                clear hK K
                (try simp only [Act.put, List.setIfInBounds_toArray, List.set_cons_zero, List.set_cons_succ])
                refine wpAnyH_ready (rs := [5]) (by kernel_rfl) (by simp) ?_
                refine anyH_one rfl (fun K hK => ?_) ?_
                · obtain ⟨r0, r1⟩ := (H8.out.at_ 1 rfl).c2
                  have g0 := (H8.out.at_ 1 rfl).fz 0; have g1 := (H8.out.at_ 1 rfl).fz 1
                  go_simp
                  generalize hq9 : (w8.setCell _ _).setCell _ _ = w9
                  have H9 := Lib.hid ((H8.out.put 1 rfl (turnB2 _ _ _ _) (setB2 (H8.out.at_ 1 rfl) _ _)).world hq9)
                  clear hq9 H8 r0 g0 r1 g1
                  refine hK.out _ _ (trivial) (fun hHeld => ?_)
                  clear hK K
                  (try simp only [Act.put, List.setIfInBounds_toArray, List.set_cons_zero, List.set_cons_succ])
                  refine wpAnyH_done (by kernel_rfl) ?_ _
                  clear hHeld
                  go_upto_region 4 with (go_at_call 38; refine (HK1.out _).mono ?_; rintro e w10 ⟨rfl, hb⟩; have H10 := Lib.hid (H9.out.quiet hb); clear hb H9)
                  generalize hq9 : w10.alloc _ = w11
                  have H11 := Lib.hid ((H10.out.new (b := w10.heap.size) rfl #[.int .i64 p, .int .i64 1, .int .u64 t1] 80).world hq9)
                  clear hq9 H10
                  generalize w10.heap.size = kb at H11 ⊢
                  obtain ⟨a0, a1⟩ := (H11.out.at_ 2 rfl).c2
                  obtain ⟨k0, k1, k2⟩ := (H11.out.at_ 0 rfl).c3
                  go_upto_region 7 with (go_at_call 37; refine (rgetC_any _ _ _ R p 1 t1 l0 l5 l1 l2 l3 l4 H11.out.own HLEN1.out HG.out true HI.out).mono ?_; rintro e w12 ⟨rfl, hb⟩; have H12 := Lib.hid (H11.out.quiet hb); clear hb H11 a0 a1 k0 k1 k2)
                  generalize hq9 : w12.alloc _ = w13
                  have H13 := Lib.hid ((H12.out.new (b := w12.heap.size) rfl #[.int .u64 l0, .bool l1, .bool l2, .bool l3, .bool l4, .int .u8 l5] 71).world hq9)
                  clear hq9 H12
                  generalize w12.heap.size = lb at H13 ⊢
                  go_upto_region 7 with fail
                  go_cut [10] from 33 (fun s10 w9 => ∃ mb : Nat, s10 = .pointer (some ⟨mb, 0, none⟩) ∧ Hid (Dv w w9 (.slice A n c) (.slice A3 n3 c3) M3 [⟨mb, #[.int .u64 m0, .bool m1, .bool m2, .bool m3, .bool m4, .int .u8 m5], 71⟩, ⟨kb, #[.int .i64 p, .int .i64 1, .int .u64 t1], 80⟩, ⟨bc + 1, #[.slice none 0 0, .int .i64 0], 28⟩, ⟨bc, #[.slice A3 n3 c3, .int .i64 R], 28⟩]))
                  case first =>
                    have H14 := Lib.hid (H13.out.quiet (Kept.drew0 w13))
                    clear H13
                    refine wp_region_held_drew (S := fun w' => Blk w' lb #[.int .u64 l0, .bool l1, .bool l2, .bool l3, .bool l4, .int .u8 l5] 71) (by kernel_rfl) (H14.out.at_ 0 rfl) (fun hHeld => ?_)
                    generalize w13.drew = w14 at *
                    refine tk (v := ?_) 0 ?_ ?_
                    rotate_left
                    · intro w hSw
                      obtain ⟨q0, q1, q2, q3, q4, q5⟩ := hSw.c6
                      go_simp
                      (try with_reducible rfl)
                    (try simp only [Act.put, List.setIfInBounds_toArray, List.set_cons_zero, List.set_cons_succ])
                    refine tk (v := ?_) 1 ?_ ?_
                    rotate_left
                    · intro w hSw
                      go_simp
                      (try with_reducible rfl)
                    (try simp only [Act.put, List.setIfInBounds_toArray, List.set_cons_zero, List.set_cons_succ])
                    refine wpAnyH_ready (rs := [2, 4]) (by kernel_rfl) (by simp) ?_
                    refine anyH_one rfl (fun K hK => ?_) ?_
                    · go_simp
                      refine (HPL.out _).mono ?_
                      rintro e _ ⟨rfl, rfl⟩
                      refine hK.out _ _ ((H14.out.at_ 0 rfl)) (fun hHeld => ?_)
                      clear hK K
                      (try simp only [Act.put, List.setIfInBounds_toArray, List.set_cons_zero, List.set_cons_succ])
                      refine wpAnyH_ready (rs := [3, 4]) (by kernel_rfl) (by simp) ?_
                      refine anyH_one rfl (fun K hK => ?_) ?_
                      · go_simp
                        refine (HW.out _).mono ?_
                        rintro e w15 ⟨rfl, hb⟩
                        have H15 := Lib.hid (H14.out.quiet hb)
                        clear hb H14
                        refine hK.out _ _ ((H15.out.at_ 0 rfl)) (fun hHeld => ?_)
                        clear hK K
                        (try simp only [Act.put, List.setIfInBounds_toArray, List.set_cons_zero, List.set_cons_succ])
                        refine wpAnyH_ready (rs := [4]) (by kernel_rfl) (by simp) ?_
                        refine anyH_one rfl (fun K hK => ?_) ?_
                        · go_simp
                          generalize hq9 : w15.alloc _ = w16
                          have H16 := Lib.hid ((H15.out.new (b := w15.heap.size) rfl #[.int .u64 0, .bool false, .bool false, .bool false, .bool false, .int .u8 0] 71).world hq9)
                          clear hq9 H15
                          generalize w15.heap.size = mb at H16 ⊢
                          refine hK.out _ _ ((H16.out.at_ 1 rfl)) (fun hHeld => ?_)
                          clear hK K
                          (try simp only [Act.put, List.setIfInBounds_toArray, List.set_cons_zero, List.set_cons_succ])
                          refine wpAnyH_ready (rs := [5]) (by kernel_rfl) (by simp) ?_
                          refine anyH_one rfl (fun K hK => ?_) ?_
                          · obtain ⟨r0, r1, r2, r3, r4, r5⟩ := (H16.out.at_ 0 rfl).c6
                            have g0 := (H16.out.at_ 0 rfl).fz 0; have g1 := (H16.out.at_ 0 rfl).fz 1; have g2 := (H16.out.at_ 0 rfl).fz 2; have g3 := (H16.out.at_ 0 rfl).fz 3; have g4 := (H16.out.at_ 0 rfl).fz 4; have g5 := (H16.out.at_ 0 rfl).fz 5
                            go_simp
                            generalize hq9 : (((((w16.setCell _ _).setCell _ _).setCell _ _).setCell _ _).setCell _ _).setCell _ _ = w17
                            have H17 := Lib.hid ((H16.out.put 0 rfl (turnB6 _ _ _ _ _ _ _ _) (setB6 (H16.out.at_ 0 rfl) _ _ _ _ _ _)).world hq9)
                            clear hq9 H16 r0 g0 r1 g1 r2 g2 r3 g3 r4 g4 r5 g5
                            refine hK.out _ _ ((H17.out.at_ 1 rfl)) (fun hHeld => ?_)
                            clear hK K
                            (try simp only [Act.put, List.setIfInBounds_toArray, List.set_cons_zero, List.set_cons_succ])
                            refine wpAnyH_done (by kernel_rfl) ?_ _
                            clear hHeld
                            go_wp2
                            go_meet
                            case rel => exact ⟨mb, rfl, H17.out.pick [0, 2, 3, 4]⟩
                          exact AllReadyH.nil
                        exact AllReadyH.nil
                      refine anyH_one rfl (fun K hK => ?_) ?_
                      · go_simp
                        generalize hq9 : w14.alloc _ = w15
                        have H15 := Lib.hid ((H14.out.new (b := w14.heap.size) rfl #[.int .u64 0, .bool false, .bool false, .bool false, .bool false, .int .u8 0] 71).world hq9)
                        clear hq9 H14
                        generalize w14.heap.size = mb at H15 ⊢
                        refine hK.out _ _ ((H15.out.at_ 1 rfl)) (fun hHeld => ?_)
                        clear hK K
                        (try simp only [Act.put, List.setIfInBounds_toArray, List.set_cons_zero, List.set_cons_succ])
                        refine wpAnyH_ready (rs := [3]) (by kernel_rfl) (by simp) ?_
                        refine anyH_one rfl (fun K hK => ?_) ?_
                        · go_simp
                          refine (HW.out _).mono ?_
                          rintro e w16 ⟨rfl, hb⟩
                          have H16 := Lib.hid (H15.out.quiet hb)
                          clear hb H15
                          refine hK.out _ _ ((H16.out.at_ 1 rfl)) (fun hHeld => ?_)
                          clear hK K
                          (try simp only [Act.put, List.setIfInBounds_toArray, List.set_cons_zero, List.set_cons_succ])
                          refine wpAnyH_ready (rs := [5]) (by kernel_rfl) (by simp) ?_
                          refine anyH_one rfl (fun K hK => ?_) ?_
                          · obtain ⟨r0, r1, r2, r3, r4, r5⟩ := (H16.out.at_ 0 rfl).c6
                            have g0 := (H16.out.at_ 0 rfl).fz 0; have g1 := (H16.out.at_ 0 rfl).fz 1; have g2 := (H16.out.at_ 0 rfl).fz 2; have g3 := (H16.out.at_ 0 rfl).fz 3; have g4 := (H16.out.at_ 0 rfl).fz 4; have g5 := (H16.out.at_ 0 rfl).fz 5
                            go_simp
                            generalize hq9 : (((((w16.setCell _ _).setCell _ _).setCell _ _).setCell _ _).setCell _ _).setCell _ _ = w17
                            have H17 := Lib.hid ((H16.out.put 0 rfl (turnB6 _ _ _ _ _ _ _ _) (setB6 (H16.out.at_ 0 rfl) _ _ _ _ _ _)).world hq9)
                            clear hq9 H16 r0 g0 r1 g1 r2 g2 r3 g3 r4 g4 r5 g5
                            refine hK.out _ _ ((H17.out.at_ 1 rfl)) (fun hHeld => ?_)
                            clear hK K
                            (try simp only [Act.put, List.setIfInBounds_toArray, List.set_cons_zero, List.set_cons_succ])
                            refine wpAnyH_done (by kernel_rfl) ?_ _
                            clear hHeld
                            go_wp2
                            go_meet
                            case rel => exact ⟨mb, rfl, H17.out.pick [0, 2, 3, 4]⟩
                          exact AllReadyH.nil
                        exact AllReadyH.nil
                      exact AllReadyH.nil
                    refine anyH_one rfl (fun K hK => ?_) ?_
                    · go_simp
                      generalize hq9 : w14.alloc _ = w15
                      have H15 := Lib.hid ((H14.out.new (b := w14.heap.size) rfl #[.int .u64 0, .bool false, .bool false, .bool false, .bool false, .int .u8 0] 71).world hq9)
                      clear hq9 H14
                      generalize w14.heap.size = mb at H15 ⊢
                      refine hK.out _ _ ((H15.out.at_ 1 rfl)) (fun hHeld => ?_)
                      clear hK K
                      (try simp only [Act.put, List.setIfInBounds_toArray, List.set_cons_zero, List.set_cons_succ])
                      refine wpAnyH_ready (rs := [2]) (by kernel_rfl) (by simp) ?_
                      refine anyH_one rfl (fun K hK => ?_) ?_
                      · go_simp
                        refine (HPL.out _).mono ?_
                        rintro e _ ⟨rfl, rfl⟩
                        refine hK.out _ _ ((H15.out.at_ 1 rfl)) (fun hHeld => ?_)
                        clear hK K
                        (try simp only [Act.put, List.setIfInBounds_toArray, List.set_cons_zero, List.set_cons_succ])
                        refine wpAnyH_ready (rs := [3]) (by kernel_rfl) (by simp) ?_
                        refine anyH_one rfl (fun K hK => ?_) ?_
                        · go_simp
                          refine (HW.out _).mono ?_
                          rintro e w16 ⟨rfl, hb⟩
                          have H16 := Lib.hid (H15.out.quiet hb)
                          clear hb H15
                          refine hK.out _ _ ((H16.out.at_ 1 rfl)) (fun hHeld => ?_)
                          clear hK K
                          (try simp only [Act.put, List.setIfInBounds_toArray, List.set_cons_zero, List.set_cons_succ])
                          refine wpAnyH_ready (rs := [5]) (by kernel_rfl) (by simp) ?_
                          refine anyH_one rfl (fun K hK => ?_) ?_
                          · obtain ⟨r0, r1, r2, r3, r4, r5⟩ := (H16.out.at_ 0 rfl).c6
                            have g0 := (H16.out.at_ 0 rfl).fz 0; have g1 := (H16.out.at_ 0 rfl).fz 1; have g2 := (H16.out.at_ 0 rfl).fz 2; have g3 := (H16.out.at_ 0 rfl).fz 3; have g4 := (H16.out.at_ 0 rfl).fz 4; have g5 := (H16.out.at_ 0 rfl).fz 5
                            go_simp
                            generalize hq9 : (((((w16.setCell _ _).setCell _ _).setCell _ _).setCell _ _).setCell _ _).setCell _ _ = w17
                            have H17 := Lib.hid ((H16.out.put 0 rfl (turnB6 _ _ _ _ _ _ _ _) (setB6 (H16.out.at_ 0 rfl) _ _ _ _ _ _)).world hq9)
                            clear hq9 H16 r0 g0 r1 g1 r2 g2 r3 g3 r4 g4 r5 g5
                            refine hK.out _ _ ((H17.out.at_ 1 rfl)) (fun hHeld => ?_)
                            clear hK K
                            (try simp only [Act.put, List.setIfInBounds_toArray, List.set_cons_zero, List.set_cons_succ])
                            refine wpAnyH_done (by kernel_rfl) ?_ _
                            clear hHeld
                            go_wp2
                            go_meet
                            case rel => exact ⟨mb, rfl, H17.out.pick [0, 2, 3, 4]⟩
                          exact AllReadyH.nil
                        exact AllReadyH.nil
                      exact AllReadyH.nil
                    exact AllReadyH.nil
                  case rest =>
                    obtain ⟨mb, rfl, H40⟩ := hcut
                    generalize wc = w40 at *
                    obtain ⟨q0, q1, q2, q3, q4, q5⟩ := (H40.out.at_ 0 rfl).c6
                    obtain ⟨k0, k1, k2⟩ := (H40.out.at_ 1 rfl).c3
                    obtain ⟨a0, a1⟩ := (H40.out.at_ 3 rfl).c2
                    go_wp2_with (go_at_call 54; refine (rdropU _ _ _ R p 1 t1 H40.out.own HLEN1.out).mono ?_; rintro e w41 ⟨A4, n4, c4, rfl, hn, hb⟩; have H41 := Lib.hid (H40.out.next hn hb); clear hn hb H40 q0 q1 q2 q3 q4 q5 k0 k1 k2 a0 a1; obtain ⟨r0, r1⟩ := (H41.out.at_ 2 rfl).c2; have g0 := (H41.out.at_ 2 rfl).fz 0; have g1 := (H41.out.at_ 2 rfl).fz 1)
                    generalize hq9 : (w41.setCell _ _).setCell _ _ = w42
                    have H42 := Lib.hid ((H41.out.put 2 rfl (turnB2 _ _ _ _) (setB2 (H41.out.at_ 2 rfl) _ _)).world hq9)
                    clear hq9 H41 r0 g0 r1 g1
                    refine bodyPost_ret (results_cell_row rfl _ _ (bc + 1) _ _ _ _ rfl (H42.out.at_ 2 rfl) Tryd.underlying28 rfl rfl) rfl ⟨_, _, _, rfl, H42.out.p, by first | exact H42.out.below | (rw [← HBC.out]; exact H42.out.below)⟩
                exact AllReadyH.nil
              exact AllReadyH.nil
            exact AllReadyH.nil
          refine anyH_one rfl (fun K hK => ?_) ?_
          · go_simp
            refine (HK3.out _).mono ?_
            rintro e w7 ⟨rfl, hb⟩
            have H7 := Lib.hid (H6.out.quiet hb)
            clear hb H6
            refine hK.out _ _ (trivial) (fun hHeld => ?_)
            clear hK K
            (try simp only [Act.put, List.setIfInBounds_toArray, List.set_cons_zero, List.set_cons_succ])
            refine wpAnyH_ready (rs := [0]) (by kernel_rfl) (by simp) ?_
            refine anyH_one rfl (fun K hK => ?_) ?_
            · obtain ⟨a0, a1⟩ := (H7.out.at_ 1 rfl).c2
              go_simp
              clear a0 a1
              refine hK.out _ _ (trivial) (fun hHeld => ?_)
              clear hK K
              (try simp only [Act.put, List.setIfInBounds_toArray, List.set_cons_zero, List.set_cons_succ])
              refine wpAnyH_ready (rs := [4]) (by kernel_rfl) (by simp) ?_
              refine anyH_one rfl (fun K hK => ?_) ?_
              · go_simp
                refine (rdropU _ _ (M2) R p 3 t3 H7.out.own (by exact HLEN3.out)).mono ?_
                rw [HM3.out]
                rintro e w8 ⟨A3, n3, c3, rfl, hn, hb⟩
                have H8 := Lib.hid (H7.out.next hn hb)
                clear hn hb H7
                refine hK.out _ _ (trivial) (fun hHeld => ?_)
                clear hK K
                (try simp only [Act.put, List.setIfInBounds_toArray, List.set_cons_zero, List.set_cons_succ])
                refine wpAnyH_ready (rs := [5]) (by kernel_rfl) (by simp) ?_
                refine anyH_one rfl (fun K hK => ?_) ?_
                · obtain ⟨r0, r1⟩ := (H8.out.at_ 1 rfl).c2
                  have g0 := (H8.out.at_ 1 rfl).fz 0; have g1 := (H8.out.at_ 1 rfl).fz 1
                  go_simp
                  generalize hq9 : (w8.setCell _ _).setCell _ _ = w9
                  have H9 := Lib.hid ((H8.out.put 1 rfl (turnB2 _ _ _ _) (setB2 (H8.out.at_ 1 rfl) _ _)).world hq9)
                  clear hq9 H8 r0 g0 r1 g1
                  refine hK.out _ _ (trivial) (fun hHeld => ?_)
                  clear hK K
                  (try simp only [Act.put, List.setIfInBounds_toArray, List.set_cons_zero, List.set_cons_succ])
                  refine wpAnyH_done (by kernel_rfl) ?_ _
                  clear hHeld
                  go_upto_region 4 with (go_at_call 38; refine (HK1.out _).mono ?_; rintro e w10 ⟨rfl, hb⟩; have H10 := Lib.hid (H9.out.quiet hb); clear hb H9)
                  generalize hq9 : w10.alloc _ = w11
                  have H11 := Lib.hid ((H10.out.new (b := w10.heap.size) rfl #[.int .i64 p, .int .i64 1, .int .u64 t1] 80).world hq9)
                  clear hq9 H10
                  generalize w10.heap.size = kb at H11 ⊢
                  obtain ⟨a0, a1⟩ := (H11.out.at_ 2 rfl).c2
                  obtain ⟨k0, k1, k2⟩ := (H11.out.at_ 0 rfl).c3
                  go_upto_region 7 with (go_at_call 37; refine (rgetC_any _ _ _ R p 1 t1 l0 l5 l1 l2 l3 l4 H11.out.own HLEN1.out HG.out true HI.out).mono ?_; rintro e w12 ⟨rfl, hb⟩; have H12 := Lib.hid (H11.out.quiet hb); clear hb H11 a0 a1 k0 k1 k2)
                  generalize hq9 : w12.alloc _ = w13
                  have H13 := Lib.hid ((H12.out.new (b := w12.heap.size) rfl #[.int .u64 l0, .bool l1, .bool l2, .bool l3, .bool l4, .int .u8 l5] 71).world hq9)
                  clear hq9 H12
                  generalize w12.heap.size = lb at H13 ⊢
                  go_upto_region 7 with fail
                  go_cut [10] from 33 (fun s10 w9 => ∃ mb : Nat, s10 = .pointer (some ⟨mb, 0, none⟩) ∧ Hid (Dv w w9 (.slice A n c) (.slice A3 n3 c3) M3 [⟨mb, #[.int .u64 m0, .bool m1, .bool m2, .bool m3, .bool m4, .int .u8 m5], 71⟩, ⟨kb, #[.int .i64 p, .int .i64 1, .int .u64 t1], 80⟩, ⟨bc + 1, #[.slice none 0 0, .int .i64 0], 28⟩, ⟨bc, #[.slice A3 n3 c3, .int .i64 R], 28⟩]))
                  case first =>
                    have H14 := Lib.hid (H13.out.quiet (Kept.drew0 w13))
                    clear H13
                    refine wp_region_held_drew (S := fun w' => Blk w' lb #[.int .u64 l0, .bool l1, .bool l2, .bool l3, .bool l4, .int .u8 l5] 71) (by kernel_rfl) (H14.out.at_ 0 rfl) (fun hHeld => ?_)
                    generalize w13.drew = w14 at *
                    refine tk (v := ?_) 0 ?_ ?_
                    rotate_left
                    · intro w hSw
                      obtain ⟨q0, q1, q2, q3, q4, q5⟩ := hSw.c6
                      go_simp
                      (try with_reducible rfl)
                    (try simp only [Act.put, List.setIfInBounds_toArray, List.set_cons_zero, List.set_cons_succ])
                    refine tk (v := ?_) 1 ?_ ?_
                    rotate_left
                    · intro w hSw
                      go_simp
                      (try with_reducible rfl)
                    (try simp only [Act.put, List.setIfInBounds_toArray, List.set_cons_zero, List.set_cons_succ])
                    refine wpAnyH_ready (rs := [2, 4]) (by kernel_rfl) (by simp) ?_
                    refine anyH_one rfl (fun K hK => ?_) ?_
                    · go_simp
                      refine (HPL.out _).mono ?_
                      rintro e _ ⟨rfl, rfl⟩
                      refine hK.out _ _ ((H14.out.at_ 0 rfl)) (fun hHeld => ?_)
                      clear hK K
                      (try simp only [Act.put, List.setIfInBounds_toArray, List.set_cons_zero, List.set_cons_succ])
                      refine wpAnyH_ready (rs := [3, 4]) (by kernel_rfl) (by simp) ?_
                      refine anyH_one rfl (fun K hK => ?_) ?_
                      · go_simp
                        refine (HW.out _).mono ?_
                        rintro e w15 ⟨rfl, hb⟩
                        have H15 := Lib.hid (H14.out.quiet hb)
                        clear hb H14
                        refine hK.out _ _ ((H15.out.at_ 0 rfl)) (fun hHeld => ?_)
                        clear hK K
                        (try simp only [Act.put, List.setIfInBounds_toArray, List.set_cons_zero, List.set_cons_succ])
                        refine wpAnyH_ready (rs := [4]) (by kernel_rfl) (by simp) ?_
                        refine anyH_one rfl (fun K hK => ?_) ?_
                        · go_simp
                          generalize hq9 : w15.alloc _ = w16
                          have H16 := Lib.hid ((H15.out.new (b := w15.heap.size) rfl #[.int .u64 0, .bool false, .bool false, .bool false, .bool false, .int .u8 0] 71).world hq9)
                          clear hq9 H15
                          generalize w15.heap.size = mb at H16 ⊢
                          refine hK.out _ _ ((H16.out.at_ 1 rfl)) (fun hHeld => ?_)
                          clear hK K
                          (try simp only [Act.put, List.setIfInBounds_toArray, List.set_cons_zero, List.set_cons_succ])
                          refine wpAnyH_ready (rs := [5]) (by kernel_rfl) (by simp) ?_
                          refine anyH_one rfl (fun K hK => ?_) ?_
                          · obtain ⟨r0, r1, r2, r3, r4, r5⟩ := (H16.out.at_ 0 rfl).c6
                            have g0 := (H16.out.at_ 0 rfl).fz 0; have g1 := (H16.out.at_ 0 rfl).fz 1; have g2 := (H16.out.at_ 0 rfl).fz 2; have g3 := (H16.out.at_ 0 rfl).fz 3; have g4 := (H16.out.at_ 0 rfl).fz 4; have g5 := (H16.out.at_ 0 rfl).fz 5
                            go_simp
                            generalize hq9 : (((((w16.setCell _ _).setCell _ _).setCell _ _).setCell _ _).setCell _ _).setCell _ _ = w17
                            have H17 := Lib.hid ((H16.out.put 0 rfl (turnB6 _ _ _ _ _ _ _ _) (setB6 (H16.out.at_ 0 rfl) _ _ _ _ _ _)).world hq9)
                            clear hq9 H16 r0 g0 r1 g1 r2 g2 r3 g3 r4 g4 r5 g5
                            refine hK.out _ _ ((H17.out.at_ 1 rfl)) (fun hHeld => ?_)
                            clear hK K
                            (try simp only [Act.put, List.setIfInBounds_toArray, List.set_cons_zero, List.set_cons_succ])
                            refine wpAnyH_done (by kernel_rfl) ?_ _
                            clear hHeld
                            go_wp2
                            go_meet
                            case rel => exact ⟨mb, rfl, H17.out.pick [0, 2, 3, 4]⟩
                          exact AllReadyH.nil
                        exact AllReadyH.nil
                      refine anyH_one rfl (fun K hK => ?_) ?_
                      · go_simp
                        generalize hq9 : w14.alloc _ = w15
                        have H15 := Lib.hid ((H14.out.new (b := w14.heap.size) rfl #[.int .u64 0, .bool false, .bool false, .bool false, .bool false, .int .u8 0] 71).world hq9)
                        clear hq9 H14
                        generalize w14.heap.size = mb at H15 ⊢
                        refine hK.out _ _ ((H15.out.at_ 1 rfl)) (fun hHeld => ?_)
                        clear hK K
                        (try simp only [Act.put, List.setIfInBounds_toArray, List.set_cons_zero, List.set_cons_succ])
                        refine wpAnyH_ready (rs := [3]) (by kernel_rfl) (by simp) ?_
                        refine anyH_one rfl (fun K hK => ?_) ?_
                        · go_simp
                          refine (HW.out _).mono ?_
                          rintro e w16 ⟨rfl, hb⟩
                          have H16 := Lib.hid (H15.out.quiet hb)
                          clear hb H15
                          refine hK.out _ _ ((H16.out.at_ 1 rfl)) (fun hHeld => ?_)
                          clear hK K
                          (try simp only [Act.put, List.setIfInBounds_toArray, List.set_cons_zero, List.set_cons_succ])
                          refine wpAnyH_ready (rs := [5]) (by kernel_rfl) (by simp) ?_
                          refine anyH_one rfl (fun K hK => ?_) ?_
                          · obtain ⟨r0, r1, r2, r3, r4, r5⟩ := (H16.out.at_ 0 rfl).c6
                            have g0 := (H16.out.at_ 0 rfl).fz 0; have g1 := (H16.out.at_ 0 rfl).fz 1; have g2 := (H16.out.at_ 0 rfl).fz 2; have g3 := (H16.out.at_ 0 rfl).fz 3; have g4 := (H16.out.at_ 0 rfl).fz 4; have g5 := (H16.out.at_ 0 rfl).fz 5
                            go_simp
                            generalize hq9 : (((((w16.setCell _ _).setCell _ _).setCell _ _).setCell _ _).setCell _ _).setCell _ _ = w17
                            have H17 := Lib.hid ((H16.out.put 0 rfl (turnB6 _ _ _ _ _ _ _ _) (setB6 (H16.out.at_ 0 rfl) _ _ _ _ _ _)).world hq9)
                            clear hq9 H16 r0 g0 r1 g1 r2 g2 r3 g3 r4 g4 r5 g5
                            refine hK.out _ _ ((H17.out.at_ 1 rfl)) (fun hHeld => ?_)
                            clear hK K
                            (try simp only [Act.put, List.setIfInBounds_toArray, List.set_cons_zero, List.set_cons_succ])
                            refine wpAnyH_done (by kernel_rfl) ?_ _
                            clear hHeld
                            go_wp2
                            go_meet
                            case rel => exact ⟨mb, rfl, H17.out.pick [0, 2, 3, 4]⟩
                          exact AllReadyH.nil
                        exact AllReadyH.nil
                      exact AllReadyH.nil
                    refine anyH_one rfl (fun K hK => ?_) ?_
                    · go_simp
                      generalize hq9 : w14.alloc _ = w15
                      have H15 := Lib.hid ((H14.out.new (b := w14.heap.size) rfl #[.int .u64 0, .bool false, .bool false, .bool false, .bool false, .int .u8 0] 71).world hq9)
                      clear hq9 H14
                      generalize w14.heap.size = mb at H15 ⊢
                      refine hK.out _ _ ((H15.out.at_ 1 rfl)) (fun hHeld => ?_)
                      clear hK K
                      (try simp only [Act.put, List.setIfInBounds_toArray, List.set_cons_zero, List.set_cons_succ])
                      refine wpAnyH_ready (rs := [2]) (by kernel_rfl) (by simp) ?_
                      refine anyH_one rfl (fun K hK => ?_) ?_
                      · go_simp
                        refine (HPL.out _).mono ?_
                        rintro e _ ⟨rfl, rfl⟩
                        refine hK.out _ _ ((H15.out.at_ 1 rfl)) (fun hHeld => ?_)
                        clear hK K
                        (try simp only [Act.put, List.setIfInBounds_toArray, List.set_cons_zero, List.set_cons_succ])
                        refine wpAnyH_ready (rs := [3]) (by kernel_rfl) (by simp) ?_
                        refine anyH_one rfl (fun K hK => ?_) ?_
                        · go_simp
                          refine (HW.out _).mono ?_
                          rintro e w16 ⟨rfl, hb⟩
                          have H16 := Lib.hid (H15.out.quiet hb)
                          clear hb H15
                          refine hK.out _ _ ((H16.out.at_ 1 rfl)) (fun hHeld => ?_)
                          clear hK K
                          (try simp only [Act.put, List.setIfInBounds_toArray, List.set_cons_zero, List.set_cons_succ])
                          refine wpAnyH_ready (rs := [5]) (by kernel_rfl) (by simp) ?_
                          refine anyH_one rfl (fun K hK => ?_) ?_
                          · obtain ⟨r0, r1, r2, r3, r4, r5⟩ := (H16.out.at_ 0 rfl).c6
                            have g0 := (H16.out.at_ 0 rfl).fz 0; have g1 := (H16.out.at_ 0 rfl).fz 1; have g2 := (H16.out.at_ 0 rfl).fz 2; have g3 := (H16.out.at_ 0 rfl).fz 3; have g4 := (H16.out.at_ 0 rfl).fz 4; have g5 := (H16.out.at_ 0 rfl).fz 5
                            go_simp
                            generalize hq9 : (((((w16.setCell _ _).setCell _ _).setCell _ _).setCell _ _).setCell _ _).setCell _ _ = w17
                            have H17 := Lib.hid ((H16.out.put 0 rfl (turnB6 _ _ _ _ _ _ _ _) (setB6 (H16.out.at_ 0 rfl) _ _ _ _ _ _)).world hq9)
                            clear hq9 H16 r0 g0 r1 g1 r2 g2 r3 g3 r4 g4 r5 g5
                            refine hK.out _ _ ((H17.out.at_ 1 rfl)) (fun hHeld => ?_)
                            clear hK K
                            (try simp only [Act.put, List.setIfInBounds_toArray, List.set_cons_zero, List.set_cons_succ])
                            refine wpAnyH_done (by kernel_rfl) ?_ _
                            clear hHeld
                            go_wp2
                            go_meet
                            case rel => exact ⟨mb, rfl, H17.out.pick [0, 2, 3, 4]⟩
                          exact AllReadyH.nil
                        exact AllReadyH.nil
                      exact AllReadyH.nil
                    exact AllReadyH.nil
                  case rest =>
                    obtain ⟨mb, rfl, H40⟩ := hcut
                    generalize wc = w40 at *
                    obtain ⟨q0, q1, q2, q3, q4, q5⟩ := (H40.out.at_ 0 rfl).c6
                    obtain ⟨k0, k1, k2⟩ := (H40.out.at_ 1 rfl).c3
                    obtain ⟨a0, a1⟩ := (H40.out.at_ 3 rfl).c2
                    go_wp2_with (go_at_call 54; refine (rdropU _ _ _ R p 1 t1 H40.out.own HLEN1.out).mono ?_; rintro e w41 ⟨A4, n4, c4, rfl, hn, hb⟩; have H41 := Lib.hid (H40.out.next hn hb); clear hn hb H40 q0 q1 q2 q3 q4 q5 k0 k1 k2 a0 a1; obtain ⟨r0, r1⟩ := (H41.out.at_ 2 rfl).c2; have g0 := (H41.out.at_ 2 rfl).fz 0; have g1 := (H41.out.at_ 2 rfl).fz 1)
                    generalize hq9 : (w41.setCell _ _).setCell _ _ = w42
                    have H42 := Lib.hid ((H41.out.put 2 rfl (turnB2 _ _ _ _) (setB2 (H41.out.at_ 2 rfl) _ _)).world hq9)
                    clear hq9 H41 r0 g0 r1 g1
                    refine bodyPost_ret (results_cell_row rfl _ _ (bc + 1) _ _ _ _ rfl (H42.out.at_ 2 rfl) Tryd.underlying28 rfl rfl) rfl ⟨_, _, _, rfl, H42.out.p, by first | exact H42.out.below | (rw [← HBC.out]; exact H42.out.below)⟩
                exact AllReadyH.nil
              exact AllReadyH.nil
            exact AllReadyH.nil
          exact AllReadyH.nil
        exact AllReadyH.nil
      exact AllReadyH.nil
    exact AllReadyH.nil
  refine anyH_one rfl (fun K hK => ?_) ?_
  · go_simp
    refine (HK2.out _).mono ?_
    rintro e w3 ⟨rfl, hb⟩
    have H3 := Lib.hid (H2.out.quiet hb)
    clear hb H2
    refine hK.out _ _ (trivial) (fun hHeld => ?_)
    clear hK K
    (try simp only [Act.put, List.setIfInBounds_toArray, List.set_cons_zero, List.set_cons_succ])
    refine wpAnyH_ready (rs := [0]) (by kernel_rfl) (by simp) ?_
    refine anyH_one rfl (fun K hK => ?_) ?_
    · obtain ⟨a0, a1⟩ := (H3.out.at_ 1 rfl).c2
      go_simp
      clear a0 a1
      refine hK.out _ _ (trivial) (fun hHeld => ?_)
      clear hK K
      (try simp only [Act.put, List.setIfInBounds_toArray, List.set_cons_zero, List.set_cons_succ])
      refine wpAnyH_ready (rs := [4]) (by kernel_rfl) (by simp) ?_
      refine anyH_one rfl (fun K hK => ?_) ?_
      · go_simp
        refine (rdropU _ _ (M) R p 2 t2 H3.out.own (by exact HLEN2.out)).mono ?_
        rw [HM2.out]
        rintro e w4 ⟨A2, n2, c2, rfl, hn, hb⟩
        have H4 := Lib.hid (H3.out.next hn hb)
        clear hn hb H3
        refine hK.out _ _ (trivial) (fun hHeld => ?_)
        clear hK K
        (try simp only [Act.put, List.setIfInBounds_toArray, List.set_cons_zero, List.set_cons_succ])
        refine wpAnyH_ready (rs := [5]) (by kernel_rfl) (by simp) ?_
        refine anyH_one rfl (fun K hK => ?_) ?_
        · obtain ⟨r0, r1⟩ := (H4.out.at_ 1 rfl).c2
          have g0 := (H4.out.at_ 1 rfl).fz 0; have g1 := (H4.out.at_ 1 rfl).fz 1
          go_simp
          generalize hq9 : (w4.setCell _ _).setCell _ _ = w5
          have H5 := Lib.hid ((H4.out.put 1 rfl (turnB2 _ _ _ _) (setB2 (H4.out.at_ 1 rfl) _ _)).world hq9)
          clear hq9 H4 r0 g0 r1 g1
          refine hK.out _ _ (trivial) (fun hHeld => ?_)
          clear hK K
          (try simp only [Act.put, List.setIfInBounds_toArray, List.set_cons_zero, List.set_cons_succ])
          refine wpAnyH_done (by kernel_rfl) ?_ _
          clear hHeld
          go_upto_region 2 with fail
          have H6 := Lib.hid (H5.out.quiet (Kept.drew0 w5))
          clear H5
          refine wp_region_held_drew (S := fun _ => True) (by kernel_rfl) trivial (fun hHeld => ?_)
          generalize w5.drew = w6 at *
          refine tk (v := ?_) 1 ?_ ?_
          rotate_left
          · intro w hSw
            go_simp
            (try with_reducible rfl)
          (try simp only [Act.put, List.setIfInBounds_toArray, List.set_cons_zero, List.set_cons_succ])
          refine tk (v := ?_) 2 ?_ ?_
          rotate_left
          · intro w hSw
            go_simp
            (try with_reducible rfl)
          (try simp only [Act.put, List.setIfInBounds_toArray, List.set_cons_zero, List.set_cons_succ])
          refine wpAnyH_ready (rs := [0, 3]) (by kernel_rfl) (by simp) ?_
          refine anyH_one rfl (fun K hK => ?_) ?_
          · obtain ⟨a0, a1⟩ := (H6.out.at_ 1 rfl).c2
            go_simp
            clear a0 a1
            refine hK.out _ _ (trivial) (fun hHeld => ?_)
            clear hK K
            (try simp only [Act.put, List.setIfInBounds_toArray, List.set_cons_zero, List.set_cons_succ])
            refine wpAnyH_ready (rs := [3]) (by kernel_rfl) (by simp) ?_
            refine anyH_one rfl (fun K hK => ?_) ?_
            · go_simp
              refine (HK3.out _).mono ?_
              rintro e w7 ⟨rfl, hb⟩
              have H7 := Lib.hid (H6.out.quiet hb)
              clear hb H6
              refine hK.out _ _ (trivial) (fun hHeld => ?_)
              clear hK K
              (try simp only [Act.put, List.setIfInBounds_toArray, List.set_cons_zero, List.set_cons_succ])
              refine wpAnyH_ready (rs := [4]) (by kernel_rfl) (by simp) ?_
              refine anyH_one rfl (fun K hK => ?_) ?_
              · go_simp
                refine (rdropU _ _ (M2) R p 3 t3 H7.out.own (by exact HLEN3.out)).mono ?_
                rw [HM3.out]
                rintro e w8 ⟨A3, n3, c3, rfl, hn, hb⟩
                have H8 := Lib.hid (H7.out.next hn hb)
                clear hn hb H7
                refine hK.out _ _ (trivial) (fun hHeld => ?_)
                clear hK K
                (try simp only [Act.put, List.setIfInBounds_toArray, List.set_cons_zero, List.set_cons_succ])
                refine wpAnyH_ready (rs := [5]) (by kernel_rfl) (by simp) ?_
                refine anyH_one rfl (fun K hK => ?_) ?_
                · obtain ⟨r0, r1⟩ := (H8.out.at_ 1 rfl).c2
                  have g0 := (H8.out.at_ 1 rfl).fz 0; have g1 := (H8.out.at_ 1 rfl).fz 1
                  go_simp
                  generalize hq9 : (w8.setCell _ _).setCell _ _ = w9
                  have H9 := Lib.hid ((H8.out.put 1 rfl (turnB2 _ _ _ _) (setB2 (H8.out.at_ 1 rfl) _ _)).world hq9)
                  clear hq9 H8 r0 g0 r1 g1
                  refine hK.out _ _ (trivial) (fun hHeld => ?_)
                  clear hK K
                  (try simp only [Act.put, List.setIfInBounds_toArray, List.set_cons_zero, List.set_cons_succ])
                  refine wpAnyH_done (by kernel_rfl) ?_ _
                  clear hHeld
                  go_upto_region 4 with (go_at_call 38; refine (HK1.out _).mono ?_; rintro e w10 ⟨rfl, hb⟩; have H10 := Lib.hid (H9.out.quiet hb); clear hb H9)
                  generalize hq9 : w10.alloc _ = w11
                  have H11 := Lib.hid ((H10.out.new (b := w10.heap.size) rfl #[.int .i64 p, .int .i64 1, .int .u64 t1] 80).world hq9)
                  clear hq9 H10
                  generalize w10.heap.size = kb at H11 ⊢
                  obtain ⟨a0, a1⟩ := (H11.out.at_ 2 rfl).c2
                  obtain ⟨k0, k1, k2⟩ := (H11.out.at_ 0 rfl).c3
                  go_upto_region 7 with (go_at_call 37; refine (rgetC_any _ _ _ R p 1 t1 l0 l5 l1 l2 l3 l4 H11.out.own HLEN1.out HG.out true HI.out).mono ?_; rintro e w12 ⟨rfl, hb⟩; have H12 := Lib.hid (H11.out.quiet hb); clear hb H11 a0 a1 k0 k1 k2)
                  generalize hq9 : w12.alloc _ = w13
                  have H13 := Lib.hid ((H12.out.new (b := w12.heap.size) rfl #[.int .u64 l0, .bool l1, .bool l2, .bool l3, .bool l4, .int .u8 l5] 71).world hq9)
                  clear hq9 H12
                  generalize w12.heap.size = lb at H13 ⊢
                  go_upto_region 7 with fail
                  go_cut [10] from 33 (fun s10 w9 => ∃ mb : Nat, s10 = .pointer (some ⟨mb, 0, none⟩) ∧ Hid (Dv w w9 (.slice A n c) (.slice A3 n3 c3) M3 [⟨mb, #[.int .u64 m0, .bool m1, .bool m2, .bool m3, .bool m4, .int .u8 m5], 71⟩, ⟨kb, #[.int .i64 p, .int .i64 1, .int .u64 t1], 80⟩, ⟨bc + 1, #[.slice none 0 0, .int .i64 0], 28⟩, ⟨bc, #[.slice A3 n3 c3, .int .i64 R], 28⟩]))
                  case first =>
                    have H14 := Lib.hid (H13.out.quiet (Kept.drew0 w13))
                    clear H13
                    refine wp_region_held_drew (S := fun w' => Blk w' lb #[.int .u64 l0, .bool l1, .bool l2, .bool l3, .bool l4, .int .u8 l5] 71) (by kernel_rfl) (H14.out.at_ 0 rfl) (fun hHeld => ?_)
                    generalize w13.drew = w14 at *
                    refine tk (v := ?_) 0 ?_ ?_
                    rotate_left
                    · intro w hSw
                      obtain ⟨q0, q1, q2, q3, q4, q5⟩ := hSw.c6
                      go_simp
                      (try with_reducible rfl)
                    (try simp only [Act.put, List.setIfInBounds_toArray, List.set_cons_zero, List.set_cons_succ])
                    refine tk (v := ?_) 1 ?_ ?_
                    rotate_left
                    · intro w hSw
                      go_simp
                      (try with_reducible rfl)
                    (try simp only [Act.put, List.setIfInBounds_toArray, List.set_cons_zero, List.set_cons_succ])
                    refine wpAnyH_ready (rs := [2, 4]) (by kernel_rfl) (by simp) ?_
                    refine anyH_one rfl (fun K hK => ?_) ?_
                    · go_simp
                      refine (HPL.out _).mono ?_
                      rintro e _ ⟨rfl, rfl⟩
                      refine hK.out _ _ ((H14.out.at_ 0 rfl)) (fun hHeld => ?_)
                      clear hK K
                      (try simp only [Act.put, List.setIfInBounds_toArray, List.set_cons_zero, List.set_cons_succ])
                      refine wpAnyH_ready (rs := [3, 4]) (by kernel_rfl) (by simp) ?_
                      refine anyH_one rfl (fun K hK => ?_) ?_
                      · go_simp
                        refine (HW.out _).mono ?_
                        rintro e w15 ⟨rfl, hb⟩
                        have H15 := Lib.hid (H14.out.quiet hb)
                        clear hb H14
                        refine hK.out _ _ ((H15.out.at_ 0 rfl)) (fun hHeld => ?_)
                        clear hK K
                        (try simp only [Act.put, List.setIfInBounds_toArray, List.set_cons_zero, List.set_cons_succ])
                        refine wpAnyH_ready (rs := [4]) (by kernel_rfl) (by simp) ?_
                        refine anyH_one rfl (fun K hK => ?_) ?_
                        · go_simp
                          generalize hq9 : w15.alloc _ = w16
                          have H16 := Lib.hid ((H15.out.new (b := w15.heap.size) rfl #[.int .u64 0, .bool false, .bool false, .bool false, .bool false, .int .u8 0] 71).world hq9)
                          clear hq9 H15
                          generalize w15.heap.size = mb at H16 ⊢
                          refine hK.out _ _ ((H16.out.at_ 1 rfl)) (fun hHeld => ?_)
                          clear hK K
                          (try simp only [Act.put, List.setIfInBounds_toArray, List.set_cons_zero, List.set_cons_succ])
                          refine wpAnyH_ready (rs := [5]) (by kernel_rfl) (by simp) ?_
                          refine anyH_one rfl (fun K hK => ?_) ?_
                          · obtain ⟨r0, r1, r2, r3, r4, r5⟩ := (H16.out.at_ 0 rfl).c6
                            have g0 := (H16.out.at_ 0 rfl).fz 0; have g1 := (H16.out.at_ 0 rfl).fz 1; have g2 := (H16.out.at_ 0 rfl).fz 2; have g3 := (H16.out.at_ 0 rfl).fz 3; have g4 := (H16.out.at_ 0 rfl).fz 4; have g5 := (H16.out.at_ 0 rfl).fz 5
                            go_simp
                            generalize hq9 : (((((w16.setCell _ _).setCell _ _).setCell _ _).setCell _ _).setCell _ _).setCell _ _ = w17
                            have H17 := Lib.hid ((H16.out.put 0 rfl (turnB6 _ _ _ _ _ _ _ _) (setB6 (H16.out.at_ 0 rfl) _ _ _ _ _ _)).world hq9)
                            clear hq9 H16 r0 g0 r1 g1 r2 g2 r3 g3 r4 g4 r5 g5
                            refine hK.out _ _ ((H17.out.at_ 1 rfl)) (fun hHeld => ?_)
                            clear hK K
                            (try simp only [Act.put, List.setIfInBounds_toArray, List.set_cons_zero, List.set_cons_succ])
                            refine wpAnyH_done (by kernel_rfl) ?_ _
                            clear hHeld
                            go_wp2
                            go_meet
                            case rel => exact ⟨mb, rfl, H17.out.pick [0, 2, 3, 4]⟩
                          exact AllReadyH.nil
                        exact AllReadyH.nil
                      refine anyH_one rfl (fun K hK => ?_) ?_
                      · go_simp
                        generalize hq9 : w14.alloc _ = w15
                        have H15 := Lib.hid ((H14.out.new (b := w14.heap.size) rfl #[.int .u64 0, .bool false, .bool false, .bool false, .bool false, .int .u8 0] 71).world hq9)
                        clear hq9 H14
                        generalize w14.heap.size = mb at H15 ⊢
                        refine hK.out _ _ ((H15.out.at_ 1 rfl)) (fun hHeld => ?_)
                        clear hK K
                        (try simp only [Act.put, List.setIfInBounds_toArray, List.set_cons_zero, List.set_cons_succ])
                        refine wpAnyH_ready (rs := [3]) (by kernel_rfl) (by simp) ?_
                        refine anyH_one rfl (fun K hK => ?_) ?_
                        · go_simp
                          refine (HW.out _).mono ?_
                          rintro e w16 ⟨rfl, hb⟩
                          have H16 := Lib.hid (H15.out.quiet hb)
                          clear hb H15
                          refine hK.out _ _ ((H16.out.at_ 1 rfl)) (fun hHeld => ?_)
                          clear hK K
                          (try simp only [Act.put, List.setIfInBounds_toArray, List.set_cons_zero, List.set_cons_succ])
                          refine wpAnyH_ready (rs := [5]) (by kernel_rfl) (by simp) ?_
                          refine anyH_one rfl (fun K hK => ?_) ?_
                          · obtain ⟨r0, r1, r2, r3, r4, r5⟩ := (H16.out.at_ 0 rfl).c6
                            have g0 := (H16.out.at_ 0 rfl).fz 0; have g1 := (H16.out.at_ 0 rfl).fz 1; have g2 := (H16.out.at_ 0 rfl).fz 2; have g3 := (H16.out.at_ 0 rfl).fz 3; have g4 := (H16.out.at_ 0 rfl).fz 4; have g5 := (H16.out.at_ 0 rfl).fz 5
                            go_simp
                            generalize hq9 : (((((w16.setCell _ _).setCell _ _).setCell _ _).setCell _ _).setCell _ _).setCell _ _ = w17
                            have H17 := Lib.hid ((H16.out.put 0 rfl (turnB6 _ _ _ _ _ _ _ _) (setB6 (H16.out.at_ 0 rfl) _ _ _ _ _ _)).world hq9)
                            clear hq9 H16 r0 g0 r1 g1 r2 g2 r3 g3 r4 g4 r5 g5
                            refine hK.out _ _ ((H17.out.at_ 1 rfl)) (fun hHeld => ?_)
                            clear hK K
                            (try simp only [Act.put, List.setIfInBounds_toArray, List.set_cons_zero, List.set_cons_succ])
                            refine wpAnyH_done (by kernel_rfl) ?_ _
                            clear hHeld
                            go_wp2
                            go_meet
                            case rel => exact ⟨mb, rfl, H17.out.pick [0, 2, 3, 4]⟩
                          exact AllReadyH.nil
                        exact AllReadyH.nil
                      exact AllReadyH.nil
                    refine anyH_one rfl (fun K hK => ?_) ?_
                    · go_simp
                      generalize hq9 : w14.alloc _ = w15
                      have H15 := Lib.hid ((H14.out.new (b := w14.heap.size) rfl #[.int .u64 0, .bool false, .bool false, .bool false, .bool false, .int .u8 0] 71).world hq9)
                      clear hq9 H14
                      generalize w14.heap.size = mb at H15 ⊢
                      refine hK.out _ _ ((H15.out.at_ 1 rfl)) (fun hHeld => ?_)
                      clear hK K
                      (try simp only [Act.put, List.setIfInBounds_toArray, List.set_cons_zero, List.set_cons_succ])
                      refine wpAnyH_ready (rs := [2]) (by kernel_rfl) (by simp) ?_
                      refine anyH_one rfl (fun K hK => ?_) ?_
                      · go_simp
                        refine (HPL.out _).mono ?_
                        rintro e _ ⟨rfl, rfl⟩
                        refine hK.out _ _ ((H15.out.at_ 1 rfl)) (fun hHeld => ?_)
                        clear hK K
                        (try simp only [Act.put, List.setIfInBounds_toArray, List.set_cons_zero, List.set_cons_succ])
                        refine wpAnyH_ready (rs := [3]) (by kernel_rfl) (by simp) ?_
                        refine anyH_one rfl (fun K hK => ?_) ?_
                        · go_simp
                          refine (HW.out _).mono ?_
                          rintro e w16 ⟨rfl, hb⟩
                          have H16 := Lib.hid (H15.out.quiet hb)
                          clear hb H15
                          refine hK.out _ _ ((H16.out.at_ 1 rfl)) (fun hHeld => ?_)
                          clear hK K
                          (try simp only [Act.put, List.setIfInBounds_toArray, List.set_cons_zero, List.set_cons_succ])
                          refine wpAnyH_ready (rs := [5]) (by kernel_rfl) (by simp) ?_
                          refine anyH_one rfl (fun K hK => ?_) ?_
                          · obtain ⟨r0, r1, r2, r3, r4, r5⟩ := (H16.out.at_ 0 rfl).c6
                            have g0 := (H16.out.at_ 0 rfl).fz 0; have g1 := (H16.out.at_ 0 rfl).fz 1; have g2 := (H16.out.at_ 0 rfl).fz 2; have g3 := (H16.out.at_ 0 rfl).fz 3; have g4 := (H16.out.at_ 0 rfl).fz 4; have g5 := (H16.out.at_ 0 rfl).fz 5
                            go_simp
                            generalize hq9 : (((((w16.setCell _ _).setCell _ _).setCell _ _).setCell _ _).setCell _ _).setCell _ _ = w17
                            have H17 := Lib.hid ((H16.out.put 0 rfl (turnB6 _ _ _ _ _ _ _ _) (setB6 (H16.out.at_ 0 rfl) _ _ _ _ _ _)).world hq9)
                            clear hq9 H16 r0 g0 r1 g1 r2 g2 r3 g3 r4 g4 r5 g5
                            refine hK.out _ _ ((H17.out.at_ 1 rfl)) (fun hHeld => ?_)
                            clear hK K
                            (try simp only [Act.put, List.setIfInBounds_toArray, List.set_cons_zero, List.set_cons_succ])
                            refine wpAnyH_done (by kernel_rfl) ?_ _
                            clear hHeld
                            go_wp2
                            go_meet
                            case rel => exact ⟨mb, rfl, H17.out.pick [0, 2, 3, 4]⟩
                          exact AllReadyH.nil
                        exact AllReadyH.nil
                      exact AllReadyH.nil
                    exact AllReadyH.nil
                  case rest =>
                    obtain ⟨mb, rfl, H40⟩ := hcut
                    generalize wc = w40 at *
                    obtain ⟨q0, q1, q2, q3, q4, q5⟩ := (H40.out.at_ 0 rfl).c6
                    obtain ⟨k0, k1, k2⟩ := (H40.out.at_ 1 rfl).c3
                    obtain ⟨a0, a1⟩ := (H40.out.at_ 3 rfl).c2
                    go_wp2_with (go_at_call 54; refine (rdropU _ _ _ R p 1 t1 H40.out.own HLEN1.out).mono ?_; rintro e w41 ⟨A4, n4, c4, rfl, hn, hb⟩; have H41 := Lib.hid (H40.out.next hn hb); clear hn hb H40 q0 q1 q2 q3 q4 q5 k0 k1 k2 a0 a1; obtain ⟨r0, r1⟩ := (H41.out.at_ 2 rfl).c2; have g0 := (H41.out.at_ 2 rfl).fz 0; have g1 := (H41.out.at_ 2 rfl).fz 1)
                    generalize hq9 : (w41.setCell _ _).setCell _ _ = w42
                    have H42 := Lib.hid ((H41.out.put 2 rfl (turnB2 _ _ _ _) (setB2 (H41.out.at_ 2 rfl) _ _)).world hq9)
                    clear hq9 H41 r0 g0 r1 g1
                    refine bodyPost_ret (results_cell_row rfl _ _ (bc + 1) _ _ _ _ rfl (H42.out.at_ 2 rfl) Tryd.underlying28 rfl rfl) rfl ⟨_, _, _, rfl, H42.out.p, by first | exact H42.out.below | (rw [← HBC.out]; exact H42.out.below)⟩
                exact AllReadyH.nil
              exact AllReadyH.nil
            exact AllReadyH.nil
          refine anyH_one rfl (fun K hK => ?_) ?_
          · go_simp
            refine (HK3.out _).mono ?_
            rintro e w7 ⟨rfl, hb⟩
            have H7 := Lib.hid (H6.out.quiet hb)
            clear hb H6
            refine hK.out _ _ (trivial) (fun hHeld => ?_)
            clear hK K
            (try simp only [Act.put, List.setIfInBounds_toArray, List.set_cons_zero, List.set_cons_succ])
            refine wpAnyH_ready (rs := [0]) (by kernel_rfl) (by simp) ?_
            refine anyH_one rfl (fun K hK => ?_) ?_
            · obtain ⟨a0, a1⟩ := (H7.out.at_ 1 rfl).c2
              go_simp
              clear a0 a1
              refine hK.out _ _ (trivial) (fun hHeld => ?_)
              clear hK K
              (try simp only [Act.put, List.setIfInBounds_toArray, List.set_cons_zero, List.set_cons_succ])
              refine wpAnyH_ready (rs := [4]) (by kernel_rfl) (by simp) ?_
              refine anyH_one rfl (fun K hK => ?_) ?_
              · go_simp
                refine (rdropU _ _ (M2) R p 3 t3 H7.out.own (by exact HLEN3.out)).mono ?_
                rw [HM3.out]
                rintro e w8 ⟨A3, n3, c3, rfl, hn, hb⟩
                have H8 := Lib.hid (H7.out.next hn hb)
                clear hn hb H7
                refine hK.out _ _ (trivial) (fun hHeld => ?_)
                clear hK K
                (try simp only [Act.put, List.setIfInBounds_toArray, List.set_cons_zero, List.set_cons_succ])
                refine wpAnyH_ready (rs := [5]) (by kernel_rfl) (by simp) ?_
                refine anyH_one rfl (fun K hK => ?_) ?_
                · obtain ⟨r0, r1⟩ := (H8.out.at_ 1 rfl).c2
                  have g0 := (H8.out.at_ 1 rfl).fz 0; have g1 := (H8.out.at_ 1 rfl).fz 1
                  go_simp
                  generalize hq9 : (w8.setCell _ _).setCell _ _ = w9
                  have H9 := Lib.hid ((H8.out.put 1 rfl (turnB2 _ _ _ _) (setB2 (H8.out.at_ 1 rfl) _ _)).world hq9)
                  clear hq9 H8 r0 g0 r1 g1
                  refine hK.out _ _ (trivial) (fun hHeld => ?_)
                  clear hK K
                  (try simp only [Act.put, List.setIfInBounds_toArray, List.set_cons_zero, List.set_cons_succ])
                  refine wpAnyH_done (by kernel_rfl) ?_ _
                  clear hHeld
                  go_upto_region 4 with (go_at_call 38; refine (HK1.out _).mono ?_; rintro e w10 ⟨rfl, hb⟩; have H10 := Lib.hid (H9.out.quiet hb); clear hb H9)
                  generalize hq9 : w10.alloc _ = w11
                  have H11 := Lib.hid ((H10.out.new (b := w10.heap.size) rfl #[.int .i64 p, .int .i64 1, .int .u64 t1] 80).world hq9)
                  clear hq9 H10
                  generalize w10.heap.size = kb at H11 ⊢
                  obtain ⟨a0, a1⟩ := (H11.out.at_ 2 rfl).c2
                  obtain ⟨k0, k1, k2⟩ := (H11.out.at_ 0 rfl).c3
                  go_upto_region 7 with (go_at_call 37; refine (rgetC_any _ _ _ R p 1 t1 l0 l5 l1 l2 l3 l4 H11.out.own HLEN1.out HG.out true HI.out).mono ?_; rintro e w12 ⟨rfl, hb⟩; have H12 := Lib.hid (H11.out.quiet hb); clear hb H11 a0 a1 k0 k1 k2)
                  generalize hq9 : w12.alloc _ = w13
                  have H13 := Lib.hid ((H12.out.new (b := w12.heap.size) rfl #[.int .u64 l0, .bool l1, .bool l2, .bool l3, .bool l4, .int .u8 l5] 71).world hq9)
                  clear hq9 H12
                  generalize w12.heap.size = lb at H13 ⊢
                  go_upto_region 7 with fail
                  go_cut [10] from 33 (fun s10 w9 => ∃ mb : Nat, s10 = .pointer (some ⟨mb, 0, none⟩) ∧ Hid (Dv w w9 (.slice A n c) (.slice A3 n3 c3) M3 [⟨mb, #[.int .u64 m0, .bool m1, .bool m2, .bool m3, .bool m4, .int .u8 m5], 71⟩, ⟨kb, #[.int .i64 p, .int .i64 1, .int .u64 t1], 80⟩, ⟨bc + 1, #[.slice none 0 0, .int .i64 0], 28⟩, ⟨bc, #[.slice A3 n3 c3, .int .i64 R], 28⟩]))
                  case first =>
                    have H14 := Lib.hid (H13.out.quiet (Kept.drew0 w13))
                    clear H13
                    refine wp_region_held_drew (S := fun w' => Blk w' lb #[.int .u64 l0, .bool l1, .bool l2, .bool l3, .bool l4, .int .u8 l5] 71) (by kernel_rfl) (H14.out.at_ 0 rfl) (fun hHeld => ?_)
                    generalize w13.drew = w14 at *
                    refine tk (v := ?_) 0 ?_ ?_
                    rotate_left
                    · intro w hSw
                      obtain ⟨q0, q1, q2, q3, q4, q5⟩ := hSw.c6
                      go_simp
                      (try with_reducible rfl)
                    (try simp only [Act.put, List.setIfInBounds_toArray, List.set_cons_zero, List.set_cons_succ])
                    refine tk (v := ?_) 1 ?_ ?_
                    rotate_left
                    · intro w hSw
                      go_simp
                      (try with_reducible rfl)
                    (try simp only [Act.put, List.setIfInBounds_toArray, List.set_cons_zero, List.set_cons_succ])
                    refine wpAnyH_ready (rs := [2, 4]) (by kernel_rfl) (by simp) ?_
                    refine anyH_one rfl (fun K hK => ?_) ?_
                    · go_simp
                      refine (HPL.out _).mono ?_
                      rintro e _ ⟨rfl, rfl⟩
                      refine hK.out _ _ ((H14.out.at_ 0 rfl)) (fun hHeld => ?_)
                      clear hK K
                      (try simp only [Act.put, List.setIfInBounds_toArray, List.set_cons_zero, List.set_cons_succ])
                      refine wpAnyH_ready (rs := [3, 4]) (by kernel_rfl) (by simp) ?_
                      refine anyH_one rfl (fun K hK => ?_) ?_
                      · go_simp
                        refine (HW.out _).mono ?_
                        rintro e w15 ⟨rfl, hb⟩
                        have H15 := Lib.hid (H14.out.quiet hb)
                        clear hb H14
                        refine hK.out _ _ ((H15.out.at_ 0 rfl)) (fun hHeld => ?_)
                        clear hK K
                        (try simp only [Act.put, List.setIfInBounds_toArray, List.set_cons_zero, List.set_cons_succ])
                        refine wpAnyH_ready (rs := [4]) (by kernel_rfl) (by simp) ?_
                        refine anyH_one rfl (fun K hK => ?_) ?_
                        · go_simp
                          generalize hq9 : w15.alloc _ = w16
                          have H16 := Lib.hid ((H15.out.new (b := w15.heap.size) rfl #[.int .u64 0, .bool false, .bool false, .bool false, .bool false, .int .u8 0] 71).world hq9)
                          clear hq9 H15
                          generalize w15.heap.size = mb at H16 ⊢
                          refine hK.out _ _ ((H16.out.at_ 1 rfl)) (fun hHeld => ?_)
                          clear hK K
                          (try simp only [Act.put, List.setIfInBounds_toArray, List.set_cons_zero, List.set_cons_succ])
                          refine wpAnyH_ready (rs := [5]) (by kernel_rfl) (by simp) ?_
                          refine anyH_one rfl (fun K hK => ?_) ?_
                          · obtain ⟨r0, r1, r2, r3, r4, r5⟩ := (H16.out.at_ 0 rfl).c6
                            have g0 := (H16.out.at_ 0 rfl).fz 0; have g1 := (H16.out.at_ 0 rfl).fz 1; have g2 := (H16.out.at_ 0 rfl).fz 2; have g3 := (H16.out.at_ 0 rfl).fz 3; have g4 := (H16.out.at_ 0 rfl).fz 4; have g5 := (H16.out.at_ 0 rfl).fz 5
                            go_simp
                            generalize hq9 : (((((w16.setCell _ _).setCell _ _).setCell _ _).setCell _ _).setCell _ _).setCell _ _ = w17
                            have H17 := Lib.hid ((H16.out.put 0 rfl (turnB6 _ _ _ _ _ _ _ _) (setB6 (H16.out.at_ 0 rfl) _ _ _ _ _ _)).world hq9)
                            clear hq9 H16 r0 g0 r1 g1 r2 g2 r3 g3 r4 g4 r5 g5
                            refine hK.out _ _ ((H17.out.at_ 1 rfl)) (fun hHeld => ?_)
                            clear hK K
                            (try simp only [Act.put, List.setIfInBounds_toArray, List.set_cons_zero, List.set_cons_succ])
                            refine wpAnyH_done (by kernel_rfl) ?_ _
                            clear hHeld
                            go_wp2
                            go_meet
                            case rel => exact ⟨mb, rfl, H17.out.pick [0, 2, 3, 4]⟩
                          exact AllReadyH.nil
                        exact AllReadyH.nil
                      refine anyH_one rfl (fun K hK => ?_) ?_
                      · go_simp
                        generalize hq9 : w14.alloc _ = w15
                        have H15 := Lib.hid ((H14.out.new (b := w14.heap.size) rfl #[.int .u64 0, .bool false, .bool false, .bool false, .bool false, .int .u8 0] 71).world hq9)
                        clear hq9 H14
                        generalize w14.heap.size = mb at H15 ⊢
                        refine hK.out _ _ ((H15.out.at_ 1 rfl)) (fun hHeld => ?_)
                        clear hK K
                        (try simp only [Act.put, List.setIfInBounds_toArray, List.set_cons_zero, List.set_cons_succ])
                        refine wpAnyH_ready (rs := [3]) (by kernel_rfl) (by simp) ?_
                        refine anyH_one rfl (fun K hK => ?_) ?_
                        · go_simp
                          refine (HW.out _).mono ?_
                          rintro e w16 ⟨rfl, hb⟩
                          have H16 := Lib.hid (H15.out.quiet hb)
                          clear hb H15
                          refine hK.out _ _ ((H16.out.at_ 1 rfl)) (fun hHeld => ?_)
                          clear hK K
                          (try simp only [Act.put, List.setIfInBounds_toArray, List.set_cons_zero, List.set_cons_succ])
                          refine wpAnyH_ready (rs := [5]) (by kernel_rfl) (by simp) ?_
                          refine anyH_one rfl (fun K hK => ?_) ?_
                          · obtain ⟨r0, r1, r2, r3, r4, r5⟩ := (H16.out.at_ 0 rfl).c6
                            have g0 := (H16.out.at_ 0 rfl).fz 0; have g1 := (H16.out.at_ 0 rfl).fz 1; have g2 := (H16.out.at_ 0 rfl).fz 2; have g3 := (H16.out.at_ 0 rfl).fz 3; have g4 := (H16.out.at_ 0 rfl).fz 4; have g5 := (H16.out.at_ 0 rfl).fz 5
                            go_simp
                            generalize hq9 : (((((w16.setCell _ _).setCell _ _).setCell _ _).setCell _ _).setCell _ _).setCell _ _ = w17
                            have H17 := Lib.hid ((H16.out.put 0 rfl (turnB6 _ _ _ _ _ _ _ _) (setB6 (H16.out.at_ 0 rfl) _ _ _ _ _ _)).world hq9)
                            clear hq9 H16 r0 g0 r1 g1 r2 g2 r3 g3 r4 g4 r5 g5
                            refine hK.out _ _ ((H17.out.at_ 1 rfl)) (fun hHeld => ?_)
                            clear hK K
                            (try simp only [Act.put, List.setIfInBounds_toArray, List.set_cons_zero, List.set_cons_succ])
                            refine wpAnyH_done (by kernel_rfl) ?_ _
                            clear hHeld
                            go_wp2
                            go_meet
                            case rel => exact ⟨mb, rfl, H17.out.pick [0, 2, 3, 4]⟩
                          exact AllReadyH.nil
                        exact AllReadyH.nil
                      exact AllReadyH.nil
                    refine anyH_one rfl (fun K hK => ?_) ?_
                    · go_simp
                      generalize hq9 : w14.alloc _ = w15
                      have H15 := Lib.hid ((H14.out.new (b := w14.heap.size) rfl #[.int .u64 0, .bool false, .bool false, .bool false, .bool false, .int .u8 0] 71).world hq9)
                      clear hq9 H14
                      generalize w14.heap.size = mb at H15 ⊢
                      refine hK.out _ _ ((H15.out.at_ 1 rfl)) (fun hHeld => ?_)
                      clear hK K
                      (try simp only [Act.put, List.setIfInBounds_toArray, List.set_cons_zero, List.set_cons_succ])
                      refine wpAnyH_ready (rs := [2]) (by kernel_rfl) (by simp) ?_
                      refine anyH_one rfl (fun K hK => ?_) ?_
                      · go_simp
                        refine (HPL.out _).mono ?_
                        rintro e _ ⟨rfl, rfl⟩
                        refine hK.out _ _ ((H15.out.at_ 1 rfl)) (fun hHeld => ?_)
                        clear hK K
                        (try simp only [Act.put, List.setIfInBounds_toArray, List.set_cons_zero, List.set_cons_succ])
                        refine wpAnyH_ready (rs := [3]) (by kernel_rfl) (by simp) ?_
                        refine anyH_one rfl (fun K hK => ?_) ?_
                        · go_simp
                          refine (HW.out _).mono ?_
                          rintro e w16 ⟨rfl, hb⟩
                          have H16 := Lib.hid (H15.out.quiet hb)
                          clear hb H15
                          refine hK.out _ _ ((H16.out.at_ 1 rfl)) (fun hHeld => ?_)
                          clear hK K
                          (try simp only [Act.put, List.setIfInBounds_toArray, List.set_cons_zero, List.set_cons_succ])
                          refine wpAnyH_ready (rs := [5]) (by kernel_rfl) (by simp) ?_
                          refine anyH_one rfl (fun K hK => ?_) ?_
                          · obtain ⟨r0, r1, r2, r3, r4, r5⟩ := (H16.out.at_ 0 rfl).c6
                            have g0 := (H16.out.at_ 0 rfl).fz 0; have g1 := (H16.out.at_ 0 rfl).fz 1; have g2 := (H16.out.at_ 0 rfl).fz 2; have g3 := (H16.out.at_ 0 rfl).fz 3; have g4 := (H16.out.at_ 0 rfl).fz 4; have g5 := (H16.out.at_ 0 rfl).fz 5
                            go_simp
                            generalize hq9 : (((((w16.setCell _ _).setCell _ _).setCell _ _).setCell _ _).setCell _ _).setCell _ _ = w17
                            have H17 := Lib.hid ((H16.out.put 0 rfl (turnB6 _ _ _ _ _ _ _ _) (setB6 (H16.out.at_ 0 rfl) _ _ _ _ _ _)).world hq9)
                            clear hq9 H16 r0 g0 r1 g1 r2 g2 r3 g3 r4 g4 r5 g5
                            refine hK.out _ _ ((H17.out.at_ 1 rfl)) (fun hHeld => ?_)
                            clear hK K
                            (try simp only [Act.put, List.setIfInBounds_toArray, List.set_cons_zero, List.set_cons_succ])
                            refine wpAnyH_done (by kernel_rfl) ?_ _
                            clear hHeld
                            go_wp2
                            go_meet
                            case rel => exact ⟨mb, rfl, H17.out.pick [0, 2, 3, 4]⟩
                          exact AllReadyH.nil
                        exact AllReadyH.nil
                      exact AllReadyH.nil
                    exact AllReadyH.nil
                  case rest =>
                    obtain ⟨mb, rfl, H40⟩ := hcut
                    generalize wc = w40 at *
                    obtain ⟨q0, q1, q2, q3, q4, q5⟩ := (H40.out.at_ 0 rfl).c6
                    obtain ⟨k0, k1, k2⟩ := (H40.out.at_ 1 rfl).c3
                    obtain ⟨a0, a1⟩ := (H40.out.at_ 3 rfl).c2
                    go_wp2_with (go_at_call 54; refine (rdropU _ _ _ R p 1 t1 H40.out.own HLEN1.out).mono ?_; rintro e w41 ⟨A4, n4, c4, rfl, hn, hb⟩; have H41 := Lib.hid (H40.out.next hn hb); clear hn hb H40 q0 q1 q2 q3 q4 q5 k0 k1 k2 a0 a1; obtain ⟨r0, r1⟩ := (H41.out.at_ 2 rfl).c2; have g0 := (H41.out.at_ 2 rfl).fz 0; have g1 := (H41.out.at_ 2 rfl).fz 1)
                    generalize hq9 : (w41.setCell _ _).setCell _ _ = w42
                    have H42 := Lib.hid ((H41.out.put 2 rfl (turnB2 _ _ _ _) (setB2 (H41.out.at_ 2 rfl) _ _)).world hq9)
                    clear hq9 H41 r0 g0 r1 g1
                    refine bodyPost_ret (results_cell_row rfl _ _ (bc + 1) _ _ _ _ rfl (H42.out.at_ 2 rfl) Tryd.underlying28 rfl rfl) rfl ⟨_, _, _, rfl, H42.out.p, by first | exact H42.out.below | (rw [← HBC.out]; exact H42.out.below)⟩
                exact AllReadyH.nil
              exact AllReadyH.nil
            exact AllReadyH.nil
          exact AllReadyH.nil
        exact AllReadyH.nil
      exact AllReadyH.nil
    exact AllReadyH.nil
  exact AllReadyH.nil
set_option maxRecDepth 100000 in
set_option maxHeartbeats 3200000 in
theorem rdropT_put (v : Value) (R : Nat) (h : PairsOwn w 0 v M) (hl : M.length ≤ 900) (hp : I64 p) (ha : W64 a) (l0 l5 : Int) (l1 l2 l3 l4 : Bool) (hg : getK (dropK (dropK M (p, 2, tagT a 2)) (p, 3, tagT a 3)) (p, 1, tagT a 1) = some (l0, l1, l2, l3, l4, l5)) (hol : OkL (l0, l1, l2, l3, l4, l5)) (m0 m5 : Int) (m1 m2 m3 m4 : Bool) (hm : wthG (l0, l1, l2, l3, l4, l5) (plT a) = (m0, m1, m2, m3, m4, m5)) (hz : (m5 == 0) = false) :
    Calls Tryd.prog 33 #[.agg #[v, .int .i64 R], .int .i64 p, .int .u64 a] w fun e w' => ∃ A n c, e = .returned (.agg #[.slice A n c, .int .i64 R]) ∧ PairsNew w w' v (.slice A n c) (putK R (dropK (dropK M (p, 2, tagT a 2)) (p, 3, tagT a 3)) (p, 1, tagT a 1) (m0, m1, m2, m3, m4, m5) 0) ∧ Below w.heap.size w w' := by
  obtain ⟨A, n, c, rfl⟩ := h.slice
  have HK1 := Lib.hid fun w1 => rkeyT_any p a 1 w1 ha (by decide) (by decide)
  have HK2 := Lib.hid fun w1 => rkeyT_any p a 2 w1 ha (by decide) (by decide)
  have HK3 := Lib.hid fun w1 => rkeyT_any p a 3 w1 ha (by decide) (by decide)
  have HLEN2 : Hid (M.length ≤ 1000) := Lib.hid (by omega)
  have HLEN3 : Hid ((dropK M (p, 2, tagT a 2)).length ≤ 1000) := Lib.hid (Nat.le_trans (dropK_len _ _) (by omega))
  have HLEN9 : Hid ((dropK (dropK M (p, 2, tagT a 2)) (p, 3, tagT a 3)).length ≤ 900) := Lib.hid (Nat.le_trans (dropK_len _ _) (Nat.le_trans (dropK_len _ _) hl))
  have HLEN1 : Hid ((dropK (dropK M (p, 2, tagT a 2)) (p, 3, tagT a 3)).length ≤ 1000) := Lib.hid (Nat.le_trans HLEN9.out (by decide))
  have HG : Hid ((getK (dropK (dropK M (p, 2, tagT a 2)) (p, 3, tagT a 3)) (p, 1, tagT a 1)).getD zL = (l0, l1, l2, l3, l4, l5)) := Lib.hid (by rw [hg]; rfl)
  have HI : Hid ((getK (dropK (dropK M (p, 2, tagT a 2)) (p, 3, tagT a 3)) (p, 1, tagT a 1)).isSome = true) := Lib.hid (by rw [hg]; rfl)
  have HPL := Lib.hid fun w1 => rplaceT_any a w1 ha
  have HW := Lib.hid fun w1 => rwith12_any (l0, l1, l2, l3, l4, l5) (plT a) w1 hol
  rw [hm] at HW
  generalize plT a = i at *
  clear hol hm
  have H0 := Lib.hid (((Dv.start h).new (b := w.heap.size) rfl #[.slice A n c, .int .i64 R] 28).new (b := w.heap.size + 1) (by simp) #[.slice none 0 0, .int .i64 0] 28)
  unfold kyT at HK1 HK2 HK3
  clear h hl hp ha hg
  generalize tagT a 1 = t1 at *
  generalize tagT a 2 = t2 at *
  generalize tagT a 3 = t3 at *
  obtain ⟨M2, hM2⟩ : ∃ M2, dropK M (p, 2, t2) = M2 := ⟨_, rfl⟩
  obtain ⟨M3, hM3⟩ : ∃ M3, dropK M2 (p, 3, t3) = M3 := ⟨_, rfl⟩
  rw [hM2] at HLEN3 HLEN9 HLEN1 HG HI ⊢
  rw [hM3] at HLEN9 HLEN1 HG HI ⊢
  have HM2 := Lib.hid hM2
  have HM3 := Lib.hid hM3
  clear hM2 hM3
  go_enter Tryd.func33, Tryd.ntmps33
  go_upto_region 1 with fail
  generalize hw0 : (w.alloc _).alloc _ = w1 at *
  have H1 := H0
  clear hw0 H0
  obtain ⟨bc, hb⟩ : ∃ b, w.heap.size = b := ⟨_, rfl⟩
  rw [hb] at H1 ⊢
  have HBC := Lib.hid hb
  clear hb
  go_upto_region 1 with fail
  have H2 := Lib.hid (H1.out.quiet (Kept.drew0 w1))
  clear H1
  refine wp_region_held_drew (S := fun _ => True) (by kernel_rfl) trivial (fun hHeld => ?_)
  generalize w1.drew = w2 at *
  refine tk (v := ?_) 1 ?_ ?_
  rotate_left
  · intro w hSw
    go_simp
    (try with_reducible rfl)
  (try simp only [Act.put, List.setIfInBounds_toArray, List.set_cons_zero, List.set_cons_succ])
  refine tk (v := ?_) 2 ?_ ?_
  rotate_left
  · intro w hSw
    go_simp
    (try with_reducible rfl)
  (try simp only [Act.put, List.setIfInBounds_toArray, List.set_cons_zero, List.set_cons_succ])
  refine wpAnyH_ready (rs := [0, 3]) (by kernel_rfl) (by simp) ?_
  refine anyH_one rfl (fun K hK => ?_) ?_
  · obtain ⟨a0, a1⟩ := (H2.out.at_ 1 rfl).c2
    go_simp
    clear a0 a1
    refine hK.out _ _ (trivial) (fun hHeld => ?_)
    clear hK K
    (try simp only [Act.put, List.setIfInBounds_toArray, List.set_cons_zero, List.set_cons_succ])
    refine wpAnyH_ready (rs := [3]) (by kernel_rfl) (by simp) ?_
    refine anyH_one rfl (fun K hK => ?_) ?_
    · go_simp
      refine (HK2.out _).mono ?_
      rintro e w3 ⟨rfl, hb⟩
      have H3 := Lib.hid (H2.out.quiet hb)
      clear hb H2
      refine hK.out _ _ (trivial) (fun hHeld => ?_)
      clear hK K
      (try simp only [Act.put, List.setIfInBounds_toArray, List.set_cons_zero, List.set_cons_succ])
      refine wpAnyH_ready (rs := [4]) (by kernel_rfl) (by simp) ?_
      refine anyH_one rfl (fun K hK => ?_) ?_
      · go_simp
        refine (rdropU _ _ (M) R p 2 t2 H3.out.own (by exact HLEN2.out)).mono ?_
        rw [HM2.out]
        rintro e w4 ⟨A2, n2, c2, rfl, hn, hb⟩
        have H4 := Lib.hid (H3.out.next hn hb)
        clear hn hb H3
        refine hK.out _ _ (trivial) (fun hHeld => ?_)
        clear hK K
        (try simp only [Act.put, List.setIfInBounds_toArray, List.set_cons_zero, List.set_cons_succ])
        refine wpAnyH_ready (rs := [5]) (by kernel_rfl) (by simp) ?_
        refine anyH_one rfl (fun K hK => ?_) ?_
        · obtain ⟨r0, r1⟩ := (H4.out.at_ 1 rfl).c2
          have g0 := (H4.out.at_ 1 rfl).fz 0; have g1 := (H4.out.at_ 1 rfl).fz 1
          go_simp
          generalize hq9 : (w4.setCell _ _).setCell _ _ = w5
          have H5 := Lib.hid ((H4.out.put 1 rfl (turnB2 _ _ _ _) (setB2 (H4.out.at_ 1 rfl) _ _)).world hq9)
          clear hq9 H4 r0 g0 r1 g1
          refine hK.out _ _ (trivial) (fun hHeld => ?_)
          clear hK K
          (try simp only [Act.put, List.setIfInBounds_toArray, List.set_cons_zero, List.set_cons_succ])
          refine wpAnyH_done (by kernel_rfl) ?_ _
          clear hHeld
          go_upto_region 2 with fail
          have H6 := Lib.hid (H5.out.quiet (Kept.drew0 w5))
          clear H5
          refine wp_region_held_drew (S := fun _ => True) (by kernel_rfl) trivial (fun hHeld => ?_)
          generalize w5.drew = w6 at *
          refine tk (v := ?_) 1 ?_ ?_
          rotate_left
          · intro w hSw
            go_simp
            (try with_reducible rfl)
          (try simp only [Act.put, List.setIfInBounds_toArray, List.set_cons_zero, List.set_cons_succ])
          refine tk (v := ?_) 2 ?_ ?_
          rotate_left
          · intro w hSw
            go_simp
            (try with_reducible rfl)
          (try simp only [Act.put, List.setIfInBounds_toArray, List.set_cons_zero, List.set_cons_succ])
          refine wpAnyH_ready (rs := [0, 3]) (by kernel_rfl) (by simp) ?_
          refine anyH_one rfl (fun K hK => ?_) ?_
          · obtain ⟨a0, a1⟩ := (H6.out.at_ 1 rfl).c2
            go_simp
            clear a0 a1
            refine hK.out _ _ (trivial) (fun hHeld => ?_)
            clear hK K
            (try simp only [Act.put, List.setIfInBounds_toArray, List.set_cons_zero, List.set_cons_succ])
            refine wpAnyH_ready (rs := [3]) (by kernel_rfl) (by simp) ?_
            refine anyH_one rfl (fun K hK => ?_) ?_
            · go_simp
              refine (HK3.out _).mono ?_
              rintro e w7 ⟨rfl, hb⟩
              have H7 := Lib.hid (H6.out.quiet hb)
              clear hb H6
              refine hK.out _ _ (trivial) (fun hHeld => ?_)
              clear hK K
              (try simp only [Act.put, List.setIfInBounds_toArray, List.set_cons_zero, List.set_cons_succ])
              refine wpAnyH_ready (rs := [4]) (by kernel_rfl) (by simp) ?_
              refine anyH_one rfl (fun K hK => ?_) ?_
              · go_simp
                refine (rdropU _ _ (M2) R p 3 t3 H7.out.own (by exact HLEN3.out)).mono ?_
                rw [HM3.out]
                rintro e w8 ⟨A3, n3, c3, rfl, hn, hb⟩
                have H8 := Lib.hid (H7.out.next hn hb)
                clear hn hb H7
                refine hK.out _ _ (trivial) (fun hHeld => ?_)
                clear hK K
                (try simp only [Act.put, List.setIfInBounds_toArray, List.set_cons_zero, List.set_cons_succ])
                refine wpAnyH_ready (rs := [5]) (by kernel_rfl) (by simp) ?_
                refine anyH_one rfl (fun K hK => ?_) ?_
                · obtain ⟨r0, r1⟩ := (H8.out.at_ 1 rfl).c2
                  have g0 := (H8.out.at_ 1 rfl).fz 0; have g1 := (H8.out.at_ 1 rfl).fz 1
                  go_simp
                  generalize hq9 : (w8.setCell _ _).setCell _ _ = w9
                  have H9 := Lib.hid ((H8.out.put 1 rfl (turnB2 _ _ _ _) (setB2 (H8.out.at_ 1 rfl) _ _)).world hq9)
                  clear hq9 H8 r0 g0 r1 g1
                  refine hK.out _ _ (trivial) (fun hHeld => ?_)
                  clear hK K
                  (try simp only [Act.put, List.setIfInBounds_toArray, List.set_cons_zero, List.set_cons_succ])
                  refine wpAnyH_done (by kernel_rfl) ?_ _
                  clear hHeld
                  go_upto_region 4 with (go_at_call 38; refine (HK1.out _).mono ?_; rintro e w10 ⟨rfl, hb⟩; have H10 := Lib.hid (H9.out.quiet hb); clear hb H9)
                  generalize hq9 : w10.alloc _ = w11
                  have H11 := Lib.hid ((H10.out.new (b := w10.heap.size) rfl #[.int .i64 p, .int .i64 1, .int .u64 t1] 80).world hq9)
                  clear hq9 H10
                  generalize w10.heap.size = kb at H11 ⊢
                  obtain ⟨a0, a1⟩ := (H11.out.at_ 2 rfl).c2
                  obtain ⟨k0, k1, k2⟩ := (H11.out.at_ 0 rfl).c3
                  go_upto_region 7 with (go_at_call 37; refine (rgetC_any _ _ _ R p 1 t1 l0 l5 l1 l2 l3 l4 H11.out.own HLEN1.out HG.out true HI.out).mono ?_; rintro e w12 ⟨rfl, hb⟩; have H12 := Lib.hid (H11.out.quiet hb); clear hb H11 a0 a1 k0 k1 k2)
                  generalize hq9 : w12.alloc _ = w13
                  have H13 := Lib.hid ((H12.out.new (b := w12.heap.size) rfl #[.int .u64 l0, .bool l1, .bool l2, .bool l3, .bool l4, .int .u8 l5] 71).world hq9)
                  clear hq9 H12
                  generalize w12.heap.size = lb at H13 ⊢
                  go_upto_region 7 with fail
                  go_cut [10] from 33 (fun s10 w9 => ∃ mb : Nat, s10 = .pointer (some ⟨mb, 0, none⟩) ∧ Hid (Dv w w9 (.slice A n c) (.slice A3 n3 c3) M3 [⟨mb, #[.int .u64 m0, .bool m1, .bool m2, .bool m3, .bool m4, .int .u8 m5], 71⟩, ⟨kb, #[.int .i64 p, .int .i64 1, .int .u64 t1], 80⟩, ⟨bc + 1, #[.slice none 0 0, .int .i64 0], 28⟩, ⟨bc, #[.slice A3 n3 c3, .int .i64 R], 28⟩]))
                  case first =>
                    have H14 := Lib.hid (H13.out.quiet (Kept.drew0 w13))
                    clear H13
                    refine wp_region_held_drew (S := fun w' => Blk w' lb #[.int .u64 l0, .bool l1, .bool l2, .bool l3, .bool l4, .int .u8 l5] 71) (by kernel_rfl) (H14.out.at_ 0 rfl) (fun hHeld => ?_)
                    generalize w13.drew = w14 at *
                    refine tk (v := ?_) 0 ?_ ?_
                    rotate_left
                    · intro w hSw
                      obtain ⟨q0, q1, q2, q3, q4, q5⟩ := hSw.c6
                      go_simp
                      (try with_reducible rfl)
                    (try simp only [Act.put, List.setIfInBounds_toArray, List.set_cons_zero, List.set_cons_succ])
                    refine tk (v := ?_) 1 ?_ ?_
                    rotate_left
                    · intro w hSw
                      go_simp
                      (try with_reducible rfl)
                    (try simp only [Act.put, List.setIfInBounds_toArray, List.set_cons_zero, List.set_cons_succ])
                    refine wpAnyH_ready (rs := [2, 4]) (by kernel_rfl) (by simp) ?_
                    refine anyH_one rfl (fun K hK => ?_) ?_
                    · go_simp
                      refine (HPL.out _).mono ?_
                      rintro e _ ⟨rfl, rfl⟩
                      refine hK.out _ _ ((H14.out.at_ 0 rfl)) (fun hHeld => ?_)
                      clear hK K
                      (try simp only [Act.put, List.setIfInBounds_toArray, List.set_cons_zero, List.set_cons_succ])
                      refine wpAnyH_ready (rs := [3, 4]) (by kernel_rfl) (by simp) ?_
                      refine anyH_one rfl (fun K hK => ?_) ?_
                      · go_simp
                        refine (HW.out _).mono ?_
                        rintro e w15 ⟨rfl, hb⟩
                        have H15 := Lib.hid (H14.out.quiet hb)
                        clear hb H14
                        refine hK.out _ _ ((H15.out.at_ 0 rfl)) (fun hHeld => ?_)
                        clear hK K
                        (try simp only [Act.put, List.setIfInBounds_toArray, List.set_cons_zero, List.set_cons_succ])
                        refine wpAnyH_ready (rs := [4]) (by kernel_rfl) (by simp) ?_
                        refine anyH_one rfl (fun K hK => ?_) ?_
                        · go_simp
                          generalize hq9 : w15.alloc _ = w16
                          have H16 := Lib.hid ((H15.out.new (b := w15.heap.size) rfl #[.int .u64 0, .bool false, .bool false, .bool false, .bool false, .int .u8 0] 71).world hq9)
                          clear hq9 H15
                          generalize w15.heap.size = mb at H16 ⊢
                          refine hK.out _ _ ((H16.out.at_ 1 rfl)) (fun hHeld => ?_)
                          clear hK K
                          (try simp only [Act.put, List.setIfInBounds_toArray, List.set_cons_zero, List.set_cons_succ])
                          refine wpAnyH_ready (rs := [5]) (by kernel_rfl) (by simp) ?_
                          refine anyH_one rfl (fun K hK => ?_) ?_
                          · obtain ⟨r0, r1, r2, r3, r4, r5⟩ := (H16.out.at_ 0 rfl).c6
                            have g0 := (H16.out.at_ 0 rfl).fz 0; have g1 := (H16.out.at_ 0 rfl).fz 1; have g2 := (H16.out.at_ 0 rfl).fz 2; have g3 := (H16.out.at_ 0 rfl).fz 3; have g4 := (H16.out.at_ 0 rfl).fz 4; have g5 := (H16.out.at_ 0 rfl).fz 5
                            go_simp
                            generalize hq9 : (((((w16.setCell _ _).setCell _ _).setCell _ _).setCell _ _).setCell _ _).setCell _ _ = w17
                            have H17 := Lib.hid ((H16.out.put 0 rfl (turnB6 _ _ _ _ _ _ _ _) (setB6 (H16.out.at_ 0 rfl) _ _ _ _ _ _)).world hq9)
                            clear hq9 H16 r0 g0 r1 g1 r2 g2 r3 g3 r4 g4 r5 g5
                            refine hK.out _ _ ((H17.out.at_ 1 rfl)) (fun hHeld => ?_)
                            clear hK K
                            (try simp only [Act.put, List.setIfInBounds_toArray, List.set_cons_zero, List.set_cons_succ])
                            refine wpAnyH_done (by kernel_rfl) ?_ _
                            clear hHeld
                            go_wp2
                            go_meet
                            case rel => exact ⟨mb, rfl, H17.out.pick [0, 2, 3, 4]⟩
                          exact AllReadyH.nil
                        exact AllReadyH.nil
                      refine anyH_one rfl (fun K hK => ?_) ?_
                      · go_simp
                        generalize hq9 : w14.alloc _ = w15
                        have H15 := Lib.hid ((H14.out.new (b := w14.heap.size) rfl #[.int .u64 0, .bool false, .bool false, .bool false, .bool false, .int .u8 0] 71).world hq9)
                        clear hq9 H14
                        generalize w14.heap.size = mb at H15 ⊢
                        refine hK.out _ _ ((H15.out.at_ 1 rfl)) (fun hHeld => ?_)
                        clear hK K
                        (try simp only [Act.put, List.setIfInBounds_toArray, List.set_cons_zero, List.set_cons_succ])
                        refine wpAnyH_ready (rs := [3]) (by kernel_rfl) (by simp) ?_
                        refine anyH_one rfl (fun K hK => ?_) ?_
                        · go_simp
                          refine (HW.out _).mono ?_
                          rintro e w16 ⟨rfl, hb⟩
                          have H16 := Lib.hid (H15.out.quiet hb)
                          clear hb H15
                          refine hK.out _ _ ((H16.out.at_ 1 rfl)) (fun hHeld => ?_)
                          clear hK K
                          (try simp only [Act.put, List.setIfInBounds_toArray, List.set_cons_zero, List.set_cons_succ])
                          refine wpAnyH_ready (rs := [5]) (by kernel_rfl) (by simp) ?_
                          refine anyH_one rfl (fun K hK => ?_) ?_
                          · obtain ⟨r0, r1, r2, r3, r4, r5⟩ := (H16.out.at_ 0 rfl).c6
                            have g0 := (H16.out.at_ 0 rfl).fz 0; have g1 := (H16.out.at_ 0 rfl).fz 1; have g2 := (H16.out.at_ 0 rfl).fz 2; have g3 := (H16.out.at_ 0 rfl).fz 3; have g4 := (H16.out.at_ 0 rfl).fz 4; have g5 := (H16.out.at_ 0 rfl).fz 5
                            go_simp
                            generalize hq9 : (((((w16.setCell _ _).setCell _ _).setCell _ _).setCell _ _).setCell _ _).setCell _ _ = w17
                            have H17 := Lib.hid ((H16.out.put 0 rfl (turnB6 _ _ _ _ _ _ _ _) (setB6 (H16.out.at_ 0 rfl) _ _ _ _ _ _)).world hq9)
                            clear hq9 H16 r0 g0 r1 g1 r2 g2 r3 g3 r4 g4 r5 g5
                            refine hK.out _ _ ((H17.out.at_ 1 rfl)) (fun hHeld => ?_)
                            clear hK K
                            (try simp only [Act.put, List.setIfInBounds_toArray, List.set_cons_zero, List.set_cons_succ])
                            refine wpAnyH_done (by kernel_rfl) ?_ _
                            clear hHeld
                            go_wp2
                            go_meet
                            case rel => exact ⟨mb, rfl, H17.out.pick [0, 2, 3, 4]⟩
                          exact AllReadyH.nil
                        exact AllReadyH.nil
                      exact AllReadyH.nil
                    refine anyH_one rfl (fun K hK => ?_) ?_
                    · go_simp
                      generalize hq9 : w14.alloc _ = w15
                      have H15 := Lib.hid ((H14.out.new (b := w14.heap.size) rfl #[.int .u64 0, .bool false, .bool false, .bool false, .bool false, .int .u8 0] 71).world hq9)
                      clear hq9 H14
                      generalize w14.heap.size = mb at H15 ⊢
                      refine hK.out _ _ ((H15.out.at_ 1 rfl)) (fun hHeld => ?_)
                      clear hK K
                      (try simp only [Act.put, List.setIfInBounds_toArray, List.set_cons_zero, List.set_cons_succ])
                      refine wpAnyH_ready (rs := [2]) (by kernel_rfl) (by simp) ?_
                      refine anyH_one rfl (fun K hK => ?_) ?_
                      · go_simp
                        refine (HPL.out _).mono ?_
                        rintro e _ ⟨rfl, rfl⟩
                        refine hK.out _ _ ((H15.out.at_ 1 rfl)) (fun hHeld => ?_)
                        clear hK K
                        (try simp only [Act.put, List.setIfInBounds_toArray, List.set_cons_zero, List.set_cons_succ])
                        refine wpAnyH_ready (rs := [3]) (by kernel_rfl) (by simp) ?_
                        refine anyH_one rfl (fun K hK => ?_) ?_
                        · go_simp
                          refine (HW.out _).mono ?_
                          rintro e w16 ⟨rfl, hb⟩
                          have H16 := Lib.hid (H15.out.quiet hb)
                          clear hb H15
                          refine hK.out _ _ ((H16.out.at_ 1 rfl)) (fun hHeld => ?_)
                          clear hK K
                          (try simp only [Act.put, List.setIfInBounds_toArray, List.set_cons_zero, List.set_cons_succ])
                          refine wpAnyH_ready (rs := [5]) (by kernel_rfl) (by simp) ?_
                          refine anyH_one rfl (fun K hK => ?_) ?_
                          · obtain ⟨r0, r1, r2, r3, r4, r5⟩ := (H16.out.at_ 0 rfl).c6
                            have g0 := (H16.out.at_ 0 rfl).fz 0; have g1 := (H16.out.at_ 0 rfl).fz 1; have g2 := (H16.out.at_ 0 rfl).fz 2; have g3 := (H16.out.at_ 0 rfl).fz 3; have g4 := (H16.out.at_ 0 rfl).fz 4; have g5 := (H16.out.at_ 0 rfl).fz 5
                            go_simp
                            generalize hq9 : (((((w16.setCell _ _).setCell _ _).setCell _ _).setCell _ _).setCell _ _).setCell _ _ = w17
                            have H17 := Lib.hid ((H16.out.put 0 rfl (turnB6 _ _ _ _ _ _ _ _) (setB6 (H16.out.at_ 0 rfl) _ _ _ _ _ _)).world hq9)
                            clear hq9 H16 r0 g0 r1 g1 r2 g2 r3 g3 r4 g4 r5 g5
                            refine hK.out _ _ ((H17.out.at_ 1 rfl)) (fun hHeld => ?_)
                            clear hK K
                            (try simp only [Act.put, List.setIfInBounds_toArray, List.set_cons_zero, List.set_cons_succ])
                            refine wpAnyH_done (by kernel_rfl) ?_ _
                            clear hHeld
                            go_wp2
                            go_meet
                            case rel => exact ⟨mb, rfl, H17.out.pick [0, 2, 3, 4]⟩
                          exact AllReadyH.nil
                        exact AllReadyH.nil
                      exact AllReadyH.nil
                    exact AllReadyH.nil
                  case rest =>
                    obtain ⟨mb, rfl, H40⟩ := hcut
                    generalize wc = w40 at *
                    obtain ⟨q0, q1, q2, q3, q4, q5⟩ := (H40.out.at_ 0 rfl).c6
                    obtain ⟨k0, k1, k2⟩ := (H40.out.at_ 1 rfl).c3
                    obtain ⟨a0, a1⟩ := (H40.out.at_ 3 rfl).c2
                    go_wp2_with (go_at_call 53; refine (rputU _ _ _ R p 1 t1 m0 m5 0 m1 m2 m3 m4 H40.out.own HLEN9.out (show I64 0 by unfold I64; omega)).mono ?_; rintro e w41 ⟨A4, n4, c4, rfl, hn, hb⟩; have H41 := Lib.hid (H40.out.next hn hb); clear hn hb H40 q0 q1 q2 q3 q4 q5 k0 k1 k2 a0 a1; obtain ⟨r0, r1⟩ := (H41.out.at_ 2 rfl).c2; have g0 := (H41.out.at_ 2 rfl).fz 0; have g1 := (H41.out.at_ 2 rfl).fz 1)
                    generalize hq9 : (w41.setCell _ _).setCell _ _ = w42
                    have H42 := Lib.hid ((H41.out.put 2 rfl (turnB2 _ _ _ _) (setB2 (H41.out.at_ 2 rfl) _ _)).world hq9)
                    clear hq9 H41 r0 g0 r1 g1
                    refine bodyPost_ret (results_cell_row rfl _ _ (bc + 1) _ _ _ _ rfl (H42.out.at_ 2 rfl) Tryd.underlying28 rfl rfl) rfl ⟨_, _, _, rfl, H42.out.p, by first | exact H42.out.below | (rw [← HBC.out]; exact H42.out.below)⟩
                exact AllReadyH.nil
              exact AllReadyH.nil
            exact AllReadyH.nil
          refine anyH_one rfl (fun K hK => ?_) ?_
          · go_simp
            refine (HK3.out _).mono ?_
            rintro e w7 ⟨rfl, hb⟩
            have H7 := Lib.hid (H6.out.quiet hb)
            clear hb H6
            refine hK.out _ _ (trivial) (fun hHeld => ?_)
            clear hK K
            (try simp only [Act.put, List.setIfInBounds_toArray, List.set_cons_zero, List.set_cons_succ])
            refine wpAnyH_ready (rs := [0]) (by kernel_rfl) (by simp) ?_
            refine anyH_one rfl (fun K hK => ?_) ?_
            · obtain ⟨a0, a1⟩ := (H7.out.at_ 1 rfl).c2
              go_simp
              clear a0 a1
              refine hK.out _ _ (trivial) (fun hHeld => ?_)
              clear hK K
              (try simp only [Act.put, List.setIfInBounds_toArray, List.set_cons_zero, List.set_cons_succ])
              refine wpAnyH_ready (rs := [4]) (by kernel_rfl) (by simp) ?_
              refine anyH_one rfl (fun K hK => ?_) ?_
              · go_simp
                refine (rdropU _ _ (M2) R p 3 t3 H7.out.own (by exact HLEN3.out)).mono ?_
                rw [HM3.out]
                rintro e w8 ⟨A3, n3, c3, rfl, hn, hb⟩
                have H8 := Lib.hid (H7.out.next hn hb)
                clear hn hb H7
                refine hK.out _ _ (trivial) (fun hHeld => ?_)
                clear hK K
                (try simp only [Act.put, List.setIfInBounds_toArray, List.set_cons_zero, List.set_cons_succ])
                refine wpAnyH_ready (rs := [5]) (by kernel_rfl) (by simp) ?_
                refine anyH_one rfl (fun K hK => ?_) ?_
                · obtain ⟨r0, r1⟩ := (H8.out.at_ 1 rfl).c2
                  have g0 := (H8.out.at_ 1 rfl).fz 0; have g1 := (H8.out.at_ 1 rfl).fz 1
                  go_simp
                  generalize hq9 : (w8.setCell _ _).setCell _ _ = w9
                  have H9 := Lib.hid ((H8.out.put 1 rfl (turnB2 _ _ _ _) (setB2 (H8.out.at_ 1 rfl) _ _)).world hq9)
                  clear hq9 H8 r0 g0 r1 g1
                  refine hK.out _ _ (trivial) (fun hHeld => ?_)
                  clear hK K
                  (try simp only [Act.put, List.setIfInBounds_toArray, List.set_cons_zero, List.set_cons_succ])
                  refine wpAnyH_done (by kernel_rfl) ?_ _
                  clear hHeld
                  go_upto_region 4 with (go_at_call 38; refine (HK1.out _).mono ?_; rintro e w10 ⟨rfl, hb⟩; have H10 := Lib.hid (H9.out.quiet hb); clear hb H9)
                  generalize hq9 : w10.alloc _ = w11
                  have H11 := Lib.hid ((H10.out.new (b := w10.heap.size) rfl #[.int .i64 p, .int .i64 1, .int .u64 t1] 80).world hq9)
                  clear hq9 H10
                  generalize w10.heap.size = kb at H11 ⊢
                  obtain ⟨a0, a1⟩ := (H11.out.at_ 2 rfl).c2
                  obtain ⟨k0, k1, k2⟩ := (H11.out.at_ 0 rfl).c3
                  go_upto_region 7 with (go_at_call 37; refine (rgetC_any _ _ _ R p 1 t1 l0 l5 l1 l2 l3 l4 H11.out.own HLEN1.out HG.out true HI.out).mono ?_; rintro e w12 ⟨rfl, hb⟩; have H12 := Lib.hid (H11.out.quiet hb); clear hb H11 a0 a1 k0 k1 k2)
                  generalize hq9 : w12.alloc _ = w13
                  have H13 := Lib.hid ((H12.out.new (b := w12.heap.size) rfl #[.int .u64 l0, .bool l1, .bool l2, .bool l3, .bool l4, .int .u8 l5] 71).world hq9)
                  clear hq9 H12
                  generalize w12.heap.size = lb at H13 ⊢
                  go_upto_region 7 with fail
                  go_cut [10] from 33 (fun s10 w9 => ∃ mb : Nat, s10 = .pointer (some ⟨mb, 0, none⟩) ∧ Hid (Dv w w9 (.slice A n c) (.slice A3 n3 c3) M3 [⟨mb, #[.int .u64 m0, .bool m1, .bool m2, .bool m3, .bool m4, .int .u8 m5], 71⟩, ⟨kb, #[.int .i64 p, .int .i64 1, .int .u64 t1], 80⟩, ⟨bc + 1, #[.slice none 0 0, .int .i64 0], 28⟩, ⟨bc, #[.slice A3 n3 c3, .int .i64 R], 28⟩]))
                  case first =>
                    have H14 := Lib.hid (H13.out.quiet (Kept.drew0 w13))
                    clear H13
                    refine wp_region_held_drew (S := fun w' => Blk w' lb #[.int .u64 l0, .bool l1, .bool l2, .bool l3, .bool l4, .int .u8 l5] 71) (by kernel_rfl) (H14.out.at_ 0 rfl) (fun hHeld => ?_)
                    generalize w13.drew = w14 at *
                    refine tk (v := ?_) 0 ?_ ?_
                    rotate_left
                    · intro w hSw
                      obtain ⟨q0, q1, q2, q3, q4, q5⟩ := hSw.c6
                      go_simp
                      (try with_reducible rfl)
                    (try simp only [Act.put, List.setIfInBounds_toArray, List.set_cons_zero, List.set_cons_succ])
                    refine tk (v := ?_) 1 ?_ ?_
                    rotate_left
                    · intro w hSw
                      go_simp
                      (try with_reducible rfl)
                    (try simp only [Act.put, List.setIfInBounds_toArray, List.set_cons_zero, List.set_cons_succ])
                    refine wpAnyH_ready (rs := [2, 4]) (by kernel_rfl) (by simp) ?_
                    refine anyH_one rfl (fun K hK => ?_) ?_
                    · go_simp
                      refine (HPL.out _).mono ?_
                      rintro e _ ⟨rfl, rfl⟩
                      refine hK.out _ _ ((H14.out.at_ 0 rfl)) (fun hHeld => ?_)
                      clear hK K
                      (try simp only [Act.put, List.setIfInBounds_toArray, List.set_cons_zero, List.set_cons_succ])
                      refine wpAnyH_ready (rs := [3, 4]) (by kernel_rfl) (by simp) ?_
                      refine anyH_one rfl (fun K hK => ?_) ?_
                      · go_simp
                        refine (HW.out _).mono ?_
                        rintro e w15 ⟨rfl, hb⟩
                        have H15 := Lib.hid (H14.out.quiet hb)
                        clear hb H14
                        refine hK.out _ _ ((H15.out.at_ 0 rfl)) (fun hHeld => ?_)
                        clear hK K
                        (try simp only [Act.put, List.setIfInBounds_toArray, List.set_cons_zero, List.set_cons_succ])
                        refine wpAnyH_ready (rs := [4]) (by kernel_rfl) (by simp) ?_
                        refine anyH_one rfl (fun K hK => ?_) ?_
                        · go_simp
                          generalize hq9 : w15.alloc _ = w16
                          have H16 := Lib.hid ((H15.out.new (b := w15.heap.size) rfl #[.int .u64 0, .bool false, .bool false, .bool false, .bool false, .int .u8 0] 71).world hq9)
                          clear hq9 H15
                          generalize w15.heap.size = mb at H16 ⊢
                          refine hK.out _ _ ((H16.out.at_ 1 rfl)) (fun hHeld => ?_)
                          clear hK K
                          (try simp only [Act.put, List.setIfInBounds_toArray, List.set_cons_zero, List.set_cons_succ])
                          refine wpAnyH_ready (rs := [5]) (by kernel_rfl) (by simp) ?_
                          refine anyH_one rfl (fun K hK => ?_) ?_
                          · obtain ⟨r0, r1, r2, r3, r4, r5⟩ := (H16.out.at_ 0 rfl).c6
                            have g0 := (H16.out.at_ 0 rfl).fz 0; have g1 := (H16.out.at_ 0 rfl).fz 1; have g2 := (H16.out.at_ 0 rfl).fz 2; have g3 := (H16.out.at_ 0 rfl).fz 3; have g4 := (H16.out.at_ 0 rfl).fz 4; have g5 := (H16.out.at_ 0 rfl).fz 5
                            go_simp
                            generalize hq9 : (((((w16.setCell _ _).setCell _ _).setCell _ _).setCell _ _).setCell _ _).setCell _ _ = w17
                            have H17 := Lib.hid ((H16.out.put 0 rfl (turnB6 _ _ _ _ _ _ _ _) (setB6 (H16.out.at_ 0 rfl) _ _ _ _ _ _)).world hq9)
                            clear hq9 H16 r0 g0 r1 g1 r2 g2 r3 g3 r4 g4 r5 g5
                            refine hK.out _ _ ((H17.out.at_ 1 rfl)) (fun hHeld => ?_)
                            clear hK K
                            (try simp only [Act.put, List.setIfInBounds_toArray, List.set_cons_zero, List.set_cons_succ])
                            refine wpAnyH_done (by kernel_rfl) ?_ _
                            clear hHeld
                            go_wp2
                            go_meet
                            case rel => exact ⟨mb, rfl, H17.out.pick [0, 2, 3, 4]⟩
                          exact AllReadyH.nil
                        exact AllReadyH.nil
                      refine anyH_one rfl (fun K hK => ?_) ?_
                      · go_simp
                        generalize hq9 : w14.alloc _ = w15
                        have H15 := Lib.hid ((H14.out.new (b := w14.heap.size) rfl #[.int .u64 0, .bool false, .bool false, .bool false, .bool false, .int .u8 0] 71).world hq9)
                        clear hq9 H14
                        generalize w14.heap.size = mb at H15 ⊢
                        refine hK.out _ _ ((H15.out.at_ 1 rfl)) (fun hHeld => ?_)
                        clear hK K
                        (try simp only [Act.put, List.setIfInBounds_toArray, List.set_cons_zero, List.set_cons_succ])
                        refine wpAnyH_ready (rs := [3]) (by kernel_rfl) (by simp) ?_
                        refine anyH_one rfl (fun K hK => ?_) ?_
                        · go_simp
                          refine (HW.out _).mono ?_
                          rintro e w16 ⟨rfl, hb⟩
                          have H16 := Lib.hid (H15.out.quiet hb)
                          clear hb H15
                          refine hK.out _ _ ((H16.out.at_ 1 rfl)) (fun hHeld => ?_)
                          clear hK K
                          (try simp only [Act.put, List.setIfInBounds_toArray, List.set_cons_zero, List.set_cons_succ])
                          refine wpAnyH_ready (rs := [5]) (by kernel_rfl) (by simp) ?_
                          refine anyH_one rfl (fun K hK => ?_) ?_
                          · obtain ⟨r0, r1, r2, r3, r4, r5⟩ := (H16.out.at_ 0 rfl).c6
                            have g0 := (H16.out.at_ 0 rfl).fz 0; have g1 := (H16.out.at_ 0 rfl).fz 1; have g2 := (H16.out.at_ 0 rfl).fz 2; have g3 := (H16.out.at_ 0 rfl).fz 3; have g4 := (H16.out.at_ 0 rfl).fz 4; have g5 := (H16.out.at_ 0 rfl).fz 5
                            go_simp
                            generalize hq9 : (((((w16.setCell _ _).setCell _ _).setCell _ _).setCell _ _).setCell _ _).setCell _ _ = w17
                            have H17 := Lib.hid ((H16.out.put 0 rfl (turnB6 _ _ _ _ _ _ _ _) (setB6 (H16.out.at_ 0 rfl) _ _ _ _ _ _)).world hq9)
                            clear hq9 H16 r0 g0 r1 g1 r2 g2 r3 g3 r4 g4 r5 g5
                            refine hK.out _ _ ((H17.out.at_ 1 rfl)) (fun hHeld => ?_)
                            clear hK K
                            (try simp only [Act.put, List.setIfInBounds_toArray, List.set_cons_zero, List.set_cons_succ])
                            refine wpAnyH_done (by kernel_rfl) ?_ _
                            clear hHeld
                            go_wp2
                            go_meet
                            case rel => exact ⟨mb, rfl, H17.out.pick [0, 2, 3, 4]⟩
                          exact AllReadyH.nil
                        exact AllReadyH.nil
                      exact AllReadyH.nil
                    refine anyH_one rfl (fun K hK => ?_) ?_
                    · go_simp
                      generalize hq9 : w14.alloc _ = w15
                      have H15 := Lib.hid ((H14.out.new (b := w14.heap.size) rfl #[.int .u64 0, .bool false, .bool false, .bool false, .bool false, .int .u8 0] 71).world hq9)
                      clear hq9 H14
                      generalize w14.heap.size = mb at H15 ⊢
                      refine hK.out _ _ ((H15.out.at_ 1 rfl)) (fun hHeld => ?_)
                      clear hK K
                      (try simp only [Act.put, List.setIfInBounds_toArray, List.set_cons_zero, List.set_cons_succ])
                      refine wpAnyH_ready (rs := [2]) (by kernel_rfl) (by simp) ?_
                      refine anyH_one rfl (fun K hK => ?_) ?_
                      · go_simp
                        refine (HPL.out _).mono ?_
                        rintro e _ ⟨rfl, rfl⟩
                        refine hK.out _ _ ((H15.out.at_ 1 rfl)) (fun hHeld => ?_)
                        clear hK K
                        (try simp only [Act.put, List.setIfInBounds_toArray, List.set_cons_zero, List.set_cons_succ])
                        refine wpAnyH_ready (rs := [3]) (by kernel_rfl) (by simp) ?_
                        refine anyH_one rfl (fun K hK => ?_) ?_
                        · go_simp
                          refine (HW.out _).mono ?_
                          rintro e w16 ⟨rfl, hb⟩
                          have H16 := Lib.hid (H15.out.quiet hb)
                          clear hb H15
                          refine hK.out _ _ ((H16.out.at_ 1 rfl)) (fun hHeld => ?_)
                          clear hK K
                          (try simp only [Act.put, List.setIfInBounds_toArray, List.set_cons_zero, List.set_cons_succ])
                          refine wpAnyH_ready (rs := [5]) (by kernel_rfl) (by simp) ?_
                          refine anyH_one rfl (fun K hK => ?_) ?_
                          · obtain ⟨r0, r1, r2, r3, r4, r5⟩ := (H16.out.at_ 0 rfl).c6
                            have g0 := (H16.out.at_ 0 rfl).fz 0; have g1 := (H16.out.at_ 0 rfl).fz 1; have g2 := (H16.out.at_ 0 rfl).fz 2; have g3 := (H16.out.at_ 0 rfl).fz 3; have g4 := (H16.out.at_ 0 rfl).fz 4; have g5 := (H16.out.at_ 0 rfl).fz 5
                            go_simp
                            generalize hq9 : (((((w16.setCell _ _).setCell _ _).setCell _ _).setCell _ _).setCell _ _).setCell _ _ = w17
                            have H17 := Lib.hid ((H16.out.put 0 rfl (turnB6 _ _ _ _ _ _ _ _) (setB6 (H16.out.at_ 0 rfl) _ _ _ _ _ _)).world hq9)
                            clear hq9 H16 r0 g0 r1 g1 r2 g2 r3 g3 r4 g4 r5 g5
                            refine hK.out _ _ ((H17.out.at_ 1 rfl)) (fun hHeld => ?_)
                            clear hK K
                            (try simp only [Act.put, List.setIfInBounds_toArray, List.set_cons_zero, List.set_cons_succ])
                            refine wpAnyH_done (by kernel_rfl) ?_ _
                            clear hHeld
                            go_wp2
                            go_meet
                            case rel => exact ⟨mb, rfl, H17.out.pick [0, 2, 3, 4]⟩
                          exact AllReadyH.nil
                        exact AllReadyH.nil
                      exact AllReadyH.nil
                    exact AllReadyH.nil
                  case rest =>
                    obtain ⟨mb, rfl, H40⟩ := hcut
                    generalize wc = w40 at *
                    obtain ⟨q0, q1, q2, q3, q4, q5⟩ := (H40.out.at_ 0 rfl).c6
                    obtain ⟨k0, k1, k2⟩ := (H40.out.at_ 1 rfl).c3
                    obtain ⟨a0, a1⟩ := (H40.out.at_ 3 rfl).c2
                    go_wp2_with (go_at_call 53; refine (rputU _ _ _ R p 1 t1 m0 m5 0 m1 m2 m3 m4 H40.out.own HLEN9.out (show I64 0 by unfold I64; omega)).mono ?_; rintro e w41 ⟨A4, n4, c4, rfl, hn, hb⟩; have H41 := Lib.hid (H40.out.next hn hb); clear hn hb H40 q0 q1 q2 q3 q4 q5 k0 k1 k2 a0 a1; obtain ⟨r0, r1⟩ := (H41.out.at_ 2 rfl).c2; have g0 := (H41.out.at_ 2 rfl).fz 0; have g1 := (H41.out.at_ 2 rfl).fz 1)
                    generalize hq9 : (w41.setCell _ _).setCell _ _ = w42
                    have H42 := Lib.hid ((H41.out.put 2 rfl (turnB2 _ _ _ _) (setB2 (H41.out.at_ 2 rfl) _ _)).world hq9)
                    clear hq9 H41 r0 g0 r1 g1
                    refine bodyPost_ret (results_cell_row rfl _ _ (bc + 1) _ _ _ _ rfl (H42.out.at_ 2 rfl) Tryd.underlying28 rfl rfl) rfl ⟨_, _, _, rfl, H42.out.p, by first | exact H42.out.below | (rw [← HBC.out]; exact H42.out.below)⟩
                exact AllReadyH.nil
              exact AllReadyH.nil
            exact AllReadyH.nil
          exact AllReadyH.nil
        exact AllReadyH.nil
      exact AllReadyH.nil
    exact AllReadyH.nil
  refine anyH_one rfl (fun K hK => ?_) ?_
  · go_simp
    refine (HK2.out _).mono ?_
    rintro e w3 ⟨rfl, hb⟩
    have H3 := Lib.hid (H2.out.quiet hb)
    clear hb H2
    refine hK.out _ _ (trivial) (fun hHeld => ?_)
    clear hK K
    (try simp only [Act.put, List.setIfInBounds_toArray, List.set_cons_zero, List.set_cons_succ])
    refine wpAnyH_ready (rs := [0]) (by kernel_rfl) (by simp) ?_
    refine anyH_one rfl (fun K hK => ?_) ?_
    · obtain ⟨a0, a1⟩ := (H3.out.at_ 1 rfl).c2
      go_simp
      clear a0 a1
      refine hK.out _ _ (trivial) (fun hHeld => ?_)
      clear hK K
      (try simp only [Act.put, List.setIfInBounds_toArray, List.set_cons_zero, List.set_cons_succ])
      refine wpAnyH_ready (rs := [4]) (by kernel_rfl) (by simp) ?_
      refine anyH_one rfl (fun K hK => ?_) ?_
      · go_simp
        refine (rdropU _ _ (M) R p 2 t2 H3.out.own (by exact HLEN2.out)).mono ?_
        rw [HM2.out]
        rintro e w4 ⟨A2, n2, c2, rfl, hn, hb⟩
        have H4 := Lib.hid (H3.out.next hn hb)
        clear hn hb H3
        refine hK.out _ _ (trivial) (fun hHeld => ?_)
        clear hK K
        (try simp only [Act.put, List.setIfInBounds_toArray, List.set_cons_zero, List.set_cons_succ])
        refine wpAnyH_ready (rs := [5]) (by kernel_rfl) (by simp) ?_
        refine anyH_one rfl (fun K hK => ?_) ?_
        · obtain ⟨r0, r1⟩ := (H4.out.at_ 1 rfl).c2
          have g0 := (H4.out.at_ 1 rfl).fz 0; have g1 := (H4.out.at_ 1 rfl).fz 1
          go_simp
          generalize hq9 : (w4.setCell _ _).setCell _ _ = w5
          have H5 := Lib.hid ((H4.out.put 1 rfl (turnB2 _ _ _ _) (setB2 (H4.out.at_ 1 rfl) _ _)).world hq9)
          clear hq9 H4 r0 g0 r1 g1
          refine hK.out _ _ (trivial) (fun hHeld => ?_)
          clear hK K
          (try simp only [Act.put, List.setIfInBounds_toArray, List.set_cons_zero, List.set_cons_succ])
          refine wpAnyH_done (by kernel_rfl) ?_ _
          clear hHeld
          go_upto_region 2 with fail
          have H6 := Lib.hid (H5.out.quiet (Kept.drew0 w5))
          clear H5
          refine wp_region_held_drew (S := fun _ => True) (by kernel_rfl) trivial (fun hHeld => ?_)
          generalize w5.drew = w6 at *
          refine tk (v := ?_) 1 ?_ ?_
          rotate_left
          · intro w hSw
            go_simp
            (try with_reducible rfl)
          (try simp only [Act.put, List.setIfInBounds_toArray, List.set_cons_zero, List.set_cons_succ])
          refine tk (v := ?_) 2 ?_ ?_
          rotate_left
          · intro w hSw
            go_simp
            (try with_reducible rfl)
          (try simp only [Act.put, List.setIfInBounds_toArray, List.set_cons_zero, List.set_cons_succ])
          refine wpAnyH_ready (rs := [0, 3]) (by kernel_rfl) (by simp) ?_
          refine anyH_one rfl (fun K hK => ?_) ?_
          · obtain ⟨a0, a1⟩ := (H6.out.at_ 1 rfl).c2
            go_simp
            clear a0 a1
            refine hK.out _ _ (trivial) (fun hHeld => ?_)
            clear hK K
            (try simp only [Act.put, List.setIfInBounds_toArray, List.set_cons_zero, List.set_cons_succ])
            refine wpAnyH_ready (rs := [3]) (by kernel_rfl) (by simp) ?_
            refine anyH_one rfl (fun K hK => ?_) ?_
            · go_simp
              refine (HK3.out _).mono ?_
              rintro e w7 ⟨rfl, hb⟩
              have H7 := Lib.hid (H6.out.quiet hb)
              clear hb H6
              refine hK.out _ _ (trivial) (fun hHeld => ?_)
              clear hK K
              (try simp only [Act.put, List.setIfInBounds_toArray, List.set_cons_zero, List.set_cons_succ])
              refine wpAnyH_ready (rs := [4]) (by kernel_rfl) (by simp) ?_
              refine anyH_one rfl (fun K hK => ?_) ?_
              · go_simp
                refine (rdropU _ _ (M2) R p 3 t3 H7.out.own (by exact HLEN3.out)).mono ?_
                rw [HM3.out]
                rintro e w8 ⟨A3, n3, c3, rfl, hn, hb⟩
                have H8 := Lib.hid (H7.out.next hn hb)
                clear hn hb H7
                refine hK.out _ _ (trivial) (fun hHeld => ?_)
                clear hK K
                (try simp only [Act.put, List.setIfInBounds_toArray, List.set_cons_zero, List.set_cons_succ])
                refine wpAnyH_ready (rs := [5]) (by kernel_rfl) (by simp) ?_
                refine anyH_one rfl (fun K hK => ?_) ?_
                · obtain ⟨r0, r1⟩ := (H8.out.at_ 1 rfl).c2
                  have g0 := (H8.out.at_ 1 rfl).fz 0; have g1 := (H8.out.at_ 1 rfl).fz 1
                  go_simp
                  generalize hq9 : (w8.setCell _ _).setCell _ _ = w9
                  have H9 := Lib.hid ((H8.out.put 1 rfl (turnB2 _ _ _ _) (setB2 (H8.out.at_ 1 rfl) _ _)).world hq9)
                  clear hq9 H8 r0 g0 r1 g1
                  refine hK.out _ _ (trivial) (fun hHeld => ?_)
                  clear hK K
                  (try simp only [Act.put, List.setIfInBounds_toArray, List.set_cons_zero, List.set_cons_succ])
                  refine wpAnyH_done (by kernel_rfl) ?_ _
                  clear hHeld
                  go_upto_region 4 with (go_at_call 38; refine (HK1.out _).mono ?_; rintro e w10 ⟨rfl, hb⟩; have H10 := Lib.hid (H9.out.quiet hb); clear hb H9)
                  generalize hq9 : w10.alloc _ = w11
                  have H11 := Lib.hid ((H10.out.new (b := w10.heap.size) rfl #[.int .i64 p, .int .i64 1, .int .u64 t1] 80).world hq9)
                  clear hq9 H10
                  generalize w10.heap.size = kb at H11 ⊢
                  obtain ⟨a0, a1⟩ := (H11.out.at_ 2 rfl).c2
                  obtain ⟨k0, k1, k2⟩ := (H11.out.at_ 0 rfl).c3
                  go_upto_region 7 with (go_at_call 37; refine (rgetC_any _ _ _ R p 1 t1 l0 l5 l1 l2 l3 l4 H11.out.own HLEN1.out HG.out true HI.out).mono ?_; rintro e w12 ⟨rfl, hb⟩; have H12 := Lib.hid (H11.out.quiet hb); clear hb H11 a0 a1 k0 k1 k2)
                  generalize hq9 : w12.alloc _ = w13
                  have H13 := Lib.hid ((H12.out.new (b := w12.heap.size) rfl #[.int .u64 l0, .bool l1, .bool l2, .bool l3, .bool l4, .int .u8 l5] 71).world hq9)
                  clear hq9 H12
                  generalize w12.heap.size = lb at H13 ⊢
                  go_upto_region 7 with fail
                  go_cut [10] from 33 (fun s10 w9 => ∃ mb : Nat, s10 = .pointer (some ⟨mb, 0, none⟩) ∧ Hid (Dv w w9 (.slice A n c) (.slice A3 n3 c3) M3 [⟨mb, #[.int .u64 m0, .bool m1, .bool m2, .bool m3, .bool m4, .int .u8 m5], 71⟩, ⟨kb, #[.int .i64 p, .int .i64 1, .int .u64 t1], 80⟩, ⟨bc + 1, #[.slice none 0 0, .int .i64 0], 28⟩, ⟨bc, #[.slice A3 n3 c3, .int .i64 R], 28⟩]))
                  case first =>
                    have H14 := Lib.hid (H13.out.quiet (Kept.drew0 w13))
                    clear H13
                    refine wp_region_held_drew (S := fun w' => Blk w' lb #[.int .u64 l0, .bool l1, .bool l2, .bool l3, .bool l4, .int .u8 l5] 71) (by kernel_rfl) (H14.out.at_ 0 rfl) (fun hHeld => ?_)
                    generalize w13.drew = w14 at *
                    refine tk (v := ?_) 0 ?_ ?_
                    rotate_left
                    · intro w hSw
                      obtain ⟨q0, q1, q2, q3, q4, q5⟩ := hSw.c6
                      go_simp
                      (try with_reducible rfl)
                    (try simp only [Act.put, List.setIfInBounds_toArray, List.set_cons_zero, List.set_cons_succ])
                    refine tk (v := ?_) 1 ?_ ?_
                    rotate_left
                    · intro w hSw
                      go_simp
                      (try with_reducible rfl)
                    (try simp only [Act.put, List.setIfInBounds_toArray, List.set_cons_zero, List.set_cons_succ])
                    refine wpAnyH_ready (rs := [2, 4]) (by kernel_rfl) (by simp) ?_
                    refine anyH_one rfl (fun K hK => ?_) ?_
                    · go_simp
                      refine (HPL.out _).mono ?_
                      rintro e _ ⟨rfl, rfl⟩
                      refine hK.out _ _ ((H14.out.at_ 0 rfl)) (fun hHeld => ?_)
                      clear hK K
                      (try simp only [Act.put, List.setIfInBounds_toArray, List.set_cons_zero, List.set_cons_succ])
                      refine wpAnyH_ready (rs := [3, 4]) (by kernel_rfl) (by simp) ?_
                      refine anyH_one rfl (fun K hK => ?_) ?_
                      · go_simp
                        refine (HW.out _).mono ?_
                        rintro e w15 ⟨rfl, hb⟩
                        have H15 := Lib.hid (H14.out.quiet hb)
                        clear hb H14
                        refine hK.out _ _ ((H15.out.at_ 0 rfl)) (fun hHeld => ?_)
                        clear hK K
                        (try simp only [Act.put, List.setIfInBounds_toArray, List.set_cons_zero, List.set_cons_succ])
                        refine wpAnyH_ready (rs := [4]) (by kernel_rfl) (by simp) ?_
                        refine anyH_one rfl (fun K hK => ?_) ?_
                        · go_simp
                          generalize hq9 : w15.alloc _ = w16
                          have H16 := Lib.hid ((H15.out.new (b := w15.heap.size) rfl #[.int .u64 0, .bool false, .bool false, .bool false, .bool false, .int .u8 0] 71).world hq9)
                          clear hq9 H15
                          generalize w15.heap.size = mb at H16 ⊢
                          refine hK.out _ _ ((H16.out.at_ 1 rfl)) (fun hHeld => ?_)
                          clear hK K
                          (try simp only [Act.put, List.setIfInBounds_toArray, List.set_cons_zero, List.set_cons_succ])
                          refine wpAnyH_ready (rs := [5]) (by kernel_rfl) (by simp) ?_
                          refine anyH_one rfl (fun K hK => ?_) ?_
                          · obtain ⟨r0, r1, r2, r3, r4, r5⟩ := (H16.out.at_ 0 rfl).c6
                            have g0 := (H16.out.at_ 0 rfl).fz 0; have g1 := (H16.out.at_ 0 rfl).fz 1; have g2 := (H16.out.at_ 0 rfl).fz 2; have g3 := (H16.out.at_ 0 rfl).fz 3; have g4 := (H16.out.at_ 0 rfl).fz 4; have g5 := (H16.out.at_ 0 rfl).fz 5
                            go_simp
                            generalize hq9 : (((((w16.setCell _ _).setCell _ _).setCell _ _).setCell _ _).setCell _ _).setCell _ _ = w17
                            have H17 := Lib.hid ((H16.out.put 0 rfl (turnB6 _ _ _ _ _ _ _ _) (setB6 (H16.out.at_ 0 rfl) _ _ _ _ _ _)).world hq9)
                            clear hq9 H16 r0 g0 r1 g1 r2 g2 r3 g3 r4 g4 r5 g5
                            refine hK.out _ _ ((H17.out.at_ 1 rfl)) (fun hHeld => ?_)
                            clear hK K
                            (try simp only [Act.put, List.setIfInBounds_toArray, List.set_cons_zero, List.set_cons_succ])
                            refine wpAnyH_done (by kernel_rfl) ?_ _
                            clear hHeld
                            go_wp2
                            go_meet
                            case rel => exact ⟨mb, rfl, H17.out.pick [0, 2, 3, 4]⟩
                          exact AllReadyH.nil
                        exact AllReadyH.nil
                      refine anyH_one rfl (fun K hK => ?_) ?_
                      · go_simp
                        generalize hq9 : w14.alloc _ = w15
                        have H15 := Lib.hid ((H14.out.new (b := w14.heap.size) rfl #[.int .u64 0, .bool false, .bool false, .bool false, .bool false, .int .u8 0] 71).world hq9)
                        clear hq9 H14
                        generalize w14.heap.size = mb at H15 ⊢
                        refine hK.out _ _ ((H15.out.at_ 1 rfl)) (fun hHeld => ?_)
                        clear hK K
                        (try simp only [Act.put, List.setIfInBounds_toArray, List.set_cons_zero, List.set_cons_succ])
                        refine wpAnyH_ready (rs := [3]) (by kernel_rfl) (by simp) ?_
                        refine anyH_one rfl (fun K hK => ?_) ?_
                        · go_simp
                          refine (HW.out _).mono ?_
                          rintro e w16 ⟨rfl, hb⟩
                          have H16 := Lib.hid (H15.out.quiet hb)
                          clear hb H15
                          refine hK.out _ _ ((H16.out.at_ 1 rfl)) (fun hHeld => ?_)
                          clear hK K
                          (try simp only [Act.put, List.setIfInBounds_toArray, List.set_cons_zero, List.set_cons_succ])
                          refine wpAnyH_ready (rs := [5]) (by kernel_rfl) (by simp) ?_
                          refine anyH_one rfl (fun K hK => ?_) ?_
                          · obtain ⟨r0, r1, r2, r3, r4, r5⟩ := (H16.out.at_ 0 rfl).c6
                            have g0 := (H16.out.at_ 0 rfl).fz 0; have g1 := (H16.out.at_ 0 rfl).fz 1; have g2 := (H16.out.at_ 0 rfl).fz 2; have g3 := (H16.out.at_ 0 rfl).fz 3; have g4 := (H16.out.at_ 0 rfl).fz 4; have g5 := (H16.out.at_ 0 rfl).fz 5
                            go_simp
                            generalize hq9 : (((((w16.setCell _ _).setCell _ _).setCell _ _).setCell _ _).setCell _ _).setCell _ _ = w17
                            have H17 := Lib.hid ((H16.out.put 0 rfl (turnB6 _ _ _ _ _ _ _ _) (setB6 (H16.out.at_ 0 rfl) _ _ _ _ _ _)).world hq9)
                            clear hq9 H16 r0 g0 r1 g1 r2 g2 r3 g3 r4 g4 r5 g5
                            refine hK.out _ _ ((H17.out.at_ 1 rfl)) (fun hHeld => ?_)
                            clear hK K
                            (try simp only [Act.put, List.setIfInBounds_toArray, List.set_cons_zero, List.set_cons_succ])
                            refine wpAnyH_done (by kernel_rfl) ?_ _
                            clear hHeld
                            go_wp2
                            go_meet
                            case rel => exact ⟨mb, rfl, H17.out.pick [0, 2, 3, 4]⟩
                          exact AllReadyH.nil
                        exact AllReadyH.nil
                      exact AllReadyH.nil
                    refine anyH_one rfl (fun K hK => ?_) ?_
                    · go_simp
                      generalize hq9 : w14.alloc _ = w15
                      have H15 := Lib.hid ((H14.out.new (b := w14.heap.size) rfl #[.int .u64 0, .bool false, .bool false, .bool false, .bool false, .int .u8 0] 71).world hq9)
                      clear hq9 H14
                      generalize w14.heap.size = mb at H15 ⊢
                      refine hK.out _ _ ((H15.out.at_ 1 rfl)) (fun hHeld => ?_)
                      clear hK K
                      (try simp only [Act.put, List.setIfInBounds_toArray, List.set_cons_zero, List.set_cons_succ])
                      refine wpAnyH_ready (rs := [2]) (by kernel_rfl) (by simp) ?_
                      refine anyH_one rfl (fun K hK => ?_) ?_
                      · go_simp
                        refine (HPL.out _).mono ?_
                        rintro e _ ⟨rfl, rfl⟩
                        refine hK.out _ _ ((H15.out.at_ 1 rfl)) (fun hHeld => ?_)
                        clear hK K
                        (try simp only [Act.put, List.setIfInBounds_toArray, List.set_cons_zero, List.set_cons_succ])
                        refine wpAnyH_ready (rs := [3]) (by kernel_rfl) (by simp) ?_
                        refine anyH_one rfl (fun K hK => ?_) ?_
                        · go_simp
                          refine (HW.out _).mono ?_
                          rintro e w16 ⟨rfl, hb⟩
                          have H16 := Lib.hid (H15.out.quiet hb)
                          clear hb H15
                          refine hK.out _ _ ((H16.out.at_ 1 rfl)) (fun hHeld => ?_)
                          clear hK K
                          (try simp only [Act.put, List.setIfInBounds_toArray, List.set_cons_zero, List.set_cons_succ])
                          refine wpAnyH_ready (rs := [5]) (by kernel_rfl) (by simp) ?_
                          refine anyH_one rfl (fun K hK => ?_) ?_
                          · obtain ⟨r0, r1, r2, r3, r4, r5⟩ := (H16.out.at_ 0 rfl).c6
                            have g0 := (H16.out.at_ 0 rfl).fz 0; have g1 := (H16.out.at_ 0 rfl).fz 1; have g2 := (H16.out.at_ 0 rfl).fz 2; have g3 := (H16.out.at_ 0 rfl).fz 3; have g4 := (H16.out.at_ 0 rfl).fz 4; have g5 := (H16.out.at_ 0 rfl).fz 5
                            go_simp
                            generalize hq9 : (((((w16.setCell _ _).setCell _ _).setCell _ _).setCell _ _).setCell _ _).setCell _ _ = w17
                            have H17 := Lib.hid ((H16.out.put 0 rfl (turnB6 _ _ _ _ _ _ _ _) (setB6 (H16.out.at_ 0 rfl) _ _ _ _ _ _)).world hq9)
                            clear hq9 H16 r0 g0 r1 g1 r2 g2 r3 g3 r4 g4 r5 g5
                            refine hK.out _ _ ((H17.out.at_ 1 rfl)) (fun hHeld => ?_)
                            clear hK K
                            (try simp only [Act.put, List.setIfInBounds_toArray, List.set_cons_zero, List.set_cons_succ])
                            refine wpAnyH_done (by kernel_rfl) ?_ _
                            clear hHeld
                            go_wp2
                            go_meet
                            case rel => exact ⟨mb, rfl, H17.out.pick [0, 2, 3, 4]⟩
                          exact AllReadyH.nil
                        exact AllReadyH.nil
                      exact AllReadyH.nil
                    exact AllReadyH.nil
                  case rest =>
                    obtain ⟨mb, rfl, H40⟩ := hcut
                    generalize wc = w40 at *
                    obtain ⟨q0, q1, q2, q3, q4, q5⟩ := (H40.out.at_ 0 rfl).c6
                    obtain ⟨k0, k1, k2⟩ := (H40.out.at_ 1 rfl).c3
                    obtain ⟨a0, a1⟩ := (H40.out.at_ 3 rfl).c2
                    go_wp2_with (go_at_call 53; refine (rputU _ _ _ R p 1 t1 m0 m5 0 m1 m2 m3 m4 H40.out.own HLEN9.out (show I64 0 by unfold I64; omega)).mono ?_; rintro e w41 ⟨A4, n4, c4, rfl, hn, hb⟩; have H41 := Lib.hid (H40.out.next hn hb); clear hn hb H40 q0 q1 q2 q3 q4 q5 k0 k1 k2 a0 a1; obtain ⟨r0, r1⟩ := (H41.out.at_ 2 rfl).c2; have g0 := (H41.out.at_ 2 rfl).fz 0; have g1 := (H41.out.at_ 2 rfl).fz 1)
                    generalize hq9 : (w41.setCell _ _).setCell _ _ = w42
                    have H42 := Lib.hid ((H41.out.put 2 rfl (turnB2 _ _ _ _) (setB2 (H41.out.at_ 2 rfl) _ _)).world hq9)
                    clear hq9 H41 r0 g0 r1 g1
                    refine bodyPost_ret (results_cell_row rfl _ _ (bc + 1) _ _ _ _ rfl (H42.out.at_ 2 rfl) Tryd.underlying28 rfl rfl) rfl ⟨_, _, _, rfl, H42.out.p, by first | exact H42.out.below | (rw [← HBC.out]; exact H42.out.below)⟩
                exact AllReadyH.nil
              exact AllReadyH.nil
            exact AllReadyH.nil
          refine anyH_one rfl (fun K hK => ?_) ?_
          · go_simp
            refine (HK3.out _).mono ?_
            rintro e w7 ⟨rfl, hb⟩
            have H7 := Lib.hid (H6.out.quiet hb)
            clear hb H6
            refine hK.out _ _ (trivial) (fun hHeld => ?_)
            clear hK K
            (try simp only [Act.put, List.setIfInBounds_toArray, List.set_cons_zero, List.set_cons_succ])
            refine wpAnyH_ready (rs := [0]) (by kernel_rfl) (by simp) ?_
            refine anyH_one rfl (fun K hK => ?_) ?_
            · obtain ⟨a0, a1⟩ := (H7.out.at_ 1 rfl).c2
              go_simp
              clear a0 a1
              refine hK.out _ _ (trivial) (fun hHeld => ?_)
              clear hK K
              (try simp only [Act.put, List.setIfInBounds_toArray, List.set_cons_zero, List.set_cons_succ])
              refine wpAnyH_ready (rs := [4]) (by kernel_rfl) (by simp) ?_
              refine anyH_one rfl (fun K hK => ?_) ?_
              · go_simp
                refine (rdropU _ _ (M2) R p 3 t3 H7.out.own (by exact HLEN3.out)).mono ?_
                rw [HM3.out]
                rintro e w8 ⟨A3, n3, c3, rfl, hn, hb⟩
                have H8 := Lib.hid (H7.out.next hn hb)
                clear hn hb H7
                refine hK.out _ _ (trivial) (fun hHeld => ?_)
                clear hK K
                (try simp only [Act.put, List.setIfInBounds_toArray, List.set_cons_zero, List.set_cons_succ])
                refine wpAnyH_ready (rs := [5]) (by kernel_rfl) (by simp) ?_
                refine anyH_one rfl (fun K hK => ?_) ?_
                · obtain ⟨r0, r1⟩ := (H8.out.at_ 1 rfl).c2
                  have g0 := (H8.out.at_ 1 rfl).fz 0; have g1 := (H8.out.at_ 1 rfl).fz 1
                  go_simp
                  generalize hq9 : (w8.setCell _ _).setCell _ _ = w9
                  have H9 := Lib.hid ((H8.out.put 1 rfl (turnB2 _ _ _ _) (setB2 (H8.out.at_ 1 rfl) _ _)).world hq9)
                  clear hq9 H8 r0 g0 r1 g1
                  refine hK.out _ _ (trivial) (fun hHeld => ?_)
                  clear hK K
                  (try simp only [Act.put, List.setIfInBounds_toArray, List.set_cons_zero, List.set_cons_succ])
                  refine wpAnyH_done (by kernel_rfl) ?_ _
                  clear hHeld
                  go_upto_region 4 with (go_at_call 38; refine (HK1.out _).mono ?_; rintro e w10 ⟨rfl, hb⟩; have H10 := Lib.hid (H9.out.quiet hb); clear hb H9)
                  generalize hq9 : w10.alloc _ = w11
                  have H11 := Lib.hid ((H10.out.new (b := w10.heap.size) rfl #[.int .i64 p, .int .i64 1, .int .u64 t1] 80).world hq9)
                  clear hq9 H10
                  generalize w10.heap.size = kb at H11 ⊢
                  obtain ⟨a0, a1⟩ := (H11.out.at_ 2 rfl).c2
                  obtain ⟨k0, k1, k2⟩ := (H11.out.at_ 0 rfl).c3
                  go_upto_region 7 with (go_at_call 37; refine (rgetC_any _ _ _ R p 1 t1 l0 l5 l1 l2 l3 l4 H11.out.own HLEN1.out HG.out true HI.out).mono ?_; rintro e w12 ⟨rfl, hb⟩; have H12 := Lib.hid (H11.out.quiet hb); clear hb H11 a0 a1 k0 k1 k2)
                  generalize hq9 : w12.alloc _ = w13
                  have H13 := Lib.hid ((H12.out.new (b := w12.heap.size) rfl #[.int .u64 l0, .bool l1, .bool l2, .bool l3, .bool l4, .int .u8 l5] 71).world hq9)
                  clear hq9 H12
                  generalize w12.heap.size = lb at H13 ⊢
                  go_upto_region 7 with fail
                  go_cut [10] from 33 (fun s10 w9 => ∃ mb : Nat, s10 = .pointer (some ⟨mb, 0, none⟩) ∧ Hid (Dv w w9 (.slice A n c) (.slice A3 n3 c3) M3 [⟨mb, #[.int .u64 m0, .bool m1, .bool m2, .bool m3, .bool m4, .int .u8 m5], 71⟩, ⟨kb, #[.int .i64 p, .int .i64 1, .int .u64 t1], 80⟩, ⟨bc + 1, #[.slice none 0 0, .int .i64 0], 28⟩, ⟨bc, #[.slice A3 n3 c3, .int .i64 R], 28⟩]))
                  case first =>
                    have H14 := Lib.hid (H13.out.quiet (Kept.drew0 w13))
                    clear H13
                    refine wp_region_held_drew (S := fun w' => Blk w' lb #[.int .u64 l0, .bool l1, .bool l2, .bool l3, .bool l4, .int .u8 l5] 71) (by kernel_rfl) (H14.out.at_ 0 rfl) (fun hHeld => ?_)
                    generalize w13.drew = w14 at *
                    refine tk (v := ?_) 0 ?_ ?_
                    rotate_left
                    · intro w hSw
                      obtain ⟨q0, q1, q2, q3, q4, q5⟩ := hSw.c6
                      go_simp
                      (try with_reducible rfl)
                    (try simp only [Act.put, List.setIfInBounds_toArray, List.set_cons_zero, List.set_cons_succ])
                    refine tk (v := ?_) 1 ?_ ?_
                    rotate_left
                    · intro w hSw
                      go_simp
                      (try with_reducible rfl)
                    (try simp only [Act.put, List.setIfInBounds_toArray, List.set_cons_zero, List.set_cons_succ])
                    refine wpAnyH_ready (rs := [2, 4]) (by kernel_rfl) (by simp) ?_
                    refine anyH_one rfl (fun K hK => ?_) ?_
                    · go_simp
                      refine (HPL.out _).mono ?_
                      rintro e _ ⟨rfl, rfl⟩
                      refine hK.out _ _ ((H14.out.at_ 0 rfl)) (fun hHeld => ?_)
                      clear hK K
                      (try simp only [Act.put, List.setIfInBounds_toArray, List.set_cons_zero, List.set_cons_succ])
                      refine wpAnyH_ready (rs := [3, 4]) (by kernel_rfl) (by simp) ?_
                      refine anyH_one rfl (fun K hK => ?_) ?_
                      · go_simp
                        refine (HW.out _).mono ?_
                        rintro e w15 ⟨rfl, hb⟩
                        have H15 := Lib.hid (H14.out.quiet hb)
                        clear hb H14
                        refine hK.out _ _ ((H15.out.at_ 0 rfl)) (fun hHeld => ?_)
                        clear hK K
                        (try simp only [Act.put, List.setIfInBounds_toArray, List.set_cons_zero, List.set_cons_succ])
                        refine wpAnyH_ready (rs := [4]) (by kernel_rfl) (by simp) ?_
                        refine anyH_one rfl (fun K hK => ?_) ?_
                        · go_simp
                          generalize hq9 : w15.alloc _ = w16
                          have H16 := Lib.hid ((H15.out.new (b := w15.heap.size) rfl #[.int .u64 0, .bool false, .bool false, .bool false, .bool false, .int .u8 0] 71).world hq9)
                          clear hq9 H15
                          generalize w15.heap.size = mb at H16 ⊢
                          refine hK.out _ _ ((H16.out.at_ 1 rfl)) (fun hHeld => ?_)
                          clear hK K
                          (try simp only [Act.put, List.setIfInBounds_toArray, List.set_cons_zero, List.set_cons_succ])
                          refine wpAnyH_ready (rs := [5]) (by kernel_rfl) (by simp) ?_
                          refine anyH_one rfl (fun K hK => ?_) ?_
                          · obtain ⟨r0, r1, r2, r3, r4, r5⟩ := (H16.out.at_ 0 rfl).c6
                            have g0 := (H16.out.at_ 0 rfl).fz 0; have g1 := (H16.out.at_ 0 rfl).fz 1; have g2 := (H16.out.at_ 0 rfl).fz 2; have g3 := (H16.out.at_ 0 rfl).fz 3; have g4 := (H16.out.at_ 0 rfl).fz 4; have g5 := (H16.out.at_ 0 rfl).fz 5
                            go_simp
                            generalize hq9 : (((((w16.setCell _ _).setCell _ _).setCell _ _).setCell _ _).setCell _ _).setCell _ _ = w17
                            have H17 := Lib.hid ((H16.out.put 0 rfl (turnB6 _ _ _ _ _ _ _ _) (setB6 (H16.out.at_ 0 rfl) _ _ _ _ _ _)).world hq9)
                            clear hq9 H16 r0 g0 r1 g1 r2 g2 r3 g3 r4 g4 r5 g5
                            refine hK.out _ _ ((H17.out.at_ 1 rfl)) (fun hHeld => ?_)
                            clear hK K
                            (try simp only [Act.put, List.setIfInBounds_toArray, List.set_cons_zero, List.set_cons_succ])
                            refine wpAnyH_done (by kernel_rfl) ?_ _
                            clear hHeld
                            go_wp2
                            go_meet
                            case rel => exact ⟨mb, rfl, H17.out.pick [0, 2, 3, 4]⟩
                          exact AllReadyH.nil
                        exact AllReadyH.nil
                      refine anyH_one rfl (fun K hK => ?_) ?_
                      · go_simp
                        generalize hq9 : w14.alloc _ = w15
                        have H15 := Lib.hid ((H14.out.new (b := w14.heap.size) rfl #[.int .u64 0, .bool false, .bool false, .bool false, .bool false, .int .u8 0] 71).world hq9)
                        clear hq9 H14
                        generalize w14.heap.size = mb at H15 ⊢
                        refine hK.out _ _ ((H15.out.at_ 1 rfl)) (fun hHeld => ?_)
                        clear hK K
                        (try simp only [Act.put, List.setIfInBounds_toArray, List.set_cons_zero, List.set_cons_succ])
                        refine wpAnyH_ready (rs := [3]) (by kernel_rfl) (by simp) ?_
                        refine anyH_one rfl (fun K hK => ?_) ?_
                        · go_simp
                          refine (HW.out _).mono ?_
                          rintro e w16 ⟨rfl, hb⟩
                          have H16 := Lib.hid (H15.out.quiet hb)
                          clear hb H15
                          refine hK.out _ _ ((H16.out.at_ 1 rfl)) (fun hHeld => ?_)
                          clear hK K
                          (try simp only [Act.put, List.setIfInBounds_toArray, List.set_cons_zero, List.set_cons_succ])
                          refine wpAnyH_ready (rs := [5]) (by kernel_rfl) (by simp) ?_
                          refine anyH_one rfl (fun K hK => ?_) ?_
                          · obtain ⟨r0, r1, r2, r3, r4, r5⟩ := (H16.out.at_ 0 rfl).c6
                            have g0 := (H16.out.at_ 0 rfl).fz 0; have g1 := (H16.out.at_ 0 rfl).fz 1; have g2 := (H16.out.at_ 0 rfl).fz 2; have g3 := (H16.out.at_ 0 rfl).fz 3; have g4 := (H16.out.at_ 0 rfl).fz 4; have g5 := (H16.out.at_ 0 rfl).fz 5
                            go_simp
                            generalize hq9 : (((((w16.setCell _ _).setCell _ _).setCell _ _).setCell _ _).setCell _ _).setCell _ _ = w17
                            have H17 := Lib.hid ((H16.out.put 0 rfl (turnB6 _ _ _ _ _ _ _ _) (setB6 (H16.out.at_ 0 rfl) _ _ _ _ _ _)).world hq9)
                            clear hq9 H16 r0 g0 r1 g1 r2 g2 r3 g3 r4 g4 r5 g5
                            refine hK.out _ _ ((H17.out.at_ 1 rfl)) (fun hHeld => ?_)
                            clear hK K
                            (try simp only [Act.put, List.setIfInBounds_toArray, List.set_cons_zero, List.set_cons_succ])
                            refine wpAnyH_done (by kernel_rfl) ?_ _
                            clear hHeld
                            go_wp2
                            go_meet
                            case rel => exact ⟨mb, rfl, H17.out.pick [0, 2, 3, 4]⟩
                          exact AllReadyH.nil
                        exact AllReadyH.nil
                      exact AllReadyH.nil
                    refine anyH_one rfl (fun K hK => ?_) ?_
                    · go_simp
                      generalize hq9 : w14.alloc _ = w15
                      have H15 := Lib.hid ((H14.out.new (b := w14.heap.size) rfl #[.int .u64 0, .bool false, .bool false, .bool false, .bool false, .int .u8 0] 71).world hq9)
                      clear hq9 H14
                      generalize w14.heap.size = mb at H15 ⊢
                      refine hK.out _ _ ((H15.out.at_ 1 rfl)) (fun hHeld => ?_)
                      clear hK K
                      (try simp only [Act.put, List.setIfInBounds_toArray, List.set_cons_zero, List.set_cons_succ])
                      refine wpAnyH_ready (rs := [2]) (by kernel_rfl) (by simp) ?_
                      refine anyH_one rfl (fun K hK => ?_) ?_
                      · go_simp
                        refine (HPL.out _).mono ?_
                        rintro e _ ⟨rfl, rfl⟩
                        refine hK.out _ _ ((H15.out.at_ 1 rfl)) (fun hHeld => ?_)
                        clear hK K
                        (try simp only [Act.put, List.setIfInBounds_toArray, List.set_cons_zero, List.set_cons_succ])
                        refine wpAnyH_ready (rs := [3]) (by kernel_rfl) (by simp) ?_
                        refine anyH_one rfl (fun K hK => ?_) ?_
                        · go_simp
                          refine (HW.out _).mono ?_
                          rintro e w16 ⟨rfl, hb⟩
                          have H16 := Lib.hid (H15.out.quiet hb)
                          clear hb H15
                          refine hK.out _ _ ((H16.out.at_ 1 rfl)) (fun hHeld => ?_)
                          clear hK K
                          (try simp only [Act.put, List.setIfInBounds_toArray, List.set_cons_zero, List.set_cons_succ])
                          refine wpAnyH_ready (rs := [5]) (by kernel_rfl) (by simp) ?_
                          refine anyH_one rfl (fun K hK => ?_) ?_
                          · obtain ⟨r0, r1, r2, r3, r4, r5⟩ := (H16.out.at_ 0 rfl).c6
                            have g0 := (H16.out.at_ 0 rfl).fz 0; have g1 := (H16.out.at_ 0 rfl).fz 1; have g2 := (H16.out.at_ 0 rfl).fz 2; have g3 := (H16.out.at_ 0 rfl).fz 3; have g4 := (H16.out.at_ 0 rfl).fz 4; have g5 := (H16.out.at_ 0 rfl).fz 5
                            go_simp
                            generalize hq9 : (((((w16.setCell _ _).setCell _ _).setCell _ _).setCell _ _).setCell _ _).setCell _ _ = w17
                            have H17 := Lib.hid ((H16.out.put 0 rfl (turnB6 _ _ _ _ _ _ _ _) (setB6 (H16.out.at_ 0 rfl) _ _ _ _ _ _)).world hq9)
                            clear hq9 H16 r0 g0 r1 g1 r2 g2 r3 g3 r4 g4 r5 g5
                            refine hK.out _ _ ((H17.out.at_ 1 rfl)) (fun hHeld => ?_)
                            clear hK K
                            (try simp only [Act.put, List.setIfInBounds_toArray, List.set_cons_zero, List.set_cons_succ])
                            refine wpAnyH_done (by kernel_rfl) ?_ _
                            clear hHeld
                            go_wp2
                            go_meet
                            case rel => exact ⟨mb, rfl, H17.out.pick [0, 2, 3, 4]⟩
                          exact AllReadyH.nil
                        exact AllReadyH.nil
                      exact AllReadyH.nil
                    exact AllReadyH.nil
                  case rest =>
                    obtain ⟨mb, rfl, H40⟩ := hcut
                    generalize wc = w40 at *
                    obtain ⟨q0, q1, q2, q3, q4, q5⟩ := (H40.out.at_ 0 rfl).c6
                    obtain ⟨k0, k1, k2⟩ := (H40.out.at_ 1 rfl).c3
                    obtain ⟨a0, a1⟩ := (H40.out.at_ 3 rfl).c2
                    go_wp2_with (go_at_call 53; refine (rputU _ _ _ R p 1 t1 m0 m5 0 m1 m2 m3 m4 H40.out.own HLEN9.out (show I64 0 by unfold I64; omega)).mono ?_; rintro e w41 ⟨A4, n4, c4, rfl, hn, hb⟩; have H41 := Lib.hid (H40.out.next hn hb); clear hn hb H40 q0 q1 q2 q3 q4 q5 k0 k1 k2 a0 a1; obtain ⟨r0, r1⟩ := (H41.out.at_ 2 rfl).c2; have g0 := (H41.out.at_ 2 rfl).fz 0; have g1 := (H41.out.at_ 2 rfl).fz 1)
                    generalize hq9 : (w41.setCell _ _).setCell _ _ = w42
                    have H42 := Lib.hid ((H41.out.put 2 rfl (turnB2 _ _ _ _) (setB2 (H41.out.at_ 2 rfl) _ _)).world hq9)
                    clear hq9 H41 r0 g0 r1 g1
                    refine bodyPost_ret (results_cell_row rfl _ _ (bc + 1) _ _ _ _ rfl (H42.out.at_ 2 rfl) Tryd.underlying28 rfl rfl) rfl ⟨_, _, _, rfl, H42.out.p, by first | exact H42.out.below | (rw [← HBC.out]; exact H42.out.below)⟩
                exact AllReadyH.nil
              exact AllReadyH.nil
            exact AllReadyH.nil
          exact AllReadyH.nil
        exact AllReadyH.nil
      exact AllReadyH.nil
    exact AllReadyH.nil
  exact AllReadyH.nil
end
end Go.Proofs.YtddbjbdhbeijjaaDoor
