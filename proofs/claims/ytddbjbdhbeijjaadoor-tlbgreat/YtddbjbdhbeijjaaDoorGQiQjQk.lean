/- Several texts of ours in one: Qi, Qj, Qk. -/
import Derived.Test.YtddbjbdhbeijjaaDoorGQdQeCm
import Derived.Test.YtddbjbdhbeijjaaDoorQh
/- Layer 13: lined, hit, do; deeds. (Laid by tools/gen_qi.py.) -/
namespace Go.Proofs.YtddbjbdhbeijjaaDoor
set_option linter.unusedVariables false
set_option linter.unusedSimpArgs false
open Go.ChangeShapes Go.WideShapes Go.ChangeAt Go.RowKit Go.Joins

set_option maxRecDepth 100000 in
theorem lined13_any (l : Ln) (w : World) :
    Calls Tryd.prog 31 #[lineV l] w fun e w' => e = .returned (lineV l) ∧ Below w.heap.size w w' := by
  go_enter Tryd.func31, Tryd.ntmps31
  go_wp2
  exact bodyPost_ret (results_cell_row rfl _ _ (w.heap.size + 1) _ _ _ _ rfl (last_obj2 w _ _) Tryd.underlying71 rfl rfl) rfl ⟨rfl, below2' _ _ _⟩
set_option maxRecDepth 100000 in
theorem hit13_any (h : Ht) (w : World) :
    Calls Tryd.prog 15 #[hitV h] w fun e w' => e = .returned (hitV h) ∧ Below w.heap.size w w' := by
  go_enter Tryd.func15, Tryd.ntmps15
  go_wp2
  exact bodyPost_ret (results_cell_row rfl _ _ (w.heap.size + 1) _ _ _ _ rfl (last_obj2 w _ _) Tryd.underlying44 rfl rfl) rfl ⟨rfl, below2' _ _ _⟩

/-- a deed: kind, PCID, pick, address, line, hit -/
structure Dt where
  kd : Int
  p : Int
  pk : Int
  a : Int
  l : Ln
  h : Ht
def zDt : Dt := ⟨0, 0, 0, 0, zL, zH⟩
structure OkD (y : Dt) : Prop where
  p : I64 y.p
  pk : I64 y.pk
  a : W64 y.a
  l : OkL y.l
abbrev deedC (y : Dt) : Array Value := #[.int .i64 y.kd, .int .i64 y.p, .int .i64 y.pk, .int .u64 y.a, .int .u64 y.l.1, .bool y.l.2.1, .bool y.l.2.2.1, .bool y.l.2.2.2.1, .bool y.l.2.2.2.2.1, .int .u8 y.l.2.2.2.2.2, .int .u64 y.h.1, .int .i64 y.h.2.1, .bool y.h.2.2.1, .bool y.h.2.2.2.1, .bool y.h.2.2.2.2.1, .bool y.h.2.2.2.2.2]
/-- what a deed does to the lines -/
def doD (R : Nat) (L : List Pr) (y : Dt) : List Pr :=
  if y.kd = 1 then smallT R L y.p y.a y.l y.pk else if y.kd = 2 then bigT R L y.p y.a y.h y.pk else if y.kd = 3 then dropT R L y.p y.a else if y.kd = 4 then ofK L y.p else if y.kd = 5 then [] else if y.kd = 6 then evK L y.pk else L

abbrev rowQ (v : Value) (M : List Pr) : RowD := ⟨99, 9, v, M.length, pcs M⟩
theorem Blk.c16 {w : World} {b : Nat} {t : TypeId} {x0 x1 x2 x3 x4 x5 x6 x7 x8 x9 x10 x11 x12 x13 x14 x15 : Value} (h : Blk w b #[x0, x1, x2, x3, x4, x5, x6, x7, x8, x9, x10, x11, x12, x13, x14, x15] t) : w.cell? ⟨b, 0, none⟩ = some x0 ∧ w.cell? ⟨b, 1, none⟩ = some x1 ∧ w.cell? ⟨b, 2, none⟩ = some x2 ∧ w.cell? ⟨b, 3, none⟩ = some x3 ∧ w.cell? ⟨b, 4, none⟩ = some x4 ∧ w.cell? ⟨b, 5, none⟩ = some x5 ∧ w.cell? ⟨b, 6, none⟩ = some x6 ∧ w.cell? ⟨b, 7, none⟩ = some x7 ∧ w.cell? ⟨b, 8, none⟩ = some x8 ∧ w.cell? ⟨b, 9, none⟩ = some x9 ∧ w.cell? ⟨b, 10, none⟩ = some x10 ∧ w.cell? ⟨b, 11, none⟩ = some x11 ∧ w.cell? ⟨b, 12, none⟩ = some x12 ∧ w.cell? ⟨b, 13, none⟩ = some x13 ∧ w.cell? ⟨b, 14, none⟩ = some x14 ∧ w.cell? ⟨b, 15, none⟩ = some x15 :=
  ⟨h.cell 0 rfl, h.cell 1 rfl, h.cell 2 rfl, h.cell 3 rfl, h.cell 4 rfl, h.cell 5 rfl, h.cell 6 rfl, h.cell 7 rfl, h.cell 8 rfl, h.cell 9 rfl, h.cell 10 rfl, h.cell 11 rfl, h.cell 12 rfl, h.cell 13 rfl, h.cell 14 rfl, h.cell 15 rfl⟩

section
variable {w wr w3 : World} {F G : Nat → Prop} {os : List ObjT} {bs : List BoxD} {rs : List RowD} {v u : Value} {q R : Nat} {L L' M M' : List Pr}
/-- the document's call has answered -/
theorem Has.doc1 (h : Has w wr F os bs [rowQ v M]) (hb : Below wr.heap.size wr w3) (hn : PairsNew wr w3 v u M') : Has w w3 F os bs [rowQ u M'] := by
  have hq := h.quiet hb
  refine ⟨hq.obj, hq.apart, ⟨hq.hold.box, fun r hr => ?_, hq.hold.once, hq.hold.lt⟩, hq.low, hq.turn⟩
  obtain rfl := List.mem_singleton.1 hr
  refine ⟨hn.1, fun i hi hg => ?_⟩
  rcases hn.2 with e | e
  · rw [e] at hi
    obtain ⟨o, ho, hg⟩ := hg
    exact h.off 0 rfl i hi ⟨o, ho, hg⟩
  · obtain ⟨o, ho, hg⟩ := hg
    have h1 := ((h.obj o ho).2.2 i hg).1
    have h2 := e i hi
    omega
theorem Has.own1 (h : Has w wr F os bs [rowQ v M]) : PairsOwn wr 0 v M := h.of_ 0 rfl
/-- a call of the translations' has turned them -/
theorem Has.acts {f : FuncId} {args : Array Value} (h : Has w wr F (⟨tlbT q R L, G⟩ :: os) bs rs) (hc : Calls Tryd.prog f args wr fun e w2 => e = .returned (.tuple #[]) ∧ TV wr G (some q) R L' w2 []) :
    Calls Tryd.prog f args wr fun e w2 => e = .returned (.tuple #[]) ∧ Hid (∃ G', Has w w2 F (⟨tlbT q R L', G'⟩ :: os) bs rs) :=
  hc.mono fun e w2 ⟨he, hv⟩ => ⟨he, Lib.hid ⟨_, h.did 0 rfl (firm_tlb _ _ _) hv.out.1 hv.out.2⟩⟩
theorem Has.tv (h : Has w wr F (⟨tlbT q R L, G⟩ :: os) bs rs) : TV wr G (some q) R L wr [] := TV.start (h.the 0 rfl)
theorem Has.tSmall (h : Has w wr F (⟨tlbT q R L, G⟩ :: os) bs rs) (ht : Tabs w) (hF : Off F) (p a : Int) (hp : I64 p) (ha : W64 a) (l : Ln) (hl : OkL l) (k : Int) (hk : I64 k) :
    Calls Tryd.prog 18 #[ptrV q, .int .i64 p, .int .u64 a, lineV l, .int .i64 k] wr fun e w2 => e = .returned (.tuple #[]) ∧ Hid (∃ G', Has w w2 F (⟨tlbT q R (smallT R L p a l k), G'⟩ :: os) bs rs) :=
  h.acts (tlbSmall_any p a h.tv (h.tabs ht hF) hp ha l hl k hk)
theorem Has.tGreat (h : Has w wr F (⟨tlbT q R L, G⟩ :: os) bs rs) (ht : Tabs w) (hF : Off F) (p a : Int) (hp : I64 p) (ha : W64 a) (g : Ht) (k : Int) (hk : I64 k) :
    Calls Tryd.prog 20 #[ptrV q, .int .i64 p, .int .u64 a, hitV g, .int .i64 k] wr fun e w2 => e = .returned (.tuple #[]) ∧ Hid (∃ G', Has w w2 F (⟨tlbT q R (bigT R L p a g k), G'⟩ :: os) bs rs) :=
  h.acts (tlbGreatP_any p a h.tv (h.tabs ht hF) hp ha g k hk)
theorem Has.tDrop (h : Has w wr F (⟨tlbT q R L, G⟩ :: os) bs rs) (ht : Tabs w) (hF : Off F) (p a : Int) (hp : I64 p) (ha : W64 a) :
    Calls Tryd.prog 22 #[ptrV q, .int .i64 p, .int .u64 a] wr fun e w2 => e = .returned (.tuple #[]) ∧ Hid (∃ G', Has w w2 F (⟨tlbT q R (dropT R L p a), G'⟩ :: os) bs rs) :=
  h.acts (tlbDropPage_any p a h.tv (h.tabs ht hF) (h.offs ht hF 0 rfl) hp ha)
theorem Has.tOf (h : Has w wr F (⟨tlbT q R L, G⟩ :: os) bs rs) (p : Int) :
    Calls Tryd.prog 24 #[ptrV q, .int .i64 p] wr fun e w2 => e = .returned (.tuple #[]) ∧ Hid (∃ G', Has w w2 F (⟨tlbT q R (ofK L p), G'⟩ :: os) bs rs) :=
  h.acts (tlbDropOf_any p h.tv)
theorem Has.tClear (h : Has w wr F (⟨tlbT q R L, G⟩ :: os) bs rs) :
    Calls Tryd.prog 25 #[ptrV q] wr fun e w2 => e = .returned (.tuple #[]) ∧ Hid (∃ G', Has w w2 F (⟨tlbT q R ([]), G'⟩ :: os) bs rs) :=
  h.acts (tlbClear_any h.tv)
theorem Has.tEvict (h : Has w wr F (⟨tlbT q R L, G⟩ :: os) bs rs) (p : Int) (hp : I64 p) :
    Calls Tryd.prog 26 #[ptrV q, .int .i64 p] wr fun e w2 => e = .returned (.tuple #[]) ∧ Hid (∃ G', Has w w2 F (⟨tlbT q R (evK L p), G'⟩ :: os) bs rs) :=
  h.acts (tlbEvict_any p h.tv hp)
theorem Has.tLook (h : Has w wr F (⟨tlbT q R L, G⟩ :: os) bs rs) (ht : Tabs w) (hF : Off F) (p a : Int) (hp : I64 p) (ha : W64 a) :
    Calls Tryd.prog 13 #[ptrV q, .int .i64 p, .int .u64 a] wr fun e w' => e = .returned (ansT (lookT L p a)) ∧ Below wr.heap.size wr w' := by
  have h1 := tlbLook_any p a h.tv (h.tabs ht hF) hp ha
  exact h1
theorem Has.tLen (h : Has w wr F (⟨tlbT q R L, G⟩ :: os) bs rs) :
    Calls Tryd.prog 16 #[ptrV q] wr fun e w' => e = .returned (.int .i64 L.length) ∧ Below wr.heap.size wr w' := by
  have h1 := tlbLen_any h.tv
  exact h1
end
set_option maxRecDepth 100000 in
set_option maxHeartbeats 3200000 in
theorem do13_small {w : World} {F : Nat → Prop} {q R : Nat} {L : List Pr} (h : tlbT q R L w F) (hR : R ≤ 64) (ht : Tabs w) (hF : Off F) (v : Value) (hx : PairsOwn w 0 v L) (hv : ∀ i, v.ownBlock = some i → ¬ F i)
    (kd p pk a l0 l5 h0 h1 : Int) (l1 l2 l3 l4 h2 h3 h4 h5 : Bool) (hp : I64 p) (hk : I64 pk) (ha : W64 a) (hl : OkL (l0, l1, l2, l3, l4, l5)) :
    Calls Tryd.prog 12 #[ptrV q, .agg #[v, .int .i64 R], .agg #[.int .i64 1, .int .i64 p, .int .i64 pk, .int .u64 a, .int .u64 l0, .bool l1, .bool l2, .bool l3, .bool l4, .int .u8 l5, .int .u64 h0, .int .i64 h1, .bool h2, .bool h3, .bool h4, .bool h5]] w fun e w' =>
      ∃ u, e = .returned (.agg #[u, .int .i64 R]) ∧ ∃ G, Has w w' F [⟨tlbT q R (smallT R L p a (l0, l1, l2, l3, l4, l5) pk), G⟩] [] [rowQ u (smallT R L p a (l0, l1, l2, l3, l4, l5) pk)] := by
  obtain ⟨B0, m0, d0, rfl⟩ := hx.slice
  have HT := Lib.hid ht
  have HF := Lib.hid hF
  have HPP := Lib.hid hp
  have HAA := Lib.hid ha
  have HKK := Lib.hid hk
  have HLL := Lib.hid hl
  have HLE : Hid (L.length ≤ 900) := Lib.hid (Nat.le_trans h.len.1 (Nat.le_trans hR (by decide)))
  have HLE2 : Hid (L.length ≤ 1000) := Lib.hid (Nat.le_trans HLE.out (by decide))
  have HND := Lib.hid h.nodup
  have HOK := Lib.hid h.ok
  have H0 := Lib.hid (((((Has.start (firm_tlb q R L) h).got hx (fun i hi ⟨o, ho, hg⟩ => by obtain rfl := List.mem_singleton.1 ho; exact hv i hi hg.1)).new (b := w.heap.size) rfl #[.slice B0 m0 d0, .int .i64 (R : Int)] 28).new (b := w.heap.size + 1) (by simp) #[.int .i64 1, .int .i64 p, .int .i64 pk, .int .u64 a, .int .u64 l0, .bool l1, .bool l2, .bool l3, .bool l4, .int .u8 l5, .int .u64 h0, .int .i64 h1, .bool h2, .bool h3, .bool h4, .bool h5] 39).new (b := w.heap.size + 1 + 1) (by simp) #[.slice none 0 0, .int .i64 0] 28)
  clear h hR ht hF hx hv hp ha hk hl
  go_enter Tryd.func12, Tryd.ntmps12
  go_upto_region 1 with fail
  generalize hw1 : ((w.alloc _).alloc _).alloc _ = w1
  have H1 := Lib.hid (H0.out.world hw1)
  clear hw1 H0
  obtain ⟨b, hb⟩ : ∃ b, w.heap.size = b := ⟨_, rfl⟩
  rw [hb] at H1 ⊢
  clear hb
  obtain ⟨e0, e1, e2, e3, e4, e5, e6, e7, e8, e9, e10, e11, e12, e13, e14, e15⟩ := (H1.out.at_ 1 rfl).c16
  go_upto_region 4 with (go_at_call 18; refine (H1.out.tSmall HT.out HF.out p a HPP.out HAA.out (l0, l1, l2, l3, l4, l5) HLL.out pk HKK.out).mono ?_; rintro e w2 ⟨rfl, hE⟩; obtain ⟨G2, hE2⟩ := hE.out; have H2 := Lib.hid hE2; clear hE hE2 H1 e0 e1 e2 e3 e4 e5 e6 e7 e8 e9 e10 e11 e12 e13 e14 e15)
  have H3 := Lib.hid (H2.out.quiet (Kept.drew0 w2))
  clear H2
  refine wp_region_held_drew (S := fun w' => Blk w' b #[.slice B0 m0 d0, .int .i64 (R : Int)] 28 ∧ Blk w' (b + 1) #[.int .i64 1, .int .i64 p, .int .i64 pk, .int .u64 a, .int .u64 l0, .bool l1, .bool l2, .bool l3, .bool l4, .int .u8 l5, .int .u64 h0, .int .i64 h1, .bool h2, .bool h3, .bool h4, .bool h5] 39) (by kernel_rfl) ⟨H3.out.at_ 2 rfl, H3.out.at_ 1 rfl⟩ (fun hHeld => ?_)
  generalize w2.drew = w3 at *
  refine tk (v := ?_) 0 ?_ ?_
  rotate_left
  · intro w hSw
    obtain ⟨a0, a1⟩ := hSw.1.c2
    go_simp
    (try with_reducible rfl)
  (try simp only [Act.put, List.setIfInBounds_toArray, List.set_cons_zero, List.set_cons_succ])
  refine tk (v := ?_) 1 ?_ ?_
  rotate_left
  · intro w hSw
    go_simp
    (try with_reducible rfl)
  (try simp only [Act.put, List.setIfInBounds_toArray, List.set_cons_zero, List.set_cons_succ])
  refine tk (v := ?_) 2 ?_ ?_
  rotate_left
  · intro w hSw
    obtain ⟨e0, e1, e2, e3, e4, e5, e6, e7, e8, e9, e10, e11, e12, e13, e14, e15⟩ := hSw.2.c16
    go_simp
    (try with_reducible rfl)
  (try simp only [Act.put, List.setIfInBounds_toArray, List.set_cons_zero, List.set_cons_succ])
  refine tk (v := ?_) 3 ?_ ?_
  rotate_left
  · intro w hSw
    go_simp
    (try with_reducible rfl)
  (try simp only [Act.put, List.setIfInBounds_toArray, List.set_cons_zero, List.set_cons_succ])
  refine tk (v := ?_) 4 ?_ ?_
  rotate_left
  · intro w hSw
    obtain ⟨e0, e1, e2, e3, e4, e5, e6, e7, e8, e9, e10, e11, e12, e13, e14, e15⟩ := hSw.2.c16
    go_simp
    (try with_reducible rfl)
  (try simp only [Act.put, List.setIfInBounds_toArray, List.set_cons_zero, List.set_cons_succ])
  refine tk (v := ?_) 5 ?_ ?_
  rotate_left
  · intro w hSw
    go_simp
    (try with_reducible rfl)
  (try simp only [Act.put, List.setIfInBounds_toArray, List.set_cons_zero, List.set_cons_succ])
  refine tk (v := ?_) 6 ?_ ?_
  rotate_left
  · intro w hSw
    obtain ⟨e0, e1, e2, e3, e4, e5, e6, e7, e8, e9, e10, e11, e12, e13, e14, e15⟩ := hSw.2.c16
    go_simp
    (try with_reducible rfl)
  (try simp only [Act.put, List.setIfInBounds_toArray, List.set_cons_zero, List.set_cons_succ])
  refine tk (v := ?_) 8 ?_ ?_
  rotate_left
  · intro w hSw
    go_simp
    (try with_reducible rfl)
  (try simp only [Act.put, List.setIfInBounds_toArray, List.set_cons_zero, List.set_cons_succ])
  refine tk (v := ?_) 9 ?_ ?_
  rotate_left
  · intro w hSw
    obtain ⟨e0, e1, e2, e3, e4, e5, e6, e7, e8, e9, e10, e11, e12, e13, e14, e15⟩ := hSw.2.c16
    go_simp
    (try with_reducible rfl)
  (try simp only [Act.put, List.setIfInBounds_toArray, List.set_cons_zero, List.set_cons_succ])
  refine wpAnyH_ready (rs := [7]) (by kernel_rfl) (by simp) ?_
  refine anyH_one rfl (fun K hK => ?_) ?_
  · go_simp
    refine (lined13_any (l0, l1, l2, l3, l4, l5) _).mono ?_
    rintro e w4 ⟨rfl, hb⟩
    have H4 := Lib.hid (H3.out.quiet hb)
    clear hb H3
    refine hK.out _ _ (⟨H4.out.at_ 2 rfl, H4.out.at_ 1 rfl⟩) (fun hHeld => ?_)
    clear hK K
    (try simp only [Act.put, List.setIfInBounds_toArray, List.set_cons_zero, List.set_cons_succ])
    refine wpAnyH_ready (rs := [10]) (by kernel_rfl) (by simp) ?_
    refine anyH_one rfl (fun K hK => ?_) ?_
    · go_simp
      refine (rsmallT_any p a _ R H4.out.own1 HLE.out HPP.out HAA.out (l0, l1, l2, l3, l4, l5) pk HKK.out).mono ?_
      rintro e w5 ⟨A0, n0, c0, rfl, hn, hb⟩
      have H5 := Lib.hid (H4.out.doc1 hb hn)
      clear hn hb H4
      refine hK.out _ _ (⟨H5.out.at_ 2 rfl, H5.out.at_ 1 rfl⟩) (fun hHeld => ?_)
      clear hK K
      (try simp only [Act.put, List.setIfInBounds_toArray, List.set_cons_zero, List.set_cons_succ])
      refine wpAnyH_ready (rs := [11]) (by kernel_rfl) (by simp) ?_
      refine anyH_one rfl (fun K hK => ?_) ?_
      · obtain ⟨r0, r1⟩ := (H5.out.at_ 0 rfl).c2
        have g0 := (H5.out.at_ 0 rfl).fz 0; have g1 := (H5.out.at_ 0 rfl).fz 1
        go_simp
        generalize hq9 : (w5.setCell _ _).setCell _ _ = w6
        have H6 := Lib.hid ((H5.out.put 0 rfl (turnB2 _ _ _ _) (setB2 (H5.out.at_ 0 rfl) _ _)).world hq9)
        clear hq9 H5 r0 r1 g0 g1
        refine hK.out _ _ (⟨H6.out.at_ 2 rfl, H6.out.at_ 1 rfl⟩) (fun hHeld => ?_)
        clear hK K
        (try simp only [Act.put, List.setIfInBounds_toArray, List.set_cons_zero, List.set_cons_succ])
        refine wpAnyH_done (by kernel_rfl) ?_ _
        clear hHeld
        go_wp2
        exact bodyPost_ret (results_cell_row rfl _ _ (b + 1 + 1) _ _ _ _ rfl (H6.out.at_ 0 rfl) Tryd.underlying28 rfl rfl) rfl ⟨_, rfl, _, H6.out.pick [] [0]⟩
      exact AllReadyH.nil
    exact AllReadyH.nil
  exact AllReadyH.nil
set_option maxRecDepth 100000 in
set_option maxHeartbeats 3200000 in
theorem do13_great {w : World} {F : Nat → Prop} {q R : Nat} {L : List Pr} (h : tlbT q R L w F) (hR : R ≤ 64) (ht : Tabs w) (hF : Off F) (v : Value) (hx : PairsOwn w 0 v L) (hv : ∀ i, v.ownBlock = some i → ¬ F i)
    (kd p pk a l0 l5 h0 h1 : Int) (l1 l2 l3 l4 h2 h3 h4 h5 : Bool) (hp : I64 p) (hk : I64 pk) (ha : W64 a) (hl : OkL (l0, l1, l2, l3, l4, l5)) :
    Calls Tryd.prog 12 #[ptrV q, .agg #[v, .int .i64 R], .agg #[.int .i64 2, .int .i64 p, .int .i64 pk, .int .u64 a, .int .u64 l0, .bool l1, .bool l2, .bool l3, .bool l4, .int .u8 l5, .int .u64 h0, .int .i64 h1, .bool h2, .bool h3, .bool h4, .bool h5]] w fun e w' =>
      ∃ u, e = .returned (.agg #[u, .int .i64 R]) ∧ ∃ G, Has w w' F [⟨tlbT q R (bigT R L p a (h0, h1, h2, h3, h4, h5) pk), G⟩] [] [rowQ u (bigT R L p a (h0, h1, h2, h3, h4, h5) pk)] := by
  obtain ⟨B0, m0, d0, rfl⟩ := hx.slice
  have HT := Lib.hid ht
  have HF := Lib.hid hF
  have HPP := Lib.hid hp
  have HAA := Lib.hid ha
  have HKK := Lib.hid hk
  have HLL := Lib.hid hl
  have HLE : Hid (L.length ≤ 900) := Lib.hid (Nat.le_trans h.len.1 (Nat.le_trans hR (by decide)))
  have HLE2 : Hid (L.length ≤ 1000) := Lib.hid (Nat.le_trans HLE.out (by decide))
  have HND := Lib.hid h.nodup
  have HOK := Lib.hid h.ok
  have H0 := Lib.hid (((((Has.start (firm_tlb q R L) h).got hx (fun i hi ⟨o, ho, hg⟩ => by obtain rfl := List.mem_singleton.1 ho; exact hv i hi hg.1)).new (b := w.heap.size) rfl #[.slice B0 m0 d0, .int .i64 (R : Int)] 28).new (b := w.heap.size + 1) (by simp) #[.int .i64 2, .int .i64 p, .int .i64 pk, .int .u64 a, .int .u64 l0, .bool l1, .bool l2, .bool l3, .bool l4, .int .u8 l5, .int .u64 h0, .int .i64 h1, .bool h2, .bool h3, .bool h4, .bool h5] 39).new (b := w.heap.size + 1 + 1) (by simp) #[.slice none 0 0, .int .i64 0] 28)
  clear h hR ht hF hx hv hp ha hk hl
  go_enter Tryd.func12, Tryd.ntmps12
  go_upto_region 1 with fail
  generalize hw1 : ((w.alloc _).alloc _).alloc _ = w1
  have H1 := Lib.hid (H0.out.world hw1)
  clear hw1 H0
  obtain ⟨b, hb⟩ : ∃ b, w.heap.size = b := ⟨_, rfl⟩
  rw [hb] at H1 ⊢
  clear hb
  obtain ⟨e0, e1, e2, e3, e4, e5, e6, e7, e8, e9, e10, e11, e12, e13, e14, e15⟩ := (H1.out.at_ 1 rfl).c16
  go_upto_region 7 with (go_at_call 20; refine (H1.out.tGreat HT.out HF.out p a HPP.out HAA.out (h0, h1, h2, h3, h4, h5) pk HKK.out).mono ?_; rintro e w2 ⟨rfl, hE⟩; obtain ⟨G2, hE2⟩ := hE.out; have H2 := Lib.hid hE2; clear hE hE2 H1 e0 e1 e2 e3 e4 e5 e6 e7 e8 e9 e10 e11 e12 e13 e14 e15)
  have H3 := Lib.hid (H2.out.quiet (Kept.drew0 w2))
  clear H2
  refine wp_region_held_drew (S := fun w' => Blk w' b #[.slice B0 m0 d0, .int .i64 (R : Int)] 28 ∧ Blk w' (b + 1) #[.int .i64 2, .int .i64 p, .int .i64 pk, .int .u64 a, .int .u64 l0, .bool l1, .bool l2, .bool l3, .bool l4, .int .u8 l5, .int .u64 h0, .int .i64 h1, .bool h2, .bool h3, .bool h4, .bool h5] 39) (by kernel_rfl) ⟨H3.out.at_ 2 rfl, H3.out.at_ 1 rfl⟩ (fun hHeld => ?_)
  generalize w2.drew = w3 at *
  refine tk (v := ?_) 0 ?_ ?_
  rotate_left
  · intro w hSw
    obtain ⟨a0, a1⟩ := hSw.1.c2
    go_simp
    (try with_reducible rfl)
  (try simp only [Act.put, List.setIfInBounds_toArray, List.set_cons_zero, List.set_cons_succ])
  refine tk (v := ?_) 1 ?_ ?_
  rotate_left
  · intro w hSw
    go_simp
    (try with_reducible rfl)
  (try simp only [Act.put, List.setIfInBounds_toArray, List.set_cons_zero, List.set_cons_succ])
  refine tk (v := ?_) 2 ?_ ?_
  rotate_left
  · intro w hSw
    obtain ⟨e0, e1, e2, e3, e4, e5, e6, e7, e8, e9, e10, e11, e12, e13, e14, e15⟩ := hSw.2.c16
    go_simp
    (try with_reducible rfl)
  (try simp only [Act.put, List.setIfInBounds_toArray, List.set_cons_zero, List.set_cons_succ])
  refine tk (v := ?_) 3 ?_ ?_
  rotate_left
  · intro w hSw
    go_simp
    (try with_reducible rfl)
  (try simp only [Act.put, List.setIfInBounds_toArray, List.set_cons_zero, List.set_cons_succ])
  refine tk (v := ?_) 4 ?_ ?_
  rotate_left
  · intro w hSw
    obtain ⟨e0, e1, e2, e3, e4, e5, e6, e7, e8, e9, e10, e11, e12, e13, e14, e15⟩ := hSw.2.c16
    go_simp
    (try with_reducible rfl)
  (try simp only [Act.put, List.setIfInBounds_toArray, List.set_cons_zero, List.set_cons_succ])
  refine tk (v := ?_) 5 ?_ ?_
  rotate_left
  · intro w hSw
    go_simp
    (try with_reducible rfl)
  (try simp only [Act.put, List.setIfInBounds_toArray, List.set_cons_zero, List.set_cons_succ])
  refine tk (v := ?_) 6 ?_ ?_
  rotate_left
  · intro w hSw
    obtain ⟨e0, e1, e2, e3, e4, e5, e6, e7, e8, e9, e10, e11, e12, e13, e14, e15⟩ := hSw.2.c16
    go_simp
    (try with_reducible rfl)
  (try simp only [Act.put, List.setIfInBounds_toArray, List.set_cons_zero, List.set_cons_succ])
  refine tk (v := ?_) 8 ?_ ?_
  rotate_left
  · intro w hSw
    go_simp
    (try with_reducible rfl)
  (try simp only [Act.put, List.setIfInBounds_toArray, List.set_cons_zero, List.set_cons_succ])
  refine tk (v := ?_) 9 ?_ ?_
  rotate_left
  · intro w hSw
    obtain ⟨e0, e1, e2, e3, e4, e5, e6, e7, e8, e9, e10, e11, e12, e13, e14, e15⟩ := hSw.2.c16
    go_simp
    (try with_reducible rfl)
  (try simp only [Act.put, List.setIfInBounds_toArray, List.set_cons_zero, List.set_cons_succ])
  refine wpAnyH_ready (rs := [7]) (by kernel_rfl) (by simp) ?_
  refine anyH_one rfl (fun K hK => ?_) ?_
  · go_simp
    refine (hit13_any (h0, h1, h2, h3, h4, h5) _).mono ?_
    rintro e w4 ⟨rfl, hb⟩
    have H4 := Lib.hid (H3.out.quiet hb)
    clear hb H3
    refine hK.out _ _ (⟨H4.out.at_ 2 rfl, H4.out.at_ 1 rfl⟩) (fun hHeld => ?_)
    clear hK K
    (try simp only [Act.put, List.setIfInBounds_toArray, List.set_cons_zero, List.set_cons_succ])
    refine wpAnyH_ready (rs := [10]) (by kernel_rfl) (by simp) ?_
    refine anyH_one rfl (fun K hK => ?_) ?_
    · go_simp
      refine (rgreatT_any p a _ R H4.out.own1 HLE.out HPP.out HAA.out (h0, h1, h2, h3, h4, h5) pk HKK.out).mono ?_
      rintro e w5 ⟨A0, n0, c0, rfl, hn, hb⟩
      have H5 := Lib.hid (H4.out.doc1 hb hn)
      clear hn hb H4
      refine hK.out _ _ (⟨H5.out.at_ 2 rfl, H5.out.at_ 1 rfl⟩) (fun hHeld => ?_)
      clear hK K
      (try simp only [Act.put, List.setIfInBounds_toArray, List.set_cons_zero, List.set_cons_succ])
      refine wpAnyH_ready (rs := [11]) (by kernel_rfl) (by simp) ?_
      refine anyH_one rfl (fun K hK => ?_) ?_
      · obtain ⟨r0, r1⟩ := (H5.out.at_ 0 rfl).c2
        have g0 := (H5.out.at_ 0 rfl).fz 0; have g1 := (H5.out.at_ 0 rfl).fz 1
        go_simp
        generalize hq9 : (w5.setCell _ _).setCell _ _ = w6
        have H6 := Lib.hid ((H5.out.put 0 rfl (turnB2 _ _ _ _) (setB2 (H5.out.at_ 0 rfl) _ _)).world hq9)
        clear hq9 H5 r0 r1 g0 g1
        refine hK.out _ _ (⟨H6.out.at_ 2 rfl, H6.out.at_ 1 rfl⟩) (fun hHeld => ?_)
        clear hK K
        (try simp only [Act.put, List.setIfInBounds_toArray, List.set_cons_zero, List.set_cons_succ])
        refine wpAnyH_done (by kernel_rfl) ?_ _
        clear hHeld
        go_wp2
        exact bodyPost_ret (results_cell_row rfl _ _ (b + 1 + 1) _ _ _ _ rfl (H6.out.at_ 0 rfl) Tryd.underlying28 rfl rfl) rfl ⟨_, rfl, _, H6.out.pick [] [0]⟩
      exact AllReadyH.nil
    exact AllReadyH.nil
  exact AllReadyH.nil
set_option maxRecDepth 100000 in
set_option maxHeartbeats 3200000 in
theorem do13_drop {w : World} {F : Nat → Prop} {q R : Nat} {L : List Pr} (h : tlbT q R L w F) (hR : R ≤ 64) (ht : Tabs w) (hF : Off F) (v : Value) (hx : PairsOwn w 0 v L) (hv : ∀ i, v.ownBlock = some i → ¬ F i)
    (kd p pk a l0 l5 h0 h1 : Int) (l1 l2 l3 l4 h2 h3 h4 h5 : Bool) (hp : I64 p) (hk : I64 pk) (ha : W64 a) (hl : OkL (l0, l1, l2, l3, l4, l5)) :
    Calls Tryd.prog 12 #[ptrV q, .agg #[v, .int .i64 R], .agg #[.int .i64 3, .int .i64 p, .int .i64 pk, .int .u64 a, .int .u64 l0, .bool l1, .bool l2, .bool l3, .bool l4, .int .u8 l5, .int .u64 h0, .int .i64 h1, .bool h2, .bool h3, .bool h4, .bool h5]] w fun e w' =>
      ∃ u, e = .returned (.agg #[u, .int .i64 R]) ∧ ∃ G, Has w w' F [⟨tlbT q R (dropT R L p a), G⟩] [] [rowQ u (dropT R L p a)] := by
  obtain ⟨B0, m0, d0, rfl⟩ := hx.slice
  have HT := Lib.hid ht
  have HF := Lib.hid hF
  have HPP := Lib.hid hp
  have HAA := Lib.hid ha
  have HKK := Lib.hid hk
  have HLL := Lib.hid hl
  have HLE : Hid (L.length ≤ 900) := Lib.hid (Nat.le_trans h.len.1 (Nat.le_trans hR (by decide)))
  have HLE2 : Hid (L.length ≤ 1000) := Lib.hid (Nat.le_trans HLE.out (by decide))
  have HND := Lib.hid h.nodup
  have HOK := Lib.hid h.ok
  have H0 := Lib.hid (((((Has.start (firm_tlb q R L) h).got hx (fun i hi ⟨o, ho, hg⟩ => by obtain rfl := List.mem_singleton.1 ho; exact hv i hi hg.1)).new (b := w.heap.size) rfl #[.slice B0 m0 d0, .int .i64 (R : Int)] 28).new (b := w.heap.size + 1) (by simp) #[.int .i64 3, .int .i64 p, .int .i64 pk, .int .u64 a, .int .u64 l0, .bool l1, .bool l2, .bool l3, .bool l4, .int .u8 l5, .int .u64 h0, .int .i64 h1, .bool h2, .bool h3, .bool h4, .bool h5] 39).new (b := w.heap.size + 1 + 1) (by simp) #[.slice none 0 0, .int .i64 0] 28)
  clear h hR ht hF hx hv hp ha hk hl
  go_enter Tryd.func12, Tryd.ntmps12
  go_upto_region 1 with fail
  generalize hw1 : ((w.alloc _).alloc _).alloc _ = w1
  have H1 := Lib.hid (H0.out.world hw1)
  clear hw1 H0
  obtain ⟨b, hb⟩ : ∃ b, w.heap.size = b := ⟨_, rfl⟩
  rw [hb] at H1 ⊢
  clear hb
  obtain ⟨e0, e1, e2, e3, e4, e5, e6, e7, e8, e9, e10, e11, e12, e13, e14, e15⟩ := (H1.out.at_ 1 rfl).c16
  go_upto_region 10 with (go_at_call 22; refine (H1.out.tDrop HT.out HF.out p a HPP.out HAA.out).mono ?_; rintro e w2 ⟨rfl, hE⟩; obtain ⟨G2, hE2⟩ := hE.out; have H2 := Lib.hid hE2; clear hE hE2 H1 e0 e1 e2 e3 e4 e5 e6 e7 e8 e9 e10 e11 e12 e13 e14 e15)
  obtain ⟨e0, e1, e2, e3, e4, e5, e6, e7, e8, e9, e10, e11, e12, e13, e14, e15⟩ := (H2.out.at_ 1 rfl).c16
  obtain ⟨a0, a1⟩ := (H2.out.at_ 2 rfl).c2
  go_wp2_with (go_at_call 33; refine (rdropT_any p a _ R H2.out.own1 HLE.out HND.out HOK.out HPP.out HAA.out).mono ?_; rintro e w3 ⟨A0, n0, c0, rfl, hn, hb⟩; have H3 := Lib.hid (H2.out.doc1 hb hn); clear hn hb H2 a0 a1 e0 e1 e2 e3 e4 e5 e6 e7 e8 e9 e10 e11 e12 e13 e14 e15; obtain ⟨r0, r1⟩ := (H3.out.at_ 0 rfl).c2; have g0 := (H3.out.at_ 0 rfl).fz 0; have g1 := (H3.out.at_ 0 rfl).fz 1)
  have HZ := (H3.out.put 0 rfl (turnB2 w3 (b + 1 + 1) (.slice A0 n0 c0) (.int .i64 (R : Int))) (setB2 (H3.out.at_ 0 rfl) (.slice A0 n0 c0) (.int .i64 (R : Int)))).pick [] [0]
  exact bodyPost_ret (results_cell_row rfl _ _ (b + 1 + 1) _ _ _ _ rfl (setB2 (H3.out.at_ 0 rfl) (.slice A0 n0 c0) (.int .i64 (R : Int))) Tryd.underlying28 rfl rfl) rfl ⟨_, rfl, _, HZ⟩
set_option maxRecDepth 100000 in
set_option maxHeartbeats 3200000 in
theorem do13_of {w : World} {F : Nat → Prop} {q R : Nat} {L : List Pr} (h : tlbT q R L w F) (hR : R ≤ 64) (ht : Tabs w) (hF : Off F) (v : Value) (hx : PairsOwn w 0 v L) (hv : ∀ i, v.ownBlock = some i → ¬ F i)
    (kd p pk a l0 l5 h0 h1 : Int) (l1 l2 l3 l4 h2 h3 h4 h5 : Bool) (hp : I64 p) (hk : I64 pk) (ha : W64 a) (hl : OkL (l0, l1, l2, l3, l4, l5)) :
    Calls Tryd.prog 12 #[ptrV q, .agg #[v, .int .i64 R], .agg #[.int .i64 4, .int .i64 p, .int .i64 pk, .int .u64 a, .int .u64 l0, .bool l1, .bool l2, .bool l3, .bool l4, .int .u8 l5, .int .u64 h0, .int .i64 h1, .bool h2, .bool h3, .bool h4, .bool h5]] w fun e w' =>
      ∃ u, e = .returned (.agg #[u, .int .i64 R]) ∧ ∃ G, Has w w' F [⟨tlbT q R (ofK L p), G⟩] [] [rowQ u (ofK L p)] := by
  obtain ⟨B0, m0, d0, rfl⟩ := hx.slice
  have HT := Lib.hid ht
  have HF := Lib.hid hF
  have HPP := Lib.hid hp
  have HAA := Lib.hid ha
  have HKK := Lib.hid hk
  have HLL := Lib.hid hl
  have HLE : Hid (L.length ≤ 900) := Lib.hid (Nat.le_trans h.len.1 (Nat.le_trans hR (by decide)))
  have HLE2 : Hid (L.length ≤ 1000) := Lib.hid (Nat.le_trans HLE.out (by decide))
  have HND := Lib.hid h.nodup
  have HOK := Lib.hid h.ok
  have H0 := Lib.hid (((((Has.start (firm_tlb q R L) h).got hx (fun i hi ⟨o, ho, hg⟩ => by obtain rfl := List.mem_singleton.1 ho; exact hv i hi hg.1)).new (b := w.heap.size) rfl #[.slice B0 m0 d0, .int .i64 (R : Int)] 28).new (b := w.heap.size + 1) (by simp) #[.int .i64 4, .int .i64 p, .int .i64 pk, .int .u64 a, .int .u64 l0, .bool l1, .bool l2, .bool l3, .bool l4, .int .u8 l5, .int .u64 h0, .int .i64 h1, .bool h2, .bool h3, .bool h4, .bool h5] 39).new (b := w.heap.size + 1 + 1) (by simp) #[.slice none 0 0, .int .i64 0] 28)
  clear h hR ht hF hx hv hp ha hk hl
  go_enter Tryd.func12, Tryd.ntmps12
  go_upto_region 1 with fail
  generalize hw1 : ((w.alloc _).alloc _).alloc _ = w1
  have H1 := Lib.hid (H0.out.world hw1)
  clear hw1 H0
  obtain ⟨b, hb⟩ : ∃ b, w.heap.size = b := ⟨_, rfl⟩
  rw [hb] at H1 ⊢
  clear hb
  obtain ⟨e0, e1, e2, e3, e4, e5, e6, e7, e8, e9, e10, e11, e12, e13, e14, e15⟩ := (H1.out.at_ 1 rfl).c16
  go_upto_region 13 with (go_at_call 24; refine (H1.out.tOf p).mono ?_; rintro e w2 ⟨rfl, hE⟩; obtain ⟨G2, hE2⟩ := hE.out; have H2 := Lib.hid hE2; clear hE hE2 H1 e0 e1 e2 e3 e4 e5 e6 e7 e8 e9 e10 e11 e12 e13 e14 e15)
  obtain ⟨e0, e1, e2, e3, e4, e5, e6, e7, e8, e9, e10, e11, e12, e13, e14, e15⟩ := (H2.out.at_ 1 rfl).c16
  obtain ⟨a0, a1⟩ := (H2.out.at_ 2 rfl).c2
  go_wp2_with (go_at_call 34; refine (rdropOfU _ _ L R p H2.out.own1 HLE2.out).mono ?_; rintro e w3 ⟨A0, n0, c0, rfl, hn, hb⟩; have H3 := Lib.hid (H2.out.doc1 hb hn); clear hn hb H2 a0 a1 e0 e1 e2 e3 e4 e5 e6 e7 e8 e9 e10 e11 e12 e13 e14 e15; obtain ⟨r0, r1⟩ := (H3.out.at_ 0 rfl).c2; have g0 := (H3.out.at_ 0 rfl).fz 0; have g1 := (H3.out.at_ 0 rfl).fz 1)
  have HZ := (H3.out.put 0 rfl (turnB2 w3 (b + 1 + 1) (.slice A0 n0 c0) (.int .i64 (R : Int))) (setB2 (H3.out.at_ 0 rfl) (.slice A0 n0 c0) (.int .i64 (R : Int)))).pick [] [0]
  exact bodyPost_ret (results_cell_row rfl _ _ (b + 1 + 1) _ _ _ _ rfl (setB2 (H3.out.at_ 0 rfl) (.slice A0 n0 c0) (.int .i64 (R : Int))) Tryd.underlying28 rfl rfl) rfl ⟨_, rfl, _, HZ⟩
set_option maxRecDepth 100000 in
set_option maxHeartbeats 3200000 in
theorem do13_evict {w : World} {F : Nat → Prop} {q R : Nat} {L : List Pr} (h : tlbT q R L w F) (hR : R ≤ 64) (ht : Tabs w) (hF : Off F) (v : Value) (hx : PairsOwn w 0 v L) (hv : ∀ i, v.ownBlock = some i → ¬ F i)
    (kd p pk a l0 l5 h0 h1 : Int) (l1 l2 l3 l4 h2 h3 h4 h5 : Bool) (hp : I64 p) (hk : I64 pk) (ha : W64 a) (hl : OkL (l0, l1, l2, l3, l4, l5)) :
    Calls Tryd.prog 12 #[ptrV q, .agg #[v, .int .i64 R], .agg #[.int .i64 6, .int .i64 p, .int .i64 pk, .int .u64 a, .int .u64 l0, .bool l1, .bool l2, .bool l3, .bool l4, .int .u8 l5, .int .u64 h0, .int .i64 h1, .bool h2, .bool h3, .bool h4, .bool h5]] w fun e w' =>
      ∃ u, e = .returned (.agg #[u, .int .i64 R]) ∧ ∃ G, Has w w' F [⟨tlbT q R (evK L pk), G⟩] [] [rowQ u (evK L pk)] := by
  obtain ⟨B0, m0, d0, rfl⟩ := hx.slice
  have HT := Lib.hid ht
  have HF := Lib.hid hF
  have HPP := Lib.hid hp
  have HAA := Lib.hid ha
  have HKK := Lib.hid hk
  have HLL := Lib.hid hl
  have HLE : Hid (L.length ≤ 900) := Lib.hid (Nat.le_trans h.len.1 (Nat.le_trans hR (by decide)))
  have HLE2 : Hid (L.length ≤ 1000) := Lib.hid (Nat.le_trans HLE.out (by decide))
  have HND := Lib.hid h.nodup
  have HOK := Lib.hid h.ok
  have H0 := Lib.hid (((((Has.start (firm_tlb q R L) h).got hx (fun i hi ⟨o, ho, hg⟩ => by obtain rfl := List.mem_singleton.1 ho; exact hv i hi hg.1)).new (b := w.heap.size) rfl #[.slice B0 m0 d0, .int .i64 (R : Int)] 28).new (b := w.heap.size + 1) (by simp) #[.int .i64 6, .int .i64 p, .int .i64 pk, .int .u64 a, .int .u64 l0, .bool l1, .bool l2, .bool l3, .bool l4, .int .u8 l5, .int .u64 h0, .int .i64 h1, .bool h2, .bool h3, .bool h4, .bool h5] 39).new (b := w.heap.size + 1 + 1) (by simp) #[.slice none 0 0, .int .i64 0] 28)
  clear h hR ht hF hx hv hp ha hk hl
  go_enter Tryd.func12, Tryd.ntmps12
  go_upto_region 1 with fail
  generalize hw1 : ((w.alloc _).alloc _).alloc _ = w1
  have H1 := Lib.hid (H0.out.world hw1)
  clear hw1 H0
  obtain ⟨b, hb⟩ : ∃ b, w.heap.size = b := ⟨_, rfl⟩
  rw [hb] at H1 ⊢
  clear hb
  obtain ⟨e0, e1, e2, e3, e4, e5, e6, e7, e8, e9, e10, e11, e12, e13, e14, e15⟩ := (H1.out.at_ 1 rfl).c16
  go_upto_region 20 with (go_at_call 26; refine (H1.out.tEvict pk HKK.out).mono ?_; rintro e w2 ⟨rfl, hE⟩; obtain ⟨G2, hE2⟩ := hE.out; have H2 := Lib.hid hE2; clear hE hE2 H1 e0 e1 e2 e3 e4 e5 e6 e7 e8 e9 e10 e11 e12 e13 e14 e15)
  obtain ⟨e0, e1, e2, e3, e4, e5, e6, e7, e8, e9, e10, e11, e12, e13, e14, e15⟩ := (H2.out.at_ 1 rfl).c16
  obtain ⟨a0, a1⟩ := (H2.out.at_ 2 rfl).c2
  go_wp2_with (go_at_call 35; refine (revictU _ _ L R pk H2.out.own1 HLE2.out HKK.out).mono ?_; rintro e w3 ⟨A0, n0, c0, rfl, hn, hb⟩; have H3 := Lib.hid (H2.out.doc1 hb hn); clear hn hb H2 a0 a1 e0 e1 e2 e3 e4 e5 e6 e7 e8 e9 e10 e11 e12 e13 e14 e15; obtain ⟨r0, r1⟩ := (H3.out.at_ 0 rfl).c2; have g0 := (H3.out.at_ 0 rfl).fz 0; have g1 := (H3.out.at_ 0 rfl).fz 1)
  have HZ := (H3.out.put 0 rfl (turnB2 w3 (b + 1 + 1) (.slice A0 n0 c0) (.int .i64 (R : Int))) (setB2 (H3.out.at_ 0 rfl) (.slice A0 n0 c0) (.int .i64 (R : Int)))).pick [] [0]
  exact bodyPost_ret (results_cell_row rfl _ _ (b + 1 + 1) _ _ _ _ rfl (setB2 (H3.out.at_ 0 rfl) (.slice A0 n0 c0) (.int .i64 (R : Int))) Tryd.underlying28 rfl rfl) rfl ⟨_, rfl, _, HZ⟩
set_option maxRecDepth 100000 in
set_option maxHeartbeats 3200000 in
theorem do13_clear {w : World} {F : Nat → Prop} {q R : Nat} {L : List Pr} (h : tlbT q R L w F) (hR : R ≤ 64) (ht : Tabs w) (hF : Off F) (v : Value) (hx : PairsOwn w 0 v L) (hv : ∀ i, v.ownBlock = some i → ¬ F i)
    (kd p pk a l0 l5 h0 h1 : Int) (l1 l2 l3 l4 h2 h3 h4 h5 : Bool) (hp : I64 p) (hk : I64 pk) (ha : W64 a) (hl : OkL (l0, l1, l2, l3, l4, l5)) :
    Calls Tryd.prog 12 #[ptrV q, .agg #[v, .int .i64 R], .agg #[.int .i64 5, .int .i64 p, .int .i64 pk, .int .u64 a, .int .u64 l0, .bool l1, .bool l2, .bool l3, .bool l4, .int .u8 l5, .int .u64 h0, .int .i64 h1, .bool h2, .bool h3, .bool h4, .bool h5]] w fun e w' =>
      ∃ u, e = .returned (.agg #[u, .int .i64 R]) ∧ ∃ G, Has w w' F [⟨tlbT q R ([]), G⟩] [] [rowQ u ([])] := by
  obtain ⟨B0, m0, d0, rfl⟩ := hx.slice
  have HT := Lib.hid ht
  have HF := Lib.hid hF
  have HPP := Lib.hid hp
  have HAA := Lib.hid ha
  have HKK := Lib.hid hk
  have HLL := Lib.hid hl
  have HLE : Hid (L.length ≤ 900) := Lib.hid (Nat.le_trans h.len.1 (Nat.le_trans hR (by decide)))
  have HLE2 : Hid (L.length ≤ 1000) := Lib.hid (Nat.le_trans HLE.out (by decide))
  have HND := Lib.hid h.nodup
  have HOK := Lib.hid h.ok
  have H0 := Lib.hid (((((Has.start (firm_tlb q R L) h).got hx (fun i hi ⟨o, ho, hg⟩ => by obtain rfl := List.mem_singleton.1 ho; exact hv i hi hg.1)).new (b := w.heap.size) rfl #[.slice B0 m0 d0, .int .i64 (R : Int)] 28).new (b := w.heap.size + 1) (by simp) #[.int .i64 5, .int .i64 p, .int .i64 pk, .int .u64 a, .int .u64 l0, .bool l1, .bool l2, .bool l3, .bool l4, .int .u8 l5, .int .u64 h0, .int .i64 h1, .bool h2, .bool h3, .bool h4, .bool h5] 39).new (b := w.heap.size + 1 + 1) (by simp) #[.slice none 0 0, .int .i64 0] 28)
  clear h hR ht hF hx hv hp ha hk hl
  go_enter Tryd.func12, Tryd.ntmps12
  go_upto_region 1 with fail
  generalize hw1 : ((w.alloc _).alloc _).alloc _ = w1
  have H1 := Lib.hid (H0.out.world hw1)
  clear hw1 H0
  obtain ⟨b, hb⟩ : ∃ b, w.heap.size = b := ⟨_, rfl⟩
  rw [hb] at H1 ⊢
  clear hb
  obtain ⟨e0, e1, e2, e3, e4, e5, e6, e7, e8, e9, e10, e11, e12, e13, e14, e15⟩ := (H1.out.at_ 1 rfl).c16
  go_upto_region 16 with (go_at_call 25; refine (H1.out.tClear).mono ?_; rintro e w2 ⟨rfl, hE⟩; obtain ⟨G2, hE2⟩ := hE.out; have H2 := Lib.hid hE2; clear hE hE2 H1 e0 e1 e2 e3 e4 e5 e6 e7 e8 e9 e10 e11 e12 e13 e14 e15)
  obtain ⟨a0, a1⟩ := (H2.out.at_ 2 rfl).c2
  have f0 := (H2.out.at_ 2 rfl).fz 0
  go_upto_region 17 with fail
  generalize hq9 : w2.setCell _ _ = w3
  have H3 := Lib.hid (((H2.out.put 2 rfl (turn1 _ _ 0 (.slice none 0 0)) (Blk.set1 (H2.out.at_ 2 rfl) 0 (.slice none 0 0)))).world hq9)
  clear hq9 H2 a0 a1 f0
  obtain ⟨a0, a1⟩ := (H3.out.at_ 2 rfl).c2
  obtain ⟨r0, r1⟩ := (H3.out.at_ 0 rfl).c2
  have g0 := (H3.out.at_ 0 rfl).fz 0
  have g1 := (H3.out.at_ 0 rfl).fz 1
  go_wp2
  have HZ := ((H3.out.put 0 rfl (turnB2 w3 (b + 1 + 1) (.slice none 0 0) (.int .i64 (R : Int))) (setB2 (H3.out.at_ 0 rfl) (.slice none 0 0) (.int .i64 (R : Int)))).pick [] []).got (PairsOwn.nil _ 0) (by simp [Value.ownBlock])
  exact bodyPost_ret (results_cell_row rfl _ _ (b + 1 + 1) _ _ _ _ rfl (setB2 (H3.out.at_ 0 rfl) (.slice none 0 0) (.int .i64 (R : Int))) Tryd.underlying28 rfl rfl) rfl ⟨_, rfl, _, HZ⟩
set_option maxRecDepth 100000 in
set_option maxHeartbeats 3200000 in
theorem do13_none {w : World} {F : Nat → Prop} {q R : Nat} {L : List Pr} (h : tlbT q R L w F) (hR : R ≤ 64) (ht : Tabs w) (hF : Off F) (v : Value) (hx : PairsOwn w 0 v L) (hv : ∀ i, v.ownBlock = some i → ¬ F i)
    (kd p pk a l0 l5 h0 h1 : Int) (l1 l2 l3 l4 h2 h3 h4 h5 : Bool) (hp : I64 p) (hk : I64 pk) (ha : W64 a) (hl : OkL (l0, l1, l2, l3, l4, l5)) (z1 : (kd == 1) = false) (z2 : (kd == 2) = false) (z3 : (kd == 3) = false) (z4 : (kd == 4) = false) (z5 : (kd == 5) = false) (z6 : (kd == 6) = false) :
    Calls Tryd.prog 12 #[ptrV q, .agg #[v, .int .i64 R], .agg #[.int .i64 kd, .int .i64 p, .int .i64 pk, .int .u64 a, .int .u64 l0, .bool l1, .bool l2, .bool l3, .bool l4, .int .u8 l5, .int .u64 h0, .int .i64 h1, .bool h2, .bool h3, .bool h4, .bool h5]] w fun e w' =>
      ∃ u, e = .returned (.agg #[u, .int .i64 R]) ∧ ∃ G, Has w w' F [⟨tlbT q R (L), G⟩] [] [rowQ u (L)] := by
  obtain ⟨B0, m0, d0, rfl⟩ := hx.slice
  have HT := Lib.hid ht
  have HF := Lib.hid hF
  have HPP := Lib.hid hp
  have HAA := Lib.hid ha
  have HKK := Lib.hid hk
  have HLL := Lib.hid hl
  have HLE : Hid (L.length ≤ 900) := Lib.hid (Nat.le_trans h.len.1 (Nat.le_trans hR (by decide)))
  have HLE2 : Hid (L.length ≤ 1000) := Lib.hid (Nat.le_trans HLE.out (by decide))
  have HND := Lib.hid h.nodup
  have HOK := Lib.hid h.ok
  have H0 := Lib.hid (((((Has.start (firm_tlb q R L) h).got hx (fun i hi ⟨o, ho, hg⟩ => by obtain rfl := List.mem_singleton.1 ho; exact hv i hi hg.1)).new (b := w.heap.size) rfl #[.slice B0 m0 d0, .int .i64 (R : Int)] 28).new (b := w.heap.size + 1) (by simp) #[.int .i64 kd, .int .i64 p, .int .i64 pk, .int .u64 a, .int .u64 l0, .bool l1, .bool l2, .bool l3, .bool l4, .int .u8 l5, .int .u64 h0, .int .i64 h1, .bool h2, .bool h3, .bool h4, .bool h5] 39).new (b := w.heap.size + 1 + 1) (by simp) #[.slice none 0 0, .int .i64 0] 28)
  clear h hR ht hF hx hv hp ha hk hl
  go_enter Tryd.func12, Tryd.ntmps12
  go_upto_region 1 with fail
  generalize hw1 : ((w.alloc _).alloc _).alloc _ = w1
  have H1 := Lib.hid (H0.out.world hw1)
  clear hw1 H0
  obtain ⟨b, hb⟩ : ∃ b, w.heap.size = b := ⟨_, rfl⟩
  rw [hb] at H1 ⊢
  clear hb
  obtain ⟨e0, e1, e2, e3, e4, e5, e6, e7, e8, e9, e10, e11, e12, e13, e14, e15⟩ := (H1.out.at_ 1 rfl).c16
  obtain ⟨a0, a1⟩ := (H1.out.at_ 2 rfl).c2
  obtain ⟨r0, r1⟩ := (H1.out.at_ 0 rfl).c2
  have g0 := (H1.out.at_ 0 rfl).fz 0
  have g1 := (H1.out.at_ 0 rfl).fz 1
  go_wp2
  have HZ := (H1.out.put 0 rfl (turnB2 w1 (b + 1 + 1) (.slice B0 m0 d0) (.int .i64 (R : Int))) (setB2 (H1.out.at_ 0 rfl) (.slice B0 m0 d0) (.int .i64 (R : Int)))).pick [] [0]
  exact bodyPost_ret (results_cell_row rfl _ _ (b + 1 + 1) _ _ _ _ rfl (setB2 (H1.out.at_ 0 rfl) (.slice B0 m0 d0) (.int .i64 (R : Int))) Tryd.underlying28 rfl rfl) rfl ⟨_, rfl, _, HZ⟩
theorem do13_any {w : World} {F : Nat → Prop} {q R : Nat} {L : List Pr} (h : tlbT q R L w F) (hR : R ≤ 64) (ht : Tabs w) (hF : Off F) (v : Value) (hx : PairsOwn w 0 v L) (hv : ∀ i, v.ownBlock = some i → ¬ F i) (y : Dt) (hy : OkD y) :
    Calls Tryd.prog 12 #[ptrV q, .agg #[v, .int .i64 R], .agg (deedC y)] w fun e w' =>
      ∃ u, e = .returned (.agg #[u, .int .i64 R]) ∧ ∃ G, Has w w' F [⟨tlbT q R (doD R L y), G⟩] [] [rowQ u (doD R L y)] := by
  obtain ⟨kd, p, pk, a, ⟨l0, l1, l2, l3, l4, l5⟩, ⟨h0, h1, h2, h3, h4, h5⟩⟩ := y
  unfold doD
  simp only []
  by_cases e1 : kd = 1
  · subst e1
    rw [if_pos rfl]
    exact do13_small h hR ht hF v hx hv 1 p pk a l0 l5 h0 h1 l1 l2 l3 l4 h2 h3 h4 h5 hy.p hy.pk hy.a hy.l
  rw [if_neg e1]
  by_cases e2 : kd = 2
  · subst e2
    rw [if_pos rfl]
    exact do13_great h hR ht hF v hx hv 2 p pk a l0 l5 h0 h1 l1 l2 l3 l4 h2 h3 h4 h5 hy.p hy.pk hy.a hy.l
  rw [if_neg e2]
  by_cases e3 : kd = 3
  · subst e3
    rw [if_pos rfl]
    exact do13_drop h hR ht hF v hx hv 3 p pk a l0 l5 h0 h1 l1 l2 l3 l4 h2 h3 h4 h5 hy.p hy.pk hy.a hy.l
  rw [if_neg e3]
  by_cases e4 : kd = 4
  · subst e4
    rw [if_pos rfl]
    exact do13_of h hR ht hF v hx hv 4 p pk a l0 l5 h0 h1 l1 l2 l3 l4 h2 h3 h4 h5 hy.p hy.pk hy.a hy.l
  rw [if_neg e4]
  by_cases e5 : kd = 5
  · subst e5
    rw [if_pos rfl]
    exact do13_clear h hR ht hF v hx hv 5 p pk a l0 l5 h0 h1 l1 l2 l3 l4 h2 h3 h4 h5 hy.p hy.pk hy.a hy.l
  rw [if_neg e5]
  by_cases e6 : kd = 6
  · subst e6
    rw [if_pos rfl]
    exact do13_evict h hR ht hF v hx hv 6 p pk a l0 l5 h0 h1 l1 l2 l3 l4 h2 h3 h4 h5 hy.p hy.pk hy.a hy.l
  rw [if_neg e6]
  exact do13_none h hR ht hF v hx hv kd p pk a l0 l5 h0 h1 l1 l2 l3 l4 h2 h3 h4 h5 hy.p hy.pk hy.a hy.l (beq_eq_false_iff_ne.2 e1) (beq_eq_false_iff_ne.2 e2) (beq_eq_false_iff_ne.2 e3) (beq_eq_false_iff_ne.2 e4) (beq_eq_false_iff_ne.2 e5) (beq_eq_false_iff_ne.2 e6)
end Go.Proofs.YtddbjbdhbeijjaaDoor
/- Layer 13: deeds as a list; hits compared; awake. (Laid by tools/gen_qj.py.) -/
namespace Go.Proofs.YtddbjbdhbeijjaaDoor
set_option linter.unusedVariables false
set_option linter.unusedSimpArgs false
open Go.ChangeShapes Go.WideShapes Go.ChangeAt Go.RowKit Go.Joins

/-- a deed's cells at an address -/
def DtIs (w : World) (ad : Addr) (y : Dt) : Prop :=
  w.cell? ad = some (.int .i64 y.kd) ∧ w.cell? ⟨ad.block, ad.off + 1, none⟩ = some (.int .i64 y.p) ∧ w.cell? ⟨ad.block, ad.off + 2, none⟩ = some (.int .i64 y.pk) ∧ w.cell? ⟨ad.block, ad.off + 3, none⟩ = some (.int .u64 y.a) ∧ w.cell? ⟨ad.block, ad.off + 4, none⟩ = some (.int .u64 y.l.1) ∧ w.cell? ⟨ad.block, ad.off + 5, none⟩ = some (.bool y.l.2.1) ∧ w.cell? ⟨ad.block, ad.off + 6, none⟩ = some (.bool y.l.2.2.1) ∧ w.cell? ⟨ad.block, ad.off + 7, none⟩ = some (.bool y.l.2.2.2.1) ∧ w.cell? ⟨ad.block, ad.off + 8, none⟩ = some (.bool y.l.2.2.2.2.1) ∧ w.cell? ⟨ad.block, ad.off + 9, none⟩ = some (.int .u8 y.l.2.2.2.2.2) ∧ w.cell? ⟨ad.block, ad.off + 10, none⟩ = some (.int .u64 y.h.1) ∧ w.cell? ⟨ad.block, ad.off + 11, none⟩ = some (.int .i64 y.h.2.1) ∧ w.cell? ⟨ad.block, ad.off + 12, none⟩ = some (.bool y.h.2.2.1) ∧ w.cell? ⟨ad.block, ad.off + 13, none⟩ = some (.bool y.h.2.2.2.1) ∧ w.cell? ⟨ad.block, ad.off + 14, none⟩ = some (.bool y.h.2.2.2.2.1) ∧ w.cell? ⟨ad.block, ad.off + 15, none⟩ = some (.bool y.h.2.2.2.2.2)
set_option maxRecDepth 100000 in
theorem DtIs.load {w : World} {ad : Addr} {y : Dt} (h : DtIs w ad y) : (Instr.loadAt 39 (.pointer (some ad))).run Tryd.prog w = .ok (.agg (deedC y)) w := by
  obtain ⟨e0, e1, e2, e3, e4, e5, e6, e7, e8, e9, e10, e11, e12, e13, e14, e15⟩ := h
  have hc : ∀ j v, ([.int .i64 y.kd, .int .i64 y.p, .int .i64 y.pk, .int .u64 y.a, .int .u64 y.l.1, .bool y.l.2.1, .bool y.l.2.2.1, .bool y.l.2.2.2.1, .bool y.l.2.2.2.2.1, .int .u8 y.l.2.2.2.2.2, .int .u64 y.h.1, .int .i64 y.h.2.1, .bool y.h.2.2.1, .bool y.h.2.2.2.1, .bool y.h.2.2.2.2.1, .bool y.h.2.2.2.2.2] : List Value)[j]? = some v → w.cell? (ad.add j) = some v := fun j v hv => match j, hv with
    | 0, hv => by obtain rfl := Option.some.inj hv; exact e0
    | 1, hv => by obtain rfl := Option.some.inj hv; exact e1
    | 2, hv => by obtain rfl := Option.some.inj hv; exact e2
    | 3, hv => by obtain rfl := Option.some.inj hv; exact e3
    | 4, hv => by obtain rfl := Option.some.inj hv; exact e4
    | 5, hv => by obtain rfl := Option.some.inj hv; exact e5
    | 6, hv => by obtain rfl := Option.some.inj hv; exact e6
    | 7, hv => by obtain rfl := Option.some.inj hv; exact e7
    | 8, hv => by obtain rfl := Option.some.inj hv; exact e8
    | 9, hv => by obtain rfl := Option.some.inj hv; exact e9
    | 10, hv => by obtain rfl := Option.some.inj hv; exact e10
    | 11, hv => by obtain rfl := Option.some.inj hv; exact e11
    | 12, hv => by obtain rfl := Option.some.inj hv; exact e12
    | 13, hv => by obtain rfl := Option.some.inj hv; exact e13
    | 14, hv => by obtain rfl := Option.some.inj hv; exact e14
    | 15, hv => by obtain rfl := Option.some.inj hv; exact e15
    | j + 16, hv => by simp at hv
  have hl : (loadCells ad 16).run Tryd.prog w = .ok (deedC y) w := run_loadCells_list (P := Tryd.prog) w ad [.int .i64 y.kd, .int .i64 y.p, .int .i64 y.pk, .int .u64 y.a, .int .u64 y.l.1, .bool y.l.2.1, .bool y.l.2.2.1, .bool y.l.2.2.2.1, .bool y.l.2.2.2.2.1, .int .u8 y.l.2.2.2.2.2, .int .u64 y.h.1, .int .i64 y.h.2.1, .bool y.h.2.2.1, .bool y.h.2.2.2.1, .bool y.h.2.2.2.2.1, .bool y.h.2.2.2.2.2] hc
  have hi : (Tryd.prog.info? 39).map (·.size) = some 16 := by kernel_rfl
  clear hc e0 e1 e2 e3 e4 e5 e6 e7 e8 e9 e10 e11 e12 e13 e14 e15
  cases hq : Tryd.prog.info? 39 with
  | none => simp [hq] at hi
  | some i =>
    have hs : i.size = 16 := by simpa [hq] using hi
    have hagg : (isAgg 39).run Tryd.prog w = .ok true w := by
      unfold isAgg
      rw [Sem.run_bind, run_underlying Tryd.underlying39 w]
      simp
    have hv : (loadVar 39 ad).run Tryd.prog w = .ok (.agg (deedC y)) w := by
      simp [loadVar, Sem.run_bind, hagg, sizeOf, typeInfo, hq, hs, hl]
    simp only [Instr.loadAt, Instr.sureAddr, Sem.run_bind, Sem.run_pure, Result.andThen_ok, hv]
theorem exec_loadT {P : Program} {o : Oper} {r : Operand → Value} {t : TypeId} {x : Operand} {p v : Value} {w : World} (ho : o.op = .load t x) (hp : r x = p) (h : (Instr.loadAt t p).run P w = .ok v w) : (execOp r o).run P w = .ok (.value v) w := by
  subst hp
  unfold execOp
  rw [ho]
  simp only [Sem.run_bind, Sem.run_pure, Result.andThen_ok, h]
theorem cell_sameT {w w' : World} {ad : Addr} {v : Value} (hb : Below w.heap.size w w') (h : w.cell? ad = some v) : w'.cell? ad = some v := (hb.cell (World.block_lt_of_cell? _ _ h)).trans h
theorem DtIs.below {w w' : World} {ad : Addr} {y : Dt} (h : DtIs w ad y) (hb : Below w.heap.size w w') : DtIs w' ad y := by
  obtain ⟨e0, e1, e2, e3, e4, e5, e6, e7, e8, e9, e10, e11, e12, e13, e14, e15⟩ := h
  exact ⟨cell_sameT hb e0, cell_sameT hb e1, cell_sameT hb e2, cell_sameT hb e3, cell_sameT hb e4, cell_sameT hb e5, cell_sameT hb e6, cell_sameT hb e7, cell_sameT hb e8, cell_sameT hb e9, cell_sameT hb e10, cell_sameT hb e11, cell_sameT hb e12, cell_sameT hb e13, cell_sameT hb e14, cell_sameT hb e15⟩
def DtsIn (w : World) (A : Option Addr) (ds : List Dt) : Prop := ∀ k, k < ds.length → ∃ ad, A = some ad ∧ DtIs w (ad.add (k * 16)) (ds.getD k zDt)
def DtsOk (ds : List Dt) : Prop := ∀ k, k < ds.length → OkD (ds.getD k zDt)
def playD (R : Nat) (ds : List Dt) : Nat → List Pr
  | 0 => []
  | k + 1 => doD R (playD R ds k) (ds.getD k zDt)
def mostT (ds : List Dt) : Nat := min ds.length 100

theorem hit_bool (f1 g1 f2 g2 : Int) (y1 y2 y3 y4 z1 z2 z3 z4 : Bool) : (f1 == f2 && (g1 == g2 && ((y1 == z1 && (y2 == z2 && y3 == z3)) && y4 == z4))) = decide ((f1, g1, y1, y2, y3, y4) = (f2, g2, z1, z2, z3, z4)) := by
  rw [Bool.eq_iff_iff]
  simp [and_assoc]
set_option maxRecDepth 100000 in
theorem eqlH (h h' : Ht) (w : World) : (binOp .eql 37 (hitV h) (hitV h')).run Tryd.prog w = .ok (.bool (decide (h = h'))) w := by
  obtain ⟨f1, g1, y1, y2, y3, y4⟩ := h
  obtain ⟨f2, g2, z1, z2, z3, z4⟩ := h'
  rw [← hit_bool]
  have hs : Tryd.prog.stoodInHeld 37 = false := by kernel_rfl
  have hs2 : Tryd.prog.stoodInHeld 33 = false := by kernel_rfl
  simp only [binOp]
  simp [Op.equal, Op.maxDepth, run_equalIn_struct w 9999 37 _ _ (by simp [Program.fieldsOf, Tryd.underlying37]) hs, Program.fieldsOf, Tryd.underlying37, Op.eqFields, go_sem]
  by_cases h1 : f1 = f2 <;> by_cases h2 : g1 = g2 <;> cases y1 <;> cases z1 <;> cases y2 <;> cases z2 <;> cases y3 <;> cases z3 <;> cases y4 <;> cases z4 <;> simp [h1, h2]
set_option maxRecDepth 100000 in
theorem neqH (h : Ht) (w : World) : (binOp .neq 37 (hitV h) (hitV h)).run Tryd.prog w = .ok (.bool false) w := by
  have hs : Tryd.prog.stoodInHeld 37 = false := by kernel_rfl
  have hs2 : Tryd.prog.stoodInHeld 33 = false := by kernel_rfl
  simp only [binOp]
  simp [Op.equal, Op.maxDepth, run_equalIn_struct w 9999 37 _ _ (by simp [Program.fieldsOf, Tryd.underlying37]) hs, Program.fieldsOf, Tryd.underlying37, Op.eqFields, go_sem]
set_option maxRecDepth 100000 in
theorem neqHR (h : Ht) (w : World) : (binOp .neq 44 (hitV h) (hitV h)).run Tryd.prog w = .ok (.bool false) w := by
  have hs : Tryd.prog.stoodInHeld 44 = false := by kernel_rfl
  have hs2 : Tryd.prog.stoodInHeld 42 = false := by kernel_rfl
  simp only [binOp]
  simp [Op.equal, Op.maxDepth, run_equalIn_struct w 9999 44 _ _ (by simp [Program.fieldsOf, Tryd.underlying44]) hs, Program.fieldsOf, Tryd.underlying44, Op.eqFields, go_sem]

section
variable {w wr w2 : World} {G G' : Nat → Prop} {P P' : Thing} {bs : List BoxD} {rs : List RowD} {v : Value} {M : List Pr}
/-- do has answered: its object, its row -/
theorem Has.doesT (h : Has w wr (fun _ => False) [⟨P, G⟩] bs rs) (g : Has wr w2 G [⟨P', G'⟩] [] [rowQ v M]) : Has w w2 (fun _ => False) [⟨P', G'⟩] bs [rowQ v M] := by
  have k := h.call (P' := P') (G' := G') (ns := []) 0 rfl (g.pick [] [])
  exact ⟨k.obj, k.apart, ⟨k.hold.box, g.hold.row, k.hold.once, k.hold.lt⟩, k.low, k.turn⟩
end

abbrev awTL : List Pr := [((1, 1, 1), (131072, true, true, true, false, 3))]
abbrev awTM : List Pr := [((1, 1, 1), (131072, true, true, true, false, 2))]
abbrev awTH : Ht := (135168, 1, true, true, true, false)
theorem aw13a : smallT 4 [] 1 32768 (131072, true, true, true, false, 3) 0 = awTL := by kernel_rfl
theorem aw13b : lookT awTL 1 37155 = some awTH := by decide +kernel
theorem aw13c : dropT 4 awTL 1 32768 = awTM := by kernel_rfl
theorem aw13d : lookT awTM 1 32768 = none := by decide +kernel
theorem aw13e : lookT awTM 1 36864 = some awTH := by decide +kernel
theorem i64_1T : I64 1 := by unfold I64; omega
theorem i64_0T : I64 0 := by unfold I64; omega

set_option maxRecDepth 100000 in
set_option maxHeartbeats 6400000 in
theorem awake13_any (w : World) (ht : Tabs w) : Calls Tryd.prog 9 #[] w fun e w' => e = .returned (.bool true) ∧ Below w.heap.size w w' := by
  have HT := Lib.hid ht
  have H0 := Lib.hid (Has.start0 w (fun _ => False))
  have HRM : Hid (roomF 4 = 4) := Lib.hid rfl
  have hq := eqlH awTH awTH
  rw [show decide (awTH = awTH) = true from decide_eq_true rfl] at hq
  clear ht
  go_enter Tryd.func9, Tryd.ntmps9
  go_upto_region 2 with (go_at_call 10; refine (newT_any 4 _).mono ?_; rw [HRM.out]; rintro e w1 ⟨q, Gq, rfl, hH⟩; have H1 := Lib.hid (H0.out.join hH); clear hH H0)
  go_upto_region 5 with (first | (go_at_call 28; refine (all_any _).mono ?_; rintro e w2 ⟨rfl, hb⟩; have H2 := Lib.hid (H1.out.quiet hb); clear hb H1) | (go_at_call 18; refine (H2.out.tSmall HT.out off_no 1 32768 i64_1T ⟨by decide, by decide⟩ (131072, true, true, true, false, 3) ⟨by decide, by decide⟩ 0 i64_0T).mono ?_; rw [aw13a]; rintro e w3 ⟨rfl, hE⟩; obtain ⟨G3, hE2⟩ := hE.out; have H3 := Lib.hid hE2; clear hE hE2 H2))
  go_upto_region 6 with (go_at_call 13; refine (H3.out.tLook HT.out off_no 1 37155 i64_1T ⟨by decide, by decide⟩).mono ?_; rw [aw13b, ans_some]; rintro e w3 ⟨rfl, hb⟩; have J3 := Lib.hid (H3.out.quiet hb); clear hb H3)
  generalize hw : w3.alloc _ = v3
  have H4 := Lib.hid ((J3.out.new (b := w3.heap.size) rfl #[.int .u64 135168, .int .i64 1, .bool true, .bool true, .bool true, .bool false] 37).world hw)
  clear hw J3
  generalize w3.heap.size = b3 at *
  go_upto_region 7 with (go_at_call 22; refine (H4.out.tDrop HT.out off_no 1 32768 i64_1T ⟨by decide, by decide⟩).mono ?_; rw [aw13c]; rintro e w5 ⟨rfl, hE⟩; obtain ⟨G5, hE2⟩ := hE.out; have H5 := Lib.hid hE2; clear hE hE2 H4)
  go_upto_region 8 with (go_at_call 13; refine (H5.out.tLook HT.out off_no 1 32768 i64_1T ⟨by decide, by decide⟩).mono ?_; rw [aw13d, ans_no]; rintro e w5 ⟨rfl, hb⟩; have J5 := Lib.hid (H5.out.quiet hb); clear hb H5)
  generalize hw : w5.alloc _ = v5
  have H6 := Lib.hid ((J5.out.new (b := w5.heap.size) rfl #[.int .u64 0, .int .i64 0, .bool false, .bool false, .bool false, .bool false] 37).world hw)
  clear hw J5
  generalize w5.heap.size = b5 at *
  go_upto_region 9 with (go_at_call 13; refine (H6.out.tLook HT.out off_no 1 36864 i64_1T ⟨by decide, by decide⟩).mono ?_; rw [aw13e, ans_some]; rintro e w6 ⟨rfl, hb⟩; have J6 := Lib.hid (H6.out.quiet hb); clear hb H6)
  generalize hw : w6.alloc _ = v6
  have H7 := Lib.hid ((J6.out.new (b := w6.heap.size) rfl #[.int .u64 135168, .int .i64 1, .bool true, .bool true, .bool true, .bool false] 37).world hw)
  clear hw J6
  generalize w6.heap.size = b6 at *
  obtain ⟨r0, r1, r2, r3, r4, r5⟩ := (H7.out.at_ 0 rfl).c6
  obtain ⟨s0, s1, s2, s3, s4, s5⟩ := (H7.out.at_ 2 rfl).c6
  go_wp2_with (go_at_call 16; refine H7.out.tLen.mono ?_; rintro e w8 ⟨rfl, hb⟩; have H8 := Lib.hid (H7.out.quiet hb); clear hb)
  go_ret
  exact ⟨rfl, H8.out.below0⟩
end Go.Proofs.YtddbjbdhbeijjaaDoor
/- Layer 13: run, translations behind deeds. (Laid by tools/gen_qk.py.) -/
namespace Go.Proofs.YtddbjbdhbeijjaaDoor
set_option linter.unusedVariables false
set_option linter.unusedSimpArgs false
open Go.ChangeShapes Go.WideShapes Go.ChangeAt Go.RowKit Go.Joins

set_option maxRecDepth 100000 in
set_option maxHeartbeats 6400000 in
theorem run13_any (A : Option Addr) (c : Nat) (ds : List Dt) (w : World) (ht : Tabs w) (hl : ds.length ≤ maxLen) (hd : DtsIn w A ds) (hok : DtsOk ds) :
    Calls Tryd.prog 17 #[.slice A ds.length c] w fun e w' => ∃ q, e = .returned (ptrV q) ∧ ∃ G, Has w w' (fun _ => False) [⟨tlbT q 5 (playD 5 ds (mostT ds)), G⟩] [] [] := by
  unfold maxLen at hl
  have HT := Lib.hid ht
  have HD := Lib.hid hd
  have HOK := Lib.hid hok
  have H0 := Lib.hid (Has.start0 w (fun _ => False))
  have HRM : Hid (roomF 5 = 5) := Lib.hid rfl
  obtain ⟨R, hR⟩ : ∃ R : Nat, R = 5 := ⟨_, rfl⟩
  have HR64 : Hid (R ≤ 64) := Lib.hid (by omega)
  have HRR := Lib.hid hR
  rw [← hR] at HRM ⊢
  have hm : mostT ds ≤ 100 ∧ mostT ds ≤ ds.length ∧ (mostT ds = 100 ∨ mostT ds = ds.length) := by unfold mostT; omega
  obtain ⟨mn, hmn⟩ : ∃ m, mostT ds = m := ⟨_, rfl⟩
  rw [hmn] at hm ⊢
  obtain ⟨hm0, hm1, hm2⟩ := hm
  have HM2 := Lib.hid hm2
  clear ht hd hok hR hm2 hmn
  go_enter Tryd.func17, Tryd.ntmps17
  go_upto_region 3 with (first | (go_at_call 10; refine (newT_any 5 _).mono ?_; rw [HRM.out]; rintro e w2 ⟨q, Gp, rfl, hH⟩; have H2 := Lib.hid (H0.out.join hH); clear hH H0) | (go_at_call 11; refine (rnewC_any 5 _).mono ?_; rw [HRM.out]; rintro e w3 ⟨rfl, hb⟩; have H3 := Lib.hid (H2.out.quiet hb); clear hb H2))
  generalize hq : w3.alloc _ = w4
  have H4 : Hid (Has w w4 (fun _ => False) [⟨tlbT q R [], Gp⟩] [⟨w3.heap.size, #[.slice none 0 0, .int .i64 (R : Int)], 28⟩] [rowQ (.slice none 0 0) []]) := Lib.hid (((H3.out.got (PairsOwn.nil _ 0) (by simp [Value.ownBlock])).new (b := w3.heap.size) rfl #[.slice none 0 0, .int .i64 (R : Int)] 28).world hq)
  clear hq H3
  generalize w3.heap.size = bx at *
  go_wp2
  go_loopw [5] (fun i wr => ∃ (k : Nat) (G : Nat → Prop) (A0 : Option Addr) (n0 c0 : Nat), k ≤ mn ∧ i = .int .i64 k ∧ Hid (Has w wr (fun _ => False) [⟨tlbT q R (playD R ds k), G⟩] [⟨bx, #[.slice A0 n0 c0, .int .i64 (R : Int)], 28⟩] [rowQ (.slice A0 n0 c0) (playD R ds k)])) (fun i _ => (100 - intOf i).toNat)
  case atStart => exact ⟨0, _, none, 0, 0, by omega, rfl, H4⟩
  case round =>
    obtain ⟨k, G, A0, n0, c0, hk, rfl, HL⟩ := hrel
    clear H4
    by_cases hlt : k < mn
    · have hlt2 := hlt
      have hks : k < ds.length := by omega
      have h100 : (k : Int) < 100 := by omega
      obtain ⟨ad, hAd, hde⟩ := HD.out k hks
      subst hAd
      have HY := Lib.hid (HOK.out k hks)
      have HNX : Hid (playD R ds (k + 1) = doD R (playD R ds k) (ds.getD k zDt)) := Lib.hid rfl
      generalize playD R ds k = L at *
      generalize ds.getD k zDt = y at *
      have HDE := Lib.hid hde
      clear hde
      obtain ⟨L2, hL2⟩ : ∃ L2, doD R L y = L2 := ⟨_, rfl⟩
      have HL2 := Lib.hid hL2
      have HNX2 : Hid (playD R ds (k + 1) = L2) := Lib.hid (HNX.out.trans hL2)
      clear HNX hL2
      go_upto_region 6 with fail
      have H5 := Lib.hid (HL.out.quiet (Kept.drew0 wr))
      clear HL
      refine wp_region_held_drew (S := fun w' => Below w.heap.size w w') (by kernel_rfl) H5.out.below0 (fun hHeld => ?_)
      generalize wr.drew = w5 at *
      refine tk (v := ?_) 0 ?_ ?_
      rotate_left
      · intro w hSw
        go_simp
        (try with_reducible rfl)
      (try simp only [Act.put, List.setIfInBounds_toArray, List.set_cons_zero, List.set_cons_succ])
      refine tk (v := ?_) 2 ?_ ?_
      rotate_left
      · intro w hSw
        go_simp
        (try with_reducible rfl)
      (try simp only [Act.put, List.setIfInBounds_toArray, List.set_cons_zero, List.set_cons_succ])
      refine tk (v := ?_) 3 ?_ ?_
      rotate_left
      · intro w hSw
        go_simp
        (try with_reducible rfl)
      (try simp only [Act.put, List.setIfInBounds_toArray, List.set_cons_zero, List.set_cons_succ])
      refine tk (v := ?_) 4 ?_ ?_
      rotate_left
      · intro w hSw
        go_simp
        (try with_reducible rfl)
      (try simp only [Act.put, List.setIfInBounds_toArray, List.set_cons_zero, List.set_cons_succ])
      refine tk (v := .agg (deedC y)) 5 ?_ ?_
      · intro w hSw
        exact exec_loadT rfl rfl (HDE.out.below hSw).load
      (try simp only [Act.put, List.setIfInBounds_toArray, List.set_cons_zero, List.set_cons_succ])
      refine wpAnyH_ready (rs := [1]) (by kernel_rfl) (by simp) ?_
      refine anyH_one rfl (fun K hK => ?_) ?_
      · obtain ⟨a0, a1⟩ := (H5.out.at_ 0 rfl).c2
        go_simp
        clear a0 a1
        refine hK.out _ _ (hHeld) (fun hHeld => ?_)
        clear hK K
        (try simp only [Act.put, List.setIfInBounds_toArray, List.set_cons_zero, List.set_cons_succ])
        refine wpAnyH_ready (rs := [6]) (by kernel_rfl) (by simp) ?_
        refine anyH_one rfl (fun K hK => ?_) ?_
        · go_simp
          refine (do13_any (H5.out.the 0 rfl) HR64.out (H5.out.tabs HT.out off_no) (H5.out.offs HT.out off_no 0 rfl) _ H5.out.own1 (fun i hi hg => H5.out.off 0 rfl i hi ⟨_, List.mem_cons_self .., hg⟩) y HY.out).mono ?_
          rw [HL2.out]
          rintro e w6 ⟨u0, rfl, G2, hH⟩
          obtain ⟨Z0, z0, y0, rfl⟩ := hH.own1.slice
          have H6 := Lib.hid (H5.out.doesT hH)
          clear hH H5
          refine hK.out _ _ (H6.out.below0) (fun hHeld => ?_)
          clear hK K
          (try simp only [Act.put, List.setIfInBounds_toArray, List.set_cons_zero, List.set_cons_succ])
          refine wpAnyH_ready (rs := [7]) (by kernel_rfl) (by simp) ?_
          refine anyH_one rfl (fun K hK => ?_) ?_
          · obtain ⟨a0, a1⟩ := (H6.out.at_ 0 rfl).c2
            have g0 := (H6.out.at_ 0 rfl).fz 0; have g1 := (H6.out.at_ 0 rfl).fz 1
            go_simp
            generalize hq9 : (w6.setCell _ _).setCell _ _ = w7
            have H7 := Lib.hid ((H6.out.put 0 rfl (turnB2 _ _ _ _) (setB2 (H6.out.at_ 0 rfl) _ _)).world hq9)
            clear hq9 H6 a0 a1 g0 g1
            refine hK.out _ _ (H7.out.below0) (fun hHeld => ?_)
            clear hK K
            (try simp only [Act.put, List.setIfInBounds_toArray, List.set_cons_zero, List.set_cons_succ])
            refine wpAnyH_done (by kernel_rfl) ?_ _
            clear hHeld
            go_wp2
            go_roundw
            case rel => exact ⟨k + 1, _, Z0, z0, y0, by omega, by go_num, by rw [HNX2.out]; exact H7⟩
            case measure => simp [intOf]; omega
          exact AllReadyH.nil
        exact AllReadyH.nil
      exact AllReadyH.nil
    · obtain rfl : k = mn := by omega
      by_cases h2 : k < ds.length
      · have h3 : decide ((k : Int) < 100) = false := by
          have := HM2.out
          exact decide_eq_false (by omega)
        go_wp2
        go_ret
        exact ⟨q, rfl, _, HL.out.pick [] []⟩
      · go_wp2
        go_ret
        exact ⟨q, rfl, _, HL.out.pick [] []⟩
end Go.Proofs.YtddbjbdhbeijjaaDoor
