/- Several texts of ours in one: Gs, Ie, If. -/
import Derived.Test.YtlpjbmlkpmhdlaaDoorGGbRgHb
import Derived.Test.YtlpjbmlkpmhdlaaDoorGIdEsEt
import Derived.StillTailTactics
import Derived.Test.YtlpjbmlkpmhdlaaDoorGRpRjIa
import Derived.Test.YtlpjbmlkpmhdlaaDoorGRfSmHe
/- Contracts of dormerref06: And. -/
namespace Go.Proofs.YtlpjbmlkpmhdlaaDoor
set_option linter.unusedVariables false
set_option linter.unusedSimpArgs false
open Go.ChangeShapes Go.WideShapes Go.ChangeAt Go.RowKit Go.Joins

/-- block g holds a right of the document's -/
def RowG (w : World) (g : Nat) (cs : Array Value) : Prop := w.heap[g]? = some (.cells cs 43 (0, 0))
abbrev noG : Array Value := #[.bool false, .bool false, .bool false]

/-- a right's box, and room for another one -/
theorem rand_start (W : World) (w u x : Bool) :
    RgtAt ((W.alloc (.cells #[.bool w, .bool u, .bool x] 43)).alloc (.cells noG 43)) W.heap.size w u x ∧
    RowG ((W.alloc (.cells #[.bool w, .bool u, .bool x] 43)).alloc (.cells noG 43)) (W.heap.size + 1) noG ∧
    Below W.heap.size W ((W.alloc (.cells #[.bool w, .bool u, .bool x] 43)).alloc (.cells noG 43)) :=
  ⟨rgt_keep (rgt_new W w u x _) (by simp) (kept_alloc _ _), last_obj2 _ _ _, below2 _ _ _⟩

set_option maxRecDepth 100000 in
set_option maxHeartbeats 1600000 in
theorem rand_any (w u x : Bool) (y : Int) (W : World) (hy : W64 y) :
    Calls Tryd.prog 47 #[rgtV w u x, .int .u64 y] W fun e W' => e = .returned (andV w u x y) ∧ Below W.heap.size W W' := by
  cases w <;> cases u <;> cases x
  all_goals
    go_enter Tryd.func47, Tryd.ntmps47
    go_wp2
    obtain ⟨⟨a0, a1, a2⟩, hR, hB⟩ := rand_start W _ _ _
    have HR := Lib.hid hR
    have HB := Lib.hid hB
    clear hR hB
    generalize (W.alloc _).alloc _ = w1 at *
    refine wp_region_still_tail 20 (by kernel_rfl) (by kernel_rfl) ?_
    simp only [List.take_succ_cons, List.take_zero, List.drop_succ_cons, List.drop_zero]
    repeat (first | still_step | still_call (stillOf (rbit_any _ _ _ hy)))
    refine wpStill_nil ?_
    change wpList _ _ _ _ _ w1.drew
    have HE2 : Hid (RowG w1.drew (W.heap.size + 1) noG) := HR.out
    have HB2 : Hid (Below W.heap.size W w1.drew) := HB.out.drew
    clear HR HB a0 a1 a2
    generalize w1.drew = w2 at *
    have k0 := (cell_of_block HE2.out 0).trans (show noG[0]? = some (.bool false) from rfl)
    have k1 := (cell_of_block HE2.out 1).trans (show noG[1]? = some (.bool false) from rfl)
    have k2 := (cell_of_block HE2.out 2).trans (show noG[2]? = some (.bool false) from rfl)
    have f0 := unfrozen_of_block HE2.out 0
    have f1 := unfrozen_of_block HE2.out 1
    have f2 := unfrozen_of_block HE2.out 2
    go_wp2
    refine bodyPost_ret (results_cell_row rfl _ _ (W.heap.size + 1) _ _ _ _ rfl (block_setCell (block_setCell (block_setCell HE2.out (i := 0) _) (i := 1) _) (i := 2) _) Tryd.underlying43 rfl rfl) rfl ⟨rfl, ?_⟩
    exact ((HB2.out.setCell (by simp) _).setCell (by simp) _).setCell (by simp) _
end Go.Proofs.YtlpjbmlkpmhdlaaDoor
/- The document's From. (Laid by tools/gen_ie.py.) -/
namespace Go.Proofs.YtlpjbmlkpmhdlaaDoor
set_option linter.unusedVariables false
set_option linter.unusedSimpArgs false
open Go.ChangeShapes Go.WideShapes Go.ChangeAt Go.RowKit Go.Joins

theorem results_two {P : Program} {fn : Func} {p q : Tmp} {ty tz : TypeId} (h : fn.results = #[.cell p ty, .cell q tz]) (tmps : Array Value) (w : World) (g k : Nat) (t u : TypeId) (cs ds : Array Value) (fr gr : Nat × Nat) (d e : TypeDesc)
    (hp : tmps.getD p undef = .pointer (some ⟨g, 0, none⟩)) (hq : tmps.getD q undef = .pointer (some ⟨k, 0, none⟩)) (hg : w.heap[g]? = some (.cells cs t fr)) (hk : w.heap[k]? = some (.cells ds u gr))
    (hu : P.underlying ty = some d) (hd : (match d with | .struct _ | .array _ _ => true | _ => false) = true) (hi : (P.info? ty).map (·.size) = some cs.size)
    (hu2 : P.underlying tz = some e) (hd2 : (match e with | .struct _ | .array _ _ => true | _ => false) = true) (hi2 : (P.info? tz).map (·.size) = some ds.size) :
    (results fn tmps).run P w = .ok (.tuple #[.agg cs, .agg ds]) w := by
  have hp' : tmps[p]?.getD undef = .pointer (some ⟨g, 0, none⟩) := by simpa using hp
  have hq' : tmps[q]?.getD undef = .pointer (some ⟨k, 0, none⟩) := by simpa using hq
  simp [results, h, hp', hq', asAddr, run_loadVar_row w g t ty cs fr d hg hu hd hi, run_loadVar_row w k u tz ds gr e hk hu2 hd2 hi2, Sem.run_bind, Result.andThen]

theorem own_apart {wr : World} {b1 b2 s1 s2 n1 n2 : Nat} {e1 e2 : TypeId} {v1 v2 : Value} {xs1 xs2 : List Value} (h : wr.ownsRow b1 e1 s1 v1 n1 xs1) (k : wr.ownsRow b2 e2 s2 v2 n2 xs2) (hne : e1 ≠ e2) {i : Nat} (hi : v1.ownBlock = some i) : ¬ v2.ownBlock = some i := by
  intro hj
  rcases k.2 with ⟨rfl, _⟩ | ⟨g, cap, cur, rfl, _, hg, _⟩
  · simp [Value.ownBlock] at hj
  · simp [Value.ownBlock] at hj; subst hj; exact not_box h hg hne _ hi rfl

theorem NewOr.step {w wr : World} {v0 v v' : Value} (h : NewOr wr v v') (h0 : NewOr w v0 v) (hs : w.heap.size ≤ wr.heap.size) : NewOr w v0 v' := by
  rcases h with rfl | h
  · exact h0
  · exact Or.inr fun i hi => Nat.le_trans hs (h i hi)

/-- the document's From, in its loop -/
structure RFm (w wr : World) (vt0 : Value) (M : Int) (vs vt : Value) (f : Int → Int) (T : List Int) (L : List (Int × Int)) (W U X : Bool) (S : List (Int × Int × Int)) (v : Value) : Prop where
  mbox : Blk wr w.heap.size (docCells M vs vt) 34
  rm : Blk wr (w.heap.size + 2) (docCells 0 (.slice none 0 0) (.slice none 0 0)) 34
  rp : Blk wr (w.heap.size + 3) (pathCells (.slice none 0 0) (offP 0)) 45
  rgt : Blk wr (w.heap.size + 4) #[.bool W, .bool U, .bool X] 43
  doc : Doc wr M vs vt f T L
  own : StepsOwn 96 wr (w.heap.size + 5) v S
  below : Below w.heap.size w wr
  nt : NewOr w vt0 vt

/-- what it answers -/
def RAns (w : World) (vt0 : Value) (M : Int) (vs : Value) (f : Int → Int) (tr : List Int) (L : List (Int × Int)) (p : Pth) (e : Ending) (w' : World) : Prop :=
  ∃ v vt', e = .returned (.tuple #[.agg (docCells M vs vt'), pathV v p.why p.W p.U p.X p.lev p.fr]) ∧ Doc w' M vs vt' f (tr ++ slotsP p.steps) L ∧ StepsOwn 96 w' w.heap.size v p.steps ∧ NewOr w vt0 vt' ∧ Below w.heap.size w w'

section
variable {w wr w3 w5 : World} {M : Int} {vs vt vt0 vt' v v' : Value} {f : Int → Int} {T T' : List Int} {L : List (Int × Int)} {W U X : Bool} {S : List (Int × Int × Int)}
theorem RFm.quiet (h : RFm w wr vt0 M vs vt f T L W U X S v) (hb : Below wr.heap.size wr w3) : RFm w w3 vt0 M vs vt f T L W U X S v :=
  ⟨h.mbox.below hb, h.rm.below hb, h.rp.below hb, h.rgt.below hb, h.doc.quiet hb, h.own.below hb, h.below.trans (hb.mono h.below.size), h.nt⟩
/-- a box below the steps is turned -/
theorem StepsOwn.box {e : TypeId} {base b : Nat} (h : StepsOwn e wr base v S) (ht : Turn (fun i => i = b) wr w3) (hb : b < base) : StepsOwn e w3 base v S := h.turn ht (fun i hi e => by have := (h.lt hi).1; omega)
theorem RFm.load (h : RFm w wr vt0 M vs vt f T L W U X S v) (hb : Below wr.heap.size wr w3) (hw : WordsOwn w3 vt' T') (hn : NewOr wr vt vt') : RFm w (((w3.setCell ⟨w.heap.size, 0, none⟩ (.int .i64 M)).setCell ⟨w.heap.size, 1, none⟩ vs).setCell ⟨w.heap.size, 2, none⟩ vt') vt0 M vs vt' f T' L W U X S v := by
  have h3 := h.quiet hb
  have hd : Doc w3 M vs vt' f T' L := ⟨h3.doc.slots, hw, h3.doc.agree, h3.doc.ris, h3.doc.ins⟩
  have ht := turn3 w3 w.heap.size (.int .i64 M) vs vt'
  exact ⟨h3.mbox.set3 _ _ _, h3.rm.turn ht (by omega), h3.rp.turn ht (by omega), h3.rgt.turn ht (by omega), hd.box h3.mbox (by decide) (by decide) ht, h3.own.box ht (by omega), turn_below h3.below ht (by omega) h3.below.size, hn.step h.nt h.below.size⟩
theorem RFm.right (h : RFm w wr vt0 M vs vt f T L W U X S v) (W' U' X' : Bool) : RFm w (((wr.setCell ⟨w.heap.size + 4, 0, none⟩ (.bool W')).setCell ⟨w.heap.size + 4, 1, none⟩ (.bool U')).setCell ⟨w.heap.size + 4, 2, none⟩ (.bool X')) vt0 M vs vt f T L W' U' X' S v := by
  have ht := turn3 wr (w.heap.size + 4) (.bool W') (.bool U') (.bool X')
  exact ⟨h.mbox.turn ht (by omega), h.rm.turn ht (by omega), h.rp.turn ht (by omega), h.rgt.set3 _ _ _, h.doc.box h.rgt (by decide) (by decide) ht, h.own.box ht (by omega), turn_below h.below ht (by omega) h.below.size, h.nt⟩
theorem RFm.more {l s x : Int} {u : TypeId} (h : RFm w wr vt0 M vs vt f T L W U X S v) (hown : w5.ownsRow (w.heap.size + 5) 96 3 v' (S.length + 1) (stepCells S ++ [.int .i64 l, .int .u64 s, .int .u64 x]))
    (hg : (wr.alloc (.cells #[.int .i64 l, .int .u64 s, .int .u64 x] u)).grownBy w5 v.ownBlock) : RFm w w5 vt0 M vs vt f T L W U X (S ++ [(l, s, x)]) v' := by
  have ht : Turn (fun i => v.ownBlock = some i) wr w5 := (Turn.alloc _ wr _).and (Turn.grown hg (fun i hi => hi))
  have hv : ∀ i, v.ownBlock = some i → w.heap.size + 5 ≤ i := fun i hi => (h.own.lt hi).1
  have no : ∀ k, k < 5 → ¬ v.ownBlock = some (w.heap.size + k) := fun k hk e => by have := hv _ e; omega
  exact ⟨h.mbox.turn ht (no 0 (by omega)), h.rm.turn ht (no 2 (by omega)), h.rp.turn ht (no 3 (by omega)), h.rgt.turn ht (no 4 (by omega)),
    ⟨own_turn h.doc.slots ht (fun i hi => own_apart h.doc.slots h.own (by decide) hi), own_turn h.doc.words ht (fun i hi => own_apart h.doc.words h.own (by decide) hi), h.doc.agree, h.doc.ris, h.doc.ins⟩,
    StepsOwn.more hown, h.below.trans (ht.below (fun i hi => by have := hv i hi; omega) h.below.size), h.nt⟩
/-- behind what is laid for the results -/
theorem RFm.rmS (h : RFm w wr vt0 M vs vt f T L W U X S v) (a0 a1 a2 b0 b1 b2 b3 b4 b5 b6 : Value) : Blk ((((((((((wr.setCell ⟨w.heap.size + 2, 0, none⟩ a0).setCell ⟨w.heap.size + 2, 1, none⟩ a1).setCell ⟨w.heap.size + 2, 2, none⟩ a2).setCell ⟨w.heap.size + 3, 0, none⟩ b0).setCell ⟨w.heap.size + 3, 1, none⟩ b1).setCell ⟨w.heap.size + 3, 2, none⟩ b2).setCell ⟨w.heap.size + 3, 3, none⟩ b3).setCell ⟨w.heap.size + 3, 4, none⟩ b4).setCell ⟨w.heap.size + 3, 5, none⟩ b5).setCell ⟨w.heap.size + 3, 6, none⟩ b6) (w.heap.size + 2) #[a0, a1, a2] 34 :=
  (h.rm.set3 a0 a1 a2).turn (turn7 _ (w.heap.size + 3) b0 b1 b2 b3 b4 b5 b6) (by omega)
theorem RFm.rpS (h : RFm w wr vt0 M vs vt f T L W U X S v) (a0 a1 a2 b0 b1 b2 b3 b4 b5 b6 : Value) : Blk ((((((((((wr.setCell ⟨w.heap.size + 2, 0, none⟩ a0).setCell ⟨w.heap.size + 2, 1, none⟩ a1).setCell ⟨w.heap.size + 2, 2, none⟩ a2).setCell ⟨w.heap.size + 3, 0, none⟩ b0).setCell ⟨w.heap.size + 3, 1, none⟩ b1).setCell ⟨w.heap.size + 3, 2, none⟩ b2).setCell ⟨w.heap.size + 3, 3, none⟩ b3).setCell ⟨w.heap.size + 3, 4, none⟩ b4).setCell ⟨w.heap.size + 3, 5, none⟩ b5).setCell ⟨w.heap.size + 3, 6, none⟩ b6) (w.heap.size + 3) #[b0, b1, b2, b3, b4, b5, b6] 45 :=
  (h.rp.turn (turn3 wr (w.heap.size + 2) a0 a1 a2) (by omega)).set7 b0 b1 b2 b3 b4 b5 b6
theorem RFm.done {tr : List Int} {p : Pth} (h : RFm w wr vt0 M vs vt f T L W U X S v) (hp : p.steps = []) (hT : T = tr ++ slotsP S) (a0 a1 a2 b0 b1 b2 b3 b4 b5 b6 : Value) :
    RAns w vt0 M vs f tr L (preP S p) (.returned (.tuple #[.agg (docCells M vs vt), pathV v p.why p.W p.U p.X p.lev p.fr])) ((((((((((wr.setCell ⟨w.heap.size + 2, 0, none⟩ a0).setCell ⟨w.heap.size + 2, 1, none⟩ a1).setCell ⟨w.heap.size + 2, 2, none⟩ a2).setCell ⟨w.heap.size + 3, 0, none⟩ b0).setCell ⟨w.heap.size + 3, 1, none⟩ b1).setCell ⟨w.heap.size + 3, 2, none⟩ b2).setCell ⟨w.heap.size + 3, 3, none⟩ b3).setCell ⟨w.heap.size + 3, 4, none⟩ b4).setCell ⟨w.heap.size + 3, 5, none⟩ b5).setCell ⟨w.heap.size + 3, 6, none⟩ b6) := by
  have t3 := turn3 wr (w.heap.size + 2) a0 a1 a2
  have t7 := turn7 (((wr.setCell ⟨w.heap.size + 2, 0, none⟩ a0).setCell ⟨w.heap.size + 2, 1, none⟩ a1).setCell ⟨w.heap.size + 2, 2, none⟩ a2) (w.heap.size + 3) b0 b1 b2 b3 b4 b5 b6
  have e : (preP S p).steps = S := by show S ++ p.steps = S; rw [hp]; simp
  have d1 := h.doc.box h.rm (by decide) (by decide) t3
  have d2 := d1.box (h.rp.turn t3 (by omega)) (by decide) (by decide) t7
  have b1 := turn_below h.below t3 (by omega) h.below.size
  refine ⟨v, vt, rfl, ?_, ?_, h.nt, turn_below b1 t7 (by omega) b1.size⟩
  · rw [e, ← hT]; exact d2
  · rw [e]; exact ((h.own.box t3 (by omega)).box t7 (by omega)).down (by omega)
end

/-- what the region of the leaf keeps -/
def RegR (w : World) (M : Int) (vs vt : Value) (W U X : Bool) (w' : World) : Prop := Blk w' w.heap.size (docCells M vs vt) 34 ∧ Blk w' (w.heap.size + 4) #[.bool W, .bool U, .bool X] 43
theorem regr_turn {w w2 w3 : World} {M : Int} {vs vt : Value} {W U X : Bool} {b : Nat} (h : RegR w M vs vt W U X w2) (ht : Turn (fun i => i = b) w2 w3) (h1 : b = w.heap.size + 2 ∨ b = w.heap.size + 3) : RegR w M vs vt W U X w3 :=
  ⟨h.1.turn ht (by omega), h.2.turn ht (by omega)⟩

theorem rfm_start {w : World} {M : Int} {vs vt : Value} {f : Int → Int} {T : List Int} {L : List (Int × Int)} (h : Doc w M vs vt f T L) (lev t : Int) (W U X : Bool) :
    RFm w (((((w.alloc (.cells (docCells M vs vt) 34)).alloc (.cells #[.int .i64 lev, .int .u64 t, .bool W, .bool U, .bool X] 49)).alloc (.cells (docCells 0 (.slice none 0 0) (.slice none 0 0)) 34)).alloc (.cells (pathCells (.slice none 0 0) (offP 0)) 45)).alloc (.cells #[.bool W, .bool U, .bool X] 43)) vt M vs vt f T L W U X [] (.slice none 0 0) := by
  generalize hq : (.cells (docCells M vs vt) 34 : Obj) = o0
  generalize (.cells #[.int .i64 lev, .int .u64 t, .bool W, .bool U, .bool X] 49 : Obj) = o1
  have e1 : (w.alloc o0).heap.size = w.heap.size + 1 := by simp
  have e2 : ((w.alloc o0).alloc o1).heap.size = w.heap.size + 2 := by simp
  have e3 : ∀ o, (((w.alloc o0).alloc o1).alloc o).heap.size = w.heap.size + 3 := fun o => by simp
  have e4 : ∀ o o', ((((w.alloc o0).alloc o1).alloc o).alloc o').heap.size = w.heap.size + 4 := fun o o' => by simp
  have hb2 := below2 w o0 o1
  have hb : Below w.heap.size w (((((w.alloc o0).alloc o1).alloc (.cells (docCells 0 (.slice none 0 0) (.slice none 0 0)) 34)).alloc (.cells (pathCells (.slice none 0 0) (offP 0)) 45)).alloc (.cells #[.bool W, .bool U, .bool X] 43)) :=
    (below3 w o0 o1 _).trans ((below2 _ _ _).mono (below3 w o0 o1 _).size)
  refine ⟨?_, ?_, ?_, ?_, h.quiet hb, StepsOwn.nil _ _ _, hb, Or.inl rfl⟩
  · have : Blk (w.alloc o0) w.heap.size (docCells M vs vt) 34 := by rw [← hq]; exact Blk.new _ _ _
    exact (((this.alloc _).alloc _).alloc _).alloc _
  · have := ((Blk.new ((w.alloc o0).alloc o1) (docCells 0 (.slice none 0 0) (.slice none 0 0)) 34).alloc (.cells (pathCells (.slice none 0 0) (offP 0)) 45)).alloc (.cells #[.bool W, .bool U, .bool X] 43)
    rwa [e2] at this
  · have := (Blk.new (((w.alloc o0).alloc o1).alloc (.cells (docCells 0 (.slice none 0 0) (.slice none 0 0)) 34)) (pathCells (.slice none 0 0) (offP 0)) 45).alloc (.cells #[.bool W, .bool U, .bool X] 43)
    rwa [e3] at this
  · have := Blk.new ((((w.alloc o0).alloc o1).alloc (.cells (docCells 0 (.slice none 0 0) (.slice none 0 0)) 34)).alloc (.cells (pathCells (.slice none 0 0) (offP 0)) 45)) #[.bool W, .bool U, .bool X] 43
    rwa [e4] at this
end Go.Proofs.YtlpjbmlkpmhdlaaDoor
/- The document's From: its walk. (Laid by tools/gen_ie.py.) -/
namespace Go.Proofs.YtlpjbmlkpmhdlaaDoor
set_option linter.unusedVariables false
set_option linter.unusedSimpArgs false
open Go.ChangeShapes Go.WideShapes Go.ChangeAt Go.RowKit Go.Joins

set_option maxRecDepth 100000 in
set_option maxHeartbeats 8000000 in
theorem rfrom_any {w : World} {M : Int} {vs vt0 : Value} {f : Int → Int} {tr : List Int} {L : List (Int × Int)} (h : Doc w M vs vt0 f tr L) (hM : 14 ≤ M ∧ M ≤ 22) (hl : L.length < 90000) (htr : tr.length < 1000) (hwd : ∀ j, W64 (f j)) (lev t a : Int) (W U X nxe : Bool) (ht : W64 t) (ha : W64 a) :
    Calls Tryd.prog 13 #[.agg (docCells M vs vt0), placeV lev t W U X, .int .u64 a, .bool nxe] w (RAns w vt0 M vs f tr L (walkZ M f a nxe lev t W U X)) := by
  obtain ⟨A0, c0, A1, c1, rfl, rfl⟩ := h.form
  obtain ⟨i0, hi, hz0, hz1, hz2⟩ := info_parts infoRStep
  have HP := Lib.hid (rfm_start h lev t W U X)
  have HWD := Lib.hid hwd
  clear h hwd
  go_enter Tryd.func13, Tryd.ntmps13
  go_wp2
  go_loopg [10, 12, 13] 5 (fun k s10 s12 s13 wr => ∃ (lev' t' : Int) (W' U' X' : Bool) (S : List (Int × Int × Int)) (vt : Value) (T : List Int), Hid (T = tr ++ slotsP S) ∧ (lev' ≤ 4 → lev' ≤ k) ∧ k ≤ 5 ∧ S.length + k ≤ 5 ∧ W64 t' ∧ s12 = .int .u64 t' ∧ s13 = .int .i64 lev' ∧ walkZ M f a nxe lev t W U X = preP S (walkZ M f a nxe lev' t' W' U' X') ∧ RFm w wr (.slice A1 tr.length c1) M (.slice A0 L.length c0) vt f T L W' U' X' S s10)
  case atStart => exact ⟨lev, t, W, U, X, [], _, tr, Lib.hid (by rw [show slotsP [] = [] from rfl, List.append_nil]), by omega, by omega, by simp, ht, rfl, rfl, (preP_nil _).symm, HP.out⟩
  case round =>
    obtain ⟨lev', t', W', U', X', S, vt, T, HTr, hk, hk5, hSl, ht', rfl, rfl, hE, hF⟩ := hrel
    obtain ⟨As, cs, rfl⟩ := hF.own.form
    obtain ⟨_, _, A2, c2, _, rfl⟩ := hF.doc.form
    have HE := Lib.hid hE
    have HF := Lib.hid hF
    clear hE HP hF
    by_cases hl' : 1 ≤ lev' ∧ lev' ≤ 4
    · obtain ⟨h1, h4⟩ := hl'
      have hk' := hk h4
      have CS := rslot_any t' a lev' wr ht' ha
      have HSL := Lib.hid (slot_le t' a lev')
      obtain ⟨s, hs⟩ : ∃ s, slotF t' a lev' = s := ⟨_, rfl⟩
      rw [hs] at CS HSL
      have hlT : T.length < 1000000 := by rw [HTr.out]; simp [slotsP]; omega
      have CL := rLoad_any M _ _ L T f s wr hM HF.out.doc.slots (by omega) HF.out.doc.words hlT HF.out.doc.agree HSL.out
      clear hlT
      by_cases he : errS M s = 0
      · obtain ⟨x, hx⟩ : ∃ x, f (s / 8) = x := ⟨_, rfl⟩
        have HX := Lib.hid (show W64 x from hx ▸ HWD.out _)
        have HA := Lib.hid (walk_at (M := M) (f := f) (a := a) (nxe := nxe) (W := W') (U := U') (X := X') h1 h4 hs he hx)
        rw [show peekV M f s = x by unfold peekV; rw [if_pos he, hx], he] at CL
        obtain ⟨T', hT'⟩ : ∃ T', loadT M T s = T' := ⟨_, rfl⟩
        have HTn : Hid (T' = tr ++ slotsP (S ++ [(lev', s, x)])) := Lib.hid (by rw [← hT', HTr.out]; unfold loadT; rw [if_pos he]; exact slotsP_more _ _ _ _ _)
        rw [hT'] at CL
        clear hT'
        have HSO := Lib.hid hSl
        clear hs hx he hk HWD
        obtain ⟨m0, m1, m2⟩ := HF.out.mbox.three
        go_upto_region 9 with (first | (go_at_call 43; ((with_reducible refine CS.mono ?_)); rintro e w' ⟨rfl, rfl⟩) | (go_at_call 44; ((with_reducible refine CL.mono ?_)); rintro e w3 ⟨vt', rfl, hW3, hN3, hB3⟩; have HN3 := Lib.hid hN3; have HW3 := Lib.hid hW3; have HK3 := Lib.hid hB3; obtain ⟨A3, c3, rfl⟩ := own_len hW3; clear hW3 hB3 hN3 CL CS m0 m1 m2))
        generalize hw4 : w3.alloc _ = w4
        have HK4 : Hid (Below w3.heap.size w3 w4) := Lib.hid (by rw [← hw4]; exact below_alloc1 _ _)
        have HN4 : Hid (Blk w4 w3.heap.size (docCells M (.slice A0 L.length c0) (.slice A3 T'.length c3)) 34) := Lib.hid (by rw [← hw4]; exact Blk.new _ _ _)
        have HK := Lib.hid (HK3.out.trans (HK4.out.mono HK3.out.size))
        have HF5 := Lib.hid (HF.out.load HK.out (own_below HW3.out HK4.out) HN3.out)
        have HF4 := Lib.hid (HF.out.quiet HK.out)
        clear hw4 HK4 HK3 HW3 HF HK
        obtain ⟨q0, q1, q2⟩ := HN4.out.three
        obtain ⟨m0, m1, m2⟩ := HF4.out.mbox.three
        have z0 := HF4.out.mbox.fz 0; have z1 := HF4.out.mbox.fz 1; have z2 := HF4.out.mbox.fz 2
        go_upto_region 12 with fail
        clear q0 q1 q2 m0 m1 m2 z0 z1 z2 HN4 HF4
        generalize ((w4.setCell _ _).setCell _ _).setCell _ _ = w5 at *
        go_upto_region 13 with (first | (at_builtin; refine wpList_append_own_at _ rfl _ _ 42 rfl (w.heap.size + 5) 96 i0 _ 3 24 Tryd.underlying42 hi hz0 hz1 hz2 rfl (by decide) (.slice As S.length cs) S.length (stepCells S) rfl (World.ownsRow.alloc HF5.out.own _) ⟨w5.heap.size, 0, none⟩ 1 1 [.int .i64 lev', .int .u64 s, .int .u64 x] rfl rfl (three_cells _ _ _ _ _) (three_one _ _ _) (by have := HSO.out; unfold maxLen; omega) (by have := HSO.out; omega) (by have := HF5.out.rgt.lt; simp; omega) ?_; intro v' w6 hown' hgrow hnil hloc; have HF6 := Lib.hid (HF5.out.more hown' hgrow); obtain ⟨g6, cap6, rfl⟩ := ownsRow_form hown' (by omega); clear hgrow hown' hnil hloc HF5))
        have CB := fun w' => rbit_any x 0 w' HX.out
        have CR := fun w' => rres_any x lev' M nxe w' HX.out
        have CF := fun w' => rleaf_any x lev' w' HX.out
        have CA := fun w' => rand_any W' U' X' x w' HX.out
        have CT := fun w' => rtable_any x w' HX.out
        have CFr := fun w' => rframe_any x lev' w' HX.out
        obtain ⟨r0, r1, r2, r3, r4, r5, r6⟩ := HF6.out.rp.seven; have s0 := HF6.out.rp.fz 0; have s1 := HF6.out.rp.fz 1; have s2 := HF6.out.rp.fz 2; have s3 := HF6.out.rp.fz 3; have s4 := HF6.out.rp.fz 4; have s5 := HF6.out.rp.fz 5; have s6 := HF6.out.rp.fz 6; obtain ⟨u0, u1, u2⟩ := HF6.out.rm.three; have v0 := HF6.out.rm.fz 0; have v1 := HF6.out.rm.fz 1; have v2 := HF6.out.rm.fz 2; obtain ⟨m0, m1, m2⟩ := HF6.out.mbox.three
        cases hP : bitF x 0
        · simp only [hP] at CB
          have HO := Lib.hid (on_abs (M := M) (nxe := nxe) (lev := lev') (W := W') (U := U') (X := X') (k := walkZ M f a nxe (lev' - 1)) hP)
          clear hP CR CF CA CT CFr
          go_wp2_with (first | (go_at_call 45; refine (CB _).mono ?_; rintro e w' ⟨rfl, rfl⟩))
          (try rw [Exit.noGoto_ret])
          refine bodyPost_ret (results_two rfl _ _ (w.heap.size + 2) (w.heap.size + 3) _ _ _ _ _ _ _ _ rfl rfl (HF6.out.rmS _ _ _ _ _ _ _ _ _ _) (HF6.out.rpS _ _ _ _ _ _ _ _ _ _) Tryd.underlying34 rfl rfl Tryd.underlying45 rfl rfl) rfl ?_
          rw [HE.out, HA.out, HO.out, preP_preP]
          exact RFm.done (p := offP 1) HF6.out rfl HTn.out _ _ _ _ _ _ _ _ _ _
        · simp only [hP] at CB
          have HO1 := Lib.hid (on_res (M := M) (nxe := nxe) (lev := lev') (W := W') (U := U') (X := X') (k := walkZ M f a nxe (lev' - 1)) hP)
          have HO2 := Lib.hid (on_leaf (M := M) (nxe := nxe) (lev := lev') (W := W') (U := U') (X := X') (k := walkZ M f a nxe (lev' - 1)) hP)
          have HO3 := Lib.hid (on_on (M := M) (nxe := nxe) (lev := lev') (W := W') (U := U') (X := X') (k := walkZ M f a nxe (lev' - 1)) hP)
          clear hP
          cases hR : resF x lev' M nxe
          · simp only [hR] at CR
            obtain ⟨y0, y1, y2⟩ := HF6.out.rgt.three
            clear r0 r1 r2 r3 r4 r5 r6 s0 s1 s2 s3 s4 s5 s6 u0 u1 u2 v0 v1 v2 m0 m1 m2
            obtain ⟨m0, m1, m2⟩ := HF6.out.mbox.three
            go_upto_region 18 with (first | (go_at_call 45; refine (CB _).mono ?_; rintro e w' ⟨rfl, rfl⟩) | (go_at_call 46; refine (CR _).mono ?_; rintro e w' ⟨rfl, rfl⟩) | (go_at_call 47; refine (CA _).mono ?_; rintro e w7 ⟨rfl, hb7⟩; have HF7 := Lib.hid (HF6.out.quiet hb7); clear hb7 HF6 y0 y1 y2 m0 m1 m2; obtain ⟨y0, y1, y2⟩ := HF7.out.rgt.three; have z0 := HF7.out.rgt.fz 0; have z1 := HF7.out.rgt.fz 1; have z2 := HF7.out.rgt.fz 2))
            have HF8 := Lib.hid (HF7.out.right (W' && bitF x 1) (U' && bitF x 2) (X' && !bitF x 63))
            clear HF7 y0 y1 y2 z0 z1 z2
            generalize ((w7.setCell _ _).setCell _ _).setCell _ _ = w8 at *
            cases hL : leafF x lev'
            · simp only [hL] at CF
              have HO := Lib.hid (HO3.out hR hL)
              clear HO1 HO2 HO3 hR hL CFr CA CB CR
              have ew : IntKind.i64.wrap (lev' - 1) = lev' - 1 := i64_wrap (by omega) (by omega)
              go_wp2_with (first | (go_at_call 48; refine (CF _).mono ?_; rintro e w' ⟨rfl, rfl⟩) | (go_at_call 50; refine (CT _).mono ?_; rintro e w' ⟨rfl, rfl⟩))
              go_roundg (gk - 1)
              case measure => omega
              case rel =>
                refine ⟨lev' - 1, tableF x, W' && bitF x 1, U' && bitF x 2, X' && !bitF x 63, S ++ [(lev', s, x)], _, T', HTn, by omega, by omega, by have := HSO.out; simp; omega, w64_table x, rfl, by first | rfl | go_num, ?_, HF8.out⟩
                rw [HE.out, HA.out, HO.out, preP_preP]
            · simp only [hL] at CF
              have HO := Lib.hid (HO2.out hR hL)
              clear HO1 HO2 HO3 hR hL CT CA CB CR
              obtain ⟨y0, y1, y2⟩ := HF8.out.rgt.three
              obtain ⟨m0, m1, m2⟩ := HF8.out.mbox.three
              go_upto_region 19 with (first | (go_at_call 48; refine (CF _).mono ?_; rintro e w' ⟨rfl, rfl⟩))
              have HF9 := Lib.hid (HF8.out.quiet (Kept.drew0 w8))
              have H0 : RegR w M (.slice A0 L.length c0) (.slice A3 T'.length c3) (W' && bitF x 1) (U' && bitF x 2) (X' && !bitF x 63) w8.drew := ⟨HF9.out.mbox, HF9.out.rgt⟩
              refine wp_region_held_drew (S := RegR w M (.slice A0 L.length c0) (.slice A3 T'.length c3) (W' && bitF x 1) (U' && bitF x 2) (X' && !bitF x 63)) (by kernel_rfl) H0 (fun hHeld => ?_)
              clear H0 HF8 y0 y1 y2 m0 m1 m2
              generalize w8.drew = w9 at *
              obtain ⟨r0, r1, r2, r3, r4, r5, r6⟩ := HF9.out.rp.seven; have s0 := HF9.out.rp.fz 0; have s1 := HF9.out.rp.fz 1; have s2 := HF9.out.rp.fz 2; have s3 := HF9.out.rp.fz 3; have s4 := HF9.out.rp.fz 4; have s5 := HF9.out.rp.fz 5; have s6 := HF9.out.rp.fz 6; obtain ⟨u0, u1, u2⟩ := HF9.out.rm.three; have v0 := HF9.out.rm.fz 0; have v1 := HF9.out.rm.fz 1; have v2 := HF9.out.rm.fz 2; obtain ⟨m0, m1, m2⟩ := HF9.out.mbox.three
              clear m0 m1 m2
              refine anyH_take (i := 0) (v := ?_) rfl (by kernel_rfl) (by kernel_rfl) (by kernel_rfl) (fun _ _ _ h => h) (by rfl) (by assumption) ?_ ?_
              rotate_left
              · intro w hSw
                obtain ⟨hA, hB⟩ := hSw
                obtain ⟨m0, m1, m2⟩ := hA.three
                obtain ⟨y0, y1, y2⟩ := hB.three
                go_simp
                (try with_reducible rfl)
              (try simp only [Act.put, List.setIfInBounds_toArray, List.set_cons_zero, List.set_cons_succ])
              refine anyH_take (i := 1) (v := ?_) rfl (by kernel_rfl) (by kernel_rfl) (by kernel_rfl) (fun _ _ _ h => h) (by rfl) (by assumption) ?_ ?_
              rotate_left
              · intro w hSw
                go_simp
                (try with_reducible rfl)
              (try simp only [Act.put, List.setIfInBounds_toArray, List.set_cons_zero, List.set_cons_succ])
              refine anyH_take (i := 2) (v := ?_) rfl (by kernel_rfl) (by kernel_rfl) (by kernel_rfl) (fun _ _ _ h => h) (by rfl) (by assumption) ?_ ?_
              rotate_left
              · intro w hSw
                obtain ⟨hA, hB⟩ := hSw
                obtain ⟨m0, m1, m2⟩ := hA.three
                obtain ⟨y0, y1, y2⟩ := hB.three
                go_simp
                (try with_reducible rfl)
              (try simp only [Act.put, List.setIfInBounds_toArray, List.set_cons_zero, List.set_cons_succ])
              refine anyH_take (i := 3) (v := ?_) rfl (by kernel_rfl) (by kernel_rfl) (by kernel_rfl) (fun _ _ _ h => h) (by rfl) (by assumption) ?_ ?_
              rotate_left
              · intro w hSw
                go_simp
                (try with_reducible rfl)
              (try simp only [Act.put, List.setIfInBounds_toArray, List.set_cons_zero, List.set_cons_succ])
              refine anyH_take (i := 4) (v := ?_) rfl (by kernel_rfl) (by kernel_rfl) (by kernel_rfl) (fun _ _ _ h => h) (by rfl) (by assumption) ?_ ?_
              rotate_left
              · intro w hSw
                go_simp
                (try with_reducible rfl)
              (try simp only [Act.put, List.setIfInBounds_toArray, List.set_cons_zero, List.set_cons_succ])
              refine anyH_take (i := 5) (v := ?_) rfl (by kernel_rfl) (by kernel_rfl) (by kernel_rfl) (fun _ _ _ h => h) (by rfl) (by assumption) ?_ ?_
              rotate_left
              · intro w hSw
                go_simp
                (try with_reducible rfl)
              (try simp only [Act.put, List.setIfInBounds_toArray, List.set_cons_zero, List.set_cons_succ])
              refine wpAnyH_ready (rs := [6]) (by kernel_rfl) (by simp) ?_
              refine anyH_one rfl (fun K hK => ?_) ?_
              · go_simp
                refine (CFr _).mono ?_
                rintro e w' ⟨rfl, rfl⟩
                refine hK.out _ _ (hHeld) (fun hHeld => ?_)
                clear hK K
                (try simp only [Act.put, List.setIfInBounds_toArray, List.set_cons_zero, List.set_cons_succ])
                refine anyH_take (i := 7) (v := ?_) rfl (by kernel_rfl) (by kernel_rfl) (by kernel_rfl) (fun _ _ _ h => h) (by rfl) (by assumption) ?_ ?_
                rotate_left
                · intro w hSw
                  go_simp
                  (try with_reducible rfl)
                (try simp only [Act.put, List.setIfInBounds_toArray, List.set_cons_zero, List.set_cons_succ])
                refine wpAnyH_ready (rs := [8]) (by kernel_rfl) (by simp) ?_
                refine anyH_one rfl (fun K hK => ?_) ?_
                · go_simp
                  refine hK.out _ _ (regr_turn hHeld (turn3 _ _ _ _ _) (Or.inl rfl)) (fun hHeld => ?_)
                  clear hK K
                  (try simp only [Act.put, List.setIfInBounds_toArray, List.set_cons_zero, List.set_cons_succ])
                  refine wpAnyH_ready (rs := [9]) (by kernel_rfl) (by simp) ?_
                  refine anyH_one rfl (fun K hK => ?_) ?_
                  · go_simp
                    refine hK.out _ _ (regr_turn hHeld (turn7 _ _ _ _ _ _ _ _ _) (Or.inr rfl)) (fun hHeld => ?_)
                    clear hK K
                    (try simp only [Act.put, List.setIfInBounds_toArray, List.set_cons_zero, List.set_cons_succ])
                    refine wpAnyH_done (by kernel_rfl) ?_ _
                    clear hHeld
                    go_wp2
                    (try rw [Exit.noGoto_ret])
                    refine bodyPost_ret (results_two rfl _ _ (w.heap.size + 2) (w.heap.size + 3) _ _ _ _ _ _ _ _ rfl rfl (HF9.out.rmS _ _ _ _ _ _ _ _ _ _) (HF9.out.rpS _ _ _ _ _ _ _ _ _ _) Tryd.underlying34 rfl rfl Tryd.underlying45 rfl rfl) rfl ?_
                    rw [HE.out, HA.out, HO.out, preP_preP]
                    exact RFm.done (p := ⟨[], 0, W' && bitF x 1, U' && bitF x 2, X' && !bitF x 63, lev', frameF x lev'⟩) HF9.out rfl HTn.out _ _ _ _ _ _ _ _ _ _
                  exact AllReadyH.nil
                exact AllReadyH.nil
              exact AllReadyH.nil
          · simp only [hR] at CR
            have HO := Lib.hid (HO1.out hR)
            clear HO1 HO2 HO3 hR CF CA CT CFr
            go_wp2_with (first | (go_at_call 45; refine (CB _).mono ?_; rintro e w' ⟨rfl, rfl⟩) | (go_at_call 46; refine (CR _).mono ?_; rintro e w' ⟨rfl, rfl⟩))
            (try rw [Exit.noGoto_ret])
            refine bodyPost_ret (results_two rfl _ _ (w.heap.size + 2) (w.heap.size + 3) _ _ _ _ _ _ _ _ rfl rfl (HF6.out.rmS _ _ _ _ _ _ _ _ _ _) (HF6.out.rpS _ _ _ _ _ _ _ _ _ _) Tryd.underlying34 rfl rfl Tryd.underlying45 rfl rfl) rfl ?_
            rw [HE.out, HA.out, HO.out, preP_preP]
            exact RFm.done (p := offP 2) HF6.out rfl HTn.out _ _ _ _ _ _ _ _ _ _
      · have HA := Lib.hid (walk_err (f := f) (nxe := nxe) (W := W') (U := U') (X := X') h1 h4 (by rw [hs]; exact he))
        have hb2 : (errS M s != 0) = true := by simpa using he
        rw [show loadT M T s = T from if_neg he] at CL
        clear hs he hk HWD
        obtain ⟨m0, m1, m2⟩ := HF.out.mbox.three
        go_upto_region 9 with (first | (go_at_call 43; ((with_reducible refine CS.mono ?_)); rintro e w' ⟨rfl, rfl⟩) | (go_at_call 44; ((with_reducible refine CL.mono ?_)); rintro e w3 ⟨vt', rfl, hW3, hN3, hB3⟩; have HN3 := Lib.hid hN3; have HW3 := Lib.hid hW3; have HK3 := Lib.hid hB3; obtain ⟨A3, c3, rfl⟩ := own_len hW3; clear hW3 hB3 hN3 CL CS m0 m1 m2))
        generalize hw4 : w3.alloc _ = w4
        have HK4 : Hid (Below w3.heap.size w3 w4) := Lib.hid (by rw [← hw4]; exact below_alloc1 _ _)
        have HN4 : Hid (Blk w4 w3.heap.size (docCells M (.slice A0 L.length c0) (.slice A3 T.length c3)) 34) := Lib.hid (by rw [← hw4]; exact Blk.new _ _ _)
        have HK := Lib.hid (HK3.out.trans (HK4.out.mono HK3.out.size))
        have HF5 := Lib.hid (HF.out.load HK.out (own_below HW3.out HK4.out) HN3.out)
        have HF4 := Lib.hid (HF.out.quiet HK.out)
        clear hw4 HK4 HK3 HW3 HF HK
        obtain ⟨q0, q1, q2⟩ := HN4.out.three
        obtain ⟨m0, m1, m2⟩ := HF4.out.mbox.three
        have z0 := HF4.out.mbox.fz 0; have z1 := HF4.out.mbox.fz 1; have z2 := HF4.out.mbox.fz 2
        go_upto_region 10 with fail
        clear q0 q1 q2 m0 m1 m2 z0 z1 z2 HN4 HF4
        generalize ((w4.setCell _ _).setCell _ _).setCell _ _ = w5 at *
        obtain ⟨r0, r1, r2, r3, r4, r5, r6⟩ := HF5.out.rp.seven; have s0 := HF5.out.rp.fz 0; have s1 := HF5.out.rp.fz 1; have s2 := HF5.out.rp.fz 2; have s3 := HF5.out.rp.fz 3; have s4 := HF5.out.rp.fz 4; have s5 := HF5.out.rp.fz 5; have s6 := HF5.out.rp.fz 6; obtain ⟨u0, u1, u2⟩ := HF5.out.rm.three; have v0 := HF5.out.rm.fz 0; have v1 := HF5.out.rm.fz 1; have v2 := HF5.out.rm.fz 2; obtain ⟨m0, m1, m2⟩ := HF5.out.mbox.three
        go_wp2
        (try rw [Exit.noGoto_ret])
        refine bodyPost_ret (results_two rfl _ _ (w.heap.size + 2) (w.heap.size + 3) _ _ _ _ _ _ _ _ rfl rfl (HF5.out.rmS _ _ _ _ _ _ _ _ _ _) (HF5.out.rpS _ _ _ _ _ _ _ _ _ _) Tryd.underlying34 rfl rfl Tryd.underlying45 rfl rfl) rfl ?_
        rw [HE.out, HA.out]
        exact RFm.done (p := offP 2) HF5.out rfl HTr.out _ _ _ _ _ _ _ _ _ _
    · have HA := Lib.hid (walk_off (M := M) (f := f) (a := a) (nxe := nxe) (t := t') (W := W') (U := U') (X := X') hl')
      have hg : decide (1 ≤ lev') = false ∨ (1 ≤ lev' ∧ 4 < lev') := by
        by_cases c : 1 ≤ lev'
        · exact Or.inr ⟨c, by omega⟩
        · exact Or.inl (by simpa using c)
      obtain ⟨r0, r1, r2, r3, r4, r5, r6⟩ := HF.out.rp.seven; have s0 := HF.out.rp.fz 0; have s1 := HF.out.rp.fz 1; have s2 := HF.out.rp.fz 2; have s3 := HF.out.rp.fz 3; have s4 := HF.out.rp.fz 4; have s5 := HF.out.rp.fz 5; have s6 := HF.out.rp.fz 6; obtain ⟨u0, u1, u2⟩ := HF.out.rm.three; have v0 := HF.out.rm.fz 0; have v1 := HF.out.rm.fz 1; have v2 := HF.out.rm.fz 2; obtain ⟨m0, m1, m2⟩ := HF.out.mbox.three
      clear HWD hk hl'
      rcases hg with hg | ⟨hg, hg2⟩
      · have hg3 : lev' < 1 := by simpa using hg
        clear hg
        go_wp2
        (try rw [Exit.noGoto_ret])
        refine bodyPost_ret (results_two rfl _ _ (w.heap.size + 2) (w.heap.size + 3) _ _ _ _ _ _ _ _ rfl rfl (HF.out.rmS _ _ _ _ _ _ _ _ _ _) (HF.out.rpS _ _ _ _ _ _ _ _ _ _) Tryd.underlying34 rfl rfl Tryd.underlying45 rfl rfl) rfl ?_
        rw [HE.out, HA.out]
        exact RFm.done (p := offP 2) HF.out rfl HTr.out _ _ _ _ _ _ _ _ _ _
      · go_wp2
        (try rw [Exit.noGoto_ret])
        refine bodyPost_ret (results_two rfl _ _ (w.heap.size + 2) (w.heap.size + 3) _ _ _ _ _ _ _ _ rfl rfl (HF.out.rmS _ _ _ _ _ _ _ _ _ _) (HF.out.rpS _ _ _ _ _ _ _ _ _ _) Tryd.underlying34 rfl rfl Tryd.underlying45 rfl rfl) rfl ?_
        rw [HE.out, HA.out]
        exact RFm.done (p := offP 2) HF.out rfl HTr.out _ _ _ _ _ _ _ _ _ _
end Go.Proofs.YtlpjbmlkpmhdlaaDoor
