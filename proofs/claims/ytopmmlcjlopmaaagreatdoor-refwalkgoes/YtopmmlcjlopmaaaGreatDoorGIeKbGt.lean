/- Several texts of ours in one: Ie, Kb, Gt. -/
import Derived.Test.YtopmmlcjlopmaaaGreatDoorGRjIaEr
import Derived.Test.YtopmmlcjlopmaaaGreatDoorGRfSmHe
import Derived.Test.YtopmmlcjlopmaaaGreatDoorGEsEtGs
import Derived.StillTailTactics
import Derived.Test.YtopmmlcjlopmaaaGreatDoorGKaHmHn
import Derived.Test.YtopmmlcjlopmaaaGreatDoorGHpHqHu
import Derived.Test.YtopmmlcjlopmaaaGreatDoorGGbRgHb
import Derived.Test.YtopmmlcjlopmaaaGreatDoorGHfHgGc
/- The document's From. (Laid by tools/gen_ie.py.) -/
namespace Go.Proofs.YtopmmlcjlopmaaaGreatDoor
set_option linter.unusedVariables false
set_option linter.unusedSimpArgs false
open Go.ChangeShapes Go.WideShapes Go.ChangeAt Go.RowKit Go.Joins

theorem results_two {P : Program} {fn : Func} {p q : Tmp} {ty tz : TypeId} (h : fn.results = #[.cell p ty, .cell q tz]) (tmps : Array Value) (w : World) (g k : Nat) (t u : TypeId) (cs ds : Array Value) (fr gr : Nat × Nat) (d e : TypeDesc)
    (hp : tmps.getD p undef = .pointer (some ⟨g, 0, none⟩)) (hq : tmps.getD q undef = .pointer (some ⟨k, 0, none⟩)) (hg : w.heap[g]? = some (.cells cs t fr)) (hk : w.heap[k]? = some (.cells ds u gr))
    (hu : P.underlying ty = some d) (hd : (match d with | .struct _ | .array _ _ => true | _ => false) = true) (hi : (P.info? ty).map (·.size) = some cs.size)
    (hu2 : P.underlying tz = some e) (hd2 : (match e with | .struct _ | .array _ _ => true | _ => false) = true) (hi2 : (P.info? tz).map (·.size) = some ds.size) :
    (results fn tmps).run P w = .ok (.tuple #[.agg cs, .agg ds]) w := by
  have hp' : tmps[p]?.getD undef = .pointer (some ⟨g, 0, none⟩) := by simpa using hp
  have hq' : tmps[q]?.getD undef = .pointer (some ⟨k, 0, none⟩) := by simpa using hq
  simp [results, h, hp', hq', asAddr, run_loadVar_row w g t ty cs fr d hg hu hd hi, run_loadVar_row w k u tz ds gr e hk hu2 hd2 hi2, Sem.run_bind, Result.andThen]

theorem own_apart {wr : World} {b1 b2 s1 s2 n1 n2 : Nat} {e1 e2 : TypeId} {v1 v2 : Value} {xs1 xs2 : List Value} (h : wr.ownsRow b1 e1 s1 v1 n1 xs1) (k : wr.ownsRow b2 e2 s2 v2 n2 xs2) (hne : e1 ≠ e2) {i : Nat} (hi : v1.ownBlock = some i) : ¬ v2.ownBlock = some i := by
  intro hj
  rcases k.2 with ⟨rfl, _⟩ | ⟨g, cap, cur, rfl, _, hg, _⟩
  · simp [Value.ownBlock] at hj
  · simp [Value.ownBlock] at hj; subst hj; exact not_box h hg hne _ hi rfl

theorem NewOr.step {w wr : World} {v0 v v' : Value} (h : NewOr wr v v') (h0 : NewOr w v0 v) (hs : w.heap.size ≤ wr.heap.size) : NewOr w v0 v' := by
  rcases h with rfl | h
  · exact h0
  · exact Or.inr fun i hi => Nat.le_trans hs (h i hi)

/-- the document's From, in its loop -/
structure RFm (w wr : World) (vt0 : Value) (M : Int) (vs vt : Value) (f : Int → Int) (T : List Int) (L : List (Int × Int)) (W U X : Bool) (S : List (Int × Int × Int)) (v : Value) : Prop where
  mbox : Blk wr w.heap.size (docCells M vs vt) 45
  rm : Blk wr (w.heap.size + 2) (docCells 0 (.slice none 0 0) (.slice none 0 0)) 45
  rp : Blk wr (w.heap.size + 3) (pathCells (.slice none 0 0) (offP 0)) 51
  rgt : Blk wr (w.heap.size + 4) #[.bool W, .bool U, .bool X] 49
  doc : Doc wr M vs vt f T L
  own : StepsOwn 97 wr (w.heap.size + 5) v S
  below : Below w.heap.size w wr
  nt : NewOr w vt0 vt

/-- what it answers -/
def RAns (w : World) (vt0 : Value) (M : Int) (vs : Value) (f : Int → Int) (tr : List Int) (L : List (Int × Int)) (p : Pth) (e : Ending) (w' : World) : Prop :=
  ∃ v vt', e = .returned (.tuple #[.agg (docCells M vs vt'), pathV v p.why p.W p.U p.X p.lev p.fr]) ∧ Doc w' M vs vt' f (tr ++ slotsP p.steps) L ∧ StepsOwn 97 w' w.heap.size v p.steps ∧ NewOr w vt0 vt' ∧ Below w.heap.size w w'

section
variable {w wr w3 w5 : World} {M : Int} {vs vt vt0 vt' v v' : Value} {f : Int → Int} {T T' : List Int} {L : List (Int × Int)} {W U X : Bool} {S : List (Int × Int × Int)}
theorem RFm.quiet (h : RFm w wr vt0 M vs vt f T L W U X S v) (hb : Below wr.heap.size wr w3) : RFm w w3 vt0 M vs vt f T L W U X S v :=
  ⟨h.mbox.below hb, h.rm.below hb, h.rp.below hb, h.rgt.below hb, h.doc.quiet hb, h.own.below hb, h.below.trans (hb.mono h.below.size), h.nt⟩
/-- a box below the steps is turned -/
theorem StepsOwn.box {e : TypeId} {base b : Nat} (h : StepsOwn e wr base v S) (ht : Turn (fun i => i = b) wr w3) (hb : b < base) : StepsOwn e w3 base v S := h.turn ht (fun i hi e => by have := (h.lt hi).1; omega)
theorem RFm.load (h : RFm w wr vt0 M vs vt f T L W U X S v) (hb : Below wr.heap.size wr w3) (hw : WordsOwn w3 vt' T') (hn : NewOr wr vt vt') : RFm w (((w3.setCell ⟨w.heap.size, 0, none⟩ (.int .i64 M)).setCell ⟨w.heap.size, 1, none⟩ vs).setCell ⟨w.heap.size, 2, none⟩ vt') vt0 M vs vt' f T' L W U X S v := by
  have h3 := h.quiet hb
  have hd : Doc w3 M vs vt' f T' L := ⟨h3.doc.slots, hw, h3.doc.agree, h3.doc.ris, h3.doc.ins⟩
  have ht := turn3 w3 w.heap.size (.int .i64 M) vs vt'
  exact ⟨h3.mbox.set3 _ _ _, h3.rm.turn ht (by omega), h3.rp.turn ht (by omega), h3.rgt.turn ht (by omega), hd.box h3.mbox (by decide) (by decide) ht, h3.own.box ht (by omega), turn_below h3.below ht (by omega) h3.below.size, hn.step h.nt h.below.size⟩
theorem RFm.right (h : RFm w wr vt0 M vs vt f T L W U X S v) (W' U' X' : Bool) : RFm w (((wr.setCell ⟨w.heap.size + 4, 0, none⟩ (.bool W')).setCell ⟨w.heap.size + 4, 1, none⟩ (.bool U')).setCell ⟨w.heap.size + 4, 2, none⟩ (.bool X')) vt0 M vs vt f T L W' U' X' S v := by
  have ht := turn3 wr (w.heap.size + 4) (.bool W') (.bool U') (.bool X')
  exact ⟨h.mbox.turn ht (by omega), h.rm.turn ht (by omega), h.rp.turn ht (by omega), h.rgt.set3 _ _ _, h.doc.box h.rgt (by decide) (by decide) ht, h.own.box ht (by omega), turn_below h.below ht (by omega) h.below.size, h.nt⟩
theorem RFm.more {l s x : Int} {u : TypeId} (h : RFm w wr vt0 M vs vt f T L W U X S v) (hown : w5.ownsRow (w.heap.size + 5) 97 3 v' (S.length + 1) (stepCells S ++ [.int .i64 l, .int .u64 s, .int .u64 x]))
    (hg : (wr.alloc (.cells #[.int .i64 l, .int .u64 s, .int .u64 x] u)).grownBy w5 v.ownBlock) : RFm w w5 vt0 M vs vt f T L W U X (S ++ [(l, s, x)]) v' := by
  have ht : Turn (fun i => v.ownBlock = some i) wr w5 := (Turn.alloc _ wr _).and (Turn.grown hg (fun i hi => hi))
  have hv : ∀ i, v.ownBlock = some i → w.heap.size + 5 ≤ i := fun i hi => (h.own.lt hi).1
  have no : ∀ k, k < 5 → ¬ v.ownBlock = some (w.heap.size + k) := fun k hk e => by have := hv _ e; omega
  exact ⟨h.mbox.turn ht (no 0 (by omega)), h.rm.turn ht (no 2 (by omega)), h.rp.turn ht (no 3 (by omega)), h.rgt.turn ht (no 4 (by omega)),
    ⟨own_turn h.doc.slots ht (fun i hi => own_apart h.doc.slots h.own (by decide) hi), own_turn h.doc.words ht (fun i hi => own_apart h.doc.words h.own (by decide) hi), h.doc.agree, h.doc.ris, h.doc.ins⟩,
    StepsOwn.more hown, h.below.trans (ht.below (fun i hi => by have := hv i hi; omega) h.below.size), h.nt⟩
/-- behind what is laid for the results -/
theorem RFm.rmS (h : RFm w wr vt0 M vs vt f T L W U X S v) (a0 a1 a2 b0 b1 b2 b3 b4 b5 b6 : Value) : Blk ((((((((((wr.setCell ⟨w.heap.size + 2, 0, none⟩ a0).setCell ⟨w.heap.size + 2, 1, none⟩ a1).setCell ⟨w.heap.size + 2, 2, none⟩ a2).setCell ⟨w.heap.size + 3, 0, none⟩ b0).setCell ⟨w.heap.size + 3, 1, none⟩ b1).setCell ⟨w.heap.size + 3, 2, none⟩ b2).setCell ⟨w.heap.size + 3, 3, none⟩ b3).setCell ⟨w.heap.size + 3, 4, none⟩ b4).setCell ⟨w.heap.size + 3, 5, none⟩ b5).setCell ⟨w.heap.size + 3, 6, none⟩ b6) (w.heap.size + 2) #[a0, a1, a2] 45 :=
  (h.rm.set3 a0 a1 a2).turn (turn7 _ (w.heap.size + 3) b0 b1 b2 b3 b4 b5 b6) (by omega)
theorem RFm.rpS (h : RFm w wr vt0 M vs vt f T L W U X S v) (a0 a1 a2 b0 b1 b2 b3 b4 b5 b6 : Value) : Blk ((((((((((wr.setCell ⟨w.heap.size + 2, 0, none⟩ a0).setCell ⟨w.heap.size + 2, 1, none⟩ a1).setCell ⟨w.heap.size + 2, 2, none⟩ a2).setCell ⟨w.heap.size + 3, 0, none⟩ b0).setCell ⟨w.heap.size + 3, 1, none⟩ b1).setCell ⟨w.heap.size + 3, 2, none⟩ b2).setCell ⟨w.heap.size + 3, 3, none⟩ b3).setCell ⟨w.heap.size + 3, 4, none⟩ b4).setCell ⟨w.heap.size + 3, 5, none⟩ b5).setCell ⟨w.heap.size + 3, 6, none⟩ b6) (w.heap.size + 3) #[b0, b1, b2, b3, b4, b5, b6] 51 :=
  (h.rp.turn (turn3 wr (w.heap.size + 2) a0 a1 a2) (by omega)).set7 b0 b1 b2 b3 b4 b5 b6
theorem RFm.done {tr : List Int} {p : Pth} (h : RFm w wr vt0 M vs vt f T L W U X S v) (hp : p.steps = []) (hT : T = tr ++ slotsP S) (a0 a1 a2 b0 b1 b2 b3 b4 b5 b6 : Value) :
    RAns w vt0 M vs f tr L (preP S p) (.returned (.tuple #[.agg (docCells M vs vt), pathV v p.why p.W p.U p.X p.lev p.fr])) ((((((((((wr.setCell ⟨w.heap.size + 2, 0, none⟩ a0).setCell ⟨w.heap.size + 2, 1, none⟩ a1).setCell ⟨w.heap.size + 2, 2, none⟩ a2).setCell ⟨w.heap.size + 3, 0, none⟩ b0).setCell ⟨w.heap.size + 3, 1, none⟩ b1).setCell ⟨w.heap.size + 3, 2, none⟩ b2).setCell ⟨w.heap.size + 3, 3, none⟩ b3).setCell ⟨w.heap.size + 3, 4, none⟩ b4).setCell ⟨w.heap.size + 3, 5, none⟩ b5).setCell ⟨w.heap.size + 3, 6, none⟩ b6) := by
  have t3 := turn3 wr (w.heap.size + 2) a0 a1 a2
  have t7 := turn7 (((wr.setCell ⟨w.heap.size + 2, 0, none⟩ a0).setCell ⟨w.heap.size + 2, 1, none⟩ a1).setCell ⟨w.heap.size + 2, 2, none⟩ a2) (w.heap.size + 3) b0 b1 b2 b3 b4 b5 b6
  have e : (preP S p).steps = S := by show S ++ p.steps = S; rw [hp]; simp
  have d1 := h.doc.box h.rm (by decide) (by decide) t3
  have d2 := d1.box (h.rp.turn t3 (by omega)) (by decide) (by decide) t7
  have b1 := turn_below h.below t3 (by omega) h.below.size
  refine ⟨v, vt, rfl, ?_, ?_, h.nt, turn_below b1 t7 (by omega) b1.size⟩
  · rw [e, ← hT]; exact d2
  · rw [e]; exact ((h.own.box t3 (by omega)).box t7 (by omega)).down (by omega)
end

/-- what the region of the leaf keeps -/
def RegR (w : World) (M : Int) (vs vt : Value) (W U X : Bool) (w' : World) : Prop := Blk w' w.heap.size (docCells M vs vt) 45 ∧ Blk w' (w.heap.size + 4) #[.bool W, .bool U, .bool X] 49
theorem regr_turn {w w2 w3 : World} {M : Int} {vs vt : Value} {W U X : Bool} {b : Nat} (h : RegR w M vs vt W U X w2) (ht : Turn (fun i => i = b) w2 w3) (h1 : b = w.heap.size + 2 ∨ b = w.heap.size + 3) : RegR w M vs vt W U X w3 :=
  ⟨h.1.turn ht (by omega), h.2.turn ht (by omega)⟩

theorem rfm_start {w : World} {M : Int} {vs vt : Value} {f : Int → Int} {T : List Int} {L : List (Int × Int)} (h : Doc w M vs vt f T L) (lev t : Int) (W U X : Bool) :
    RFm w (((((w.alloc (.cells (docCells M vs vt) 45)).alloc (.cells #[.int .i64 lev, .int .u64 t, .bool W, .bool U, .bool X] 90)).alloc (.cells (docCells 0 (.slice none 0 0) (.slice none 0 0)) 45)).alloc (.cells (pathCells (.slice none 0 0) (offP 0)) 51)).alloc (.cells #[.bool W, .bool U, .bool X] 49)) vt M vs vt f T L W U X [] (.slice none 0 0) := by
  generalize hq : (.cells (docCells M vs vt) 45 : Obj) = o0
  generalize (.cells #[.int .i64 lev, .int .u64 t, .bool W, .bool U, .bool X] 90 : Obj) = o1
  have e1 : (w.alloc o0).heap.size = w.heap.size + 1 := by simp
  have e2 : ((w.alloc o0).alloc o1).heap.size = w.heap.size + 2 := by simp
  have e3 : ∀ o, (((w.alloc o0).alloc o1).alloc o).heap.size = w.heap.size + 3 := fun o => by simp
  have e4 : ∀ o o', ((((w.alloc o0).alloc o1).alloc o).alloc o').heap.size = w.heap.size + 4 := fun o o' => by simp
  have hb2 := below2 w o0 o1
  have hb : Below w.heap.size w (((((w.alloc o0).alloc o1).alloc (.cells (docCells 0 (.slice none 0 0) (.slice none 0 0)) 45)).alloc (.cells (pathCells (.slice none 0 0) (offP 0)) 51)).alloc (.cells #[.bool W, .bool U, .bool X] 49)) :=
    (below3 w o0 o1 _).trans ((below2 _ _ _).mono (below3 w o0 o1 _).size)
  refine ⟨?_, ?_, ?_, ?_, h.quiet hb, StepsOwn.nil _ _ _, hb, Or.inl rfl⟩
  · have : Blk (w.alloc o0) w.heap.size (docCells M vs vt) 45 := by rw [← hq]; exact Blk.new _ _ _
    exact (((this.alloc _).alloc _).alloc _).alloc _
  · have := ((Blk.new ((w.alloc o0).alloc o1) (docCells 0 (.slice none 0 0) (.slice none 0 0)) 45).alloc (.cells (pathCells (.slice none 0 0) (offP 0)) 51)).alloc (.cells #[.bool W, .bool U, .bool X] 49)
    rwa [e2] at this
  · have := (Blk.new (((w.alloc o0).alloc o1).alloc (.cells (docCells 0 (.slice none 0 0) (.slice none 0 0)) 45)) (pathCells (.slice none 0 0) (offP 0)) 51).alloc (.cells #[.bool W, .bool U, .bool X] 49)
    rwa [e3] at this
  · have := Blk.new ((((w.alloc o0).alloc o1).alloc (.cells (docCells 0 (.slice none 0 0) (.slice none 0 0)) 45)).alloc (.cells (pathCells (.slice none 0 0) (offP 0)) 51)) #[.bool W, .bool U, .bool X] 49
    rwa [e4] at this
end Go.Proofs.YtopmmlcjlopmaaaGreatDoor
/- Layer 9: contract of refwalk.Translate. (Laid by tools/gen_kb.py.) -/
namespace Go.Proofs.YtopmmlcjlopmaaaGreatDoor
set_option linter.unusedVariables false
set_option linter.unusedSimpArgs false
open Go.ChangeShapes Go.WideShapes Go.ChangeAt Go.RowKit Go.Joins

theorem results_tct {P : Program} {fn : Func} {p q r : Tmp} {ty : TypeId} (h : fn.results = #[.tmp p, .cell q ty, .tmp r]) (tmps : Array Value) (w : World) (g : Nat) (t : TypeId) (cs : Array Value) (fr : Nat × Nat) (d : TypeDesc)
    (hq : tmps.getD q undef = .pointer (some ⟨g, 0, none⟩)) (hg : w.heap[g]? = some (.cells cs t fr))
    (hu : P.underlying ty = some d) (hd : (match d with | .struct _ | .array _ _ => true | _ => false) = true) (hi : (P.info? ty).map (·.size) = some cs.size) :
    (results fn tmps).run P w = .ok (.tuple #[tmps.getD p undef, .agg cs, tmps.getD r undef]) w := by
  have hq' : tmps[q]?.getD undef = .pointer (some ⟨g, 0, none⟩) := by simpa using hq
  simp [results, h, hq', asAddr, run_loadVar_row w g t ty cs fr d hg hu hd hi, Sem.run_bind, Result.andThen]

abbrev zeroPath : Array Value := pathCells (.slice none 0 0) (offP 0)

/-- Translate: the memory, the access's box, and the result's -/
structure Tra (w wr : World) (F : Nat → Prop) (m : Nat) (M : Int) (f : Int → Int) (T : List Int) (n : Nat) (u : Usx) (G : Nat → Prop) : Prop where
  wk : Wk w wr F m M f T n G
  use : Blk wr w.heap.size (useCells u) 29
  res : Blk wr (w.heap.size + 1) zeroPath 37
  n0 : ¬ G w.heap.size
  n1 : ¬ G (w.heap.size + 1)
  sh : Shifts wr
  z : ¬ F 1 ∧ 1 < w.heap.size

/-- a zero path's box, behind them -/
abbrev Trz (w wr : World) (zb : Nat) (G : Nat → Prop) : Prop := Blk wr zb zeroPath 37 ∧ ¬ G zb ∧ w.heap.size + 2 ≤ zb

/-- the walk's path is there, in no box yet -/
structure Trf (w wr : World) (F : Nat → Prop) (m : Nat) (M : Int) (f : Int → Int) (T : List Int) (n : Nat) (u : Usx) (G : Nat → Prop) (v : Value) (P : Pth) : Prop where
  tra : Tra w wr F m M f T n u G
  own : StepsOwn 99 wr (w.heap.size + 2) v P.steps
  nv : ∀ i, v.ownBlock = some i → ¬ G i

/-- the path lies in a box -/
structure Trp (w wr : World) (F : Nat → Prop) (m : Nat) (M : Int) (f : Int → Int) (T : List Int) (n : Nat) (u : Usx) (G : Nat → Prop) (pb : Nat) (v : Value) (P : Pth) : Prop where
  trf : Trf w wr F m M f T n u G v P
  pth : Blk wr pb (pathCells v P) 37
  np : ¬ G pb
  ge : w.heap.size + 2 ≤ pb

section
variable {w wr w3 w4 : World} {F G G' : Nat → Prop} {m : Nat} {M : Int} {f f' : Int → Int} {T T' : List Int} {n n' : Nat} {u : Usx} {pb zb : Nat} {v : Value} {P : Pth}
theorem tra_start (h : Mem w F m M f T n) (h0 : ¬ F 1) (hs : Shifts w) (u : Usx) : Tra w ((w.alloc (.cells (useCells u) 29)).alloc (.cells zeroPath 37)) F m M f T n u (fun i => F i ∧ i < w.heap.size) :=
  ⟨(Wk.start h).quiet (below2 w _ _), (Blk.new w _ _).alloc _, last_obj2 w _ _, fun h => by omega, fun h => by omega, shifts_under hs (below2 w _ _) (size_shifts hs), h0, size_shifts hs⟩
theorem Tra.gz (h : Tra w wr F m M f T n u G) : ¬ G 1 := fun hg => by
  rcases (h.wk.foot 1 hg).2 with h1 | h1
  · exact h.z.1 h1
  · have := h.z.2; omega
theorem Tra.quiet (h : Tra w wr F m M f T n u G) (hb : Below wr.heap.size wr w3) : Tra w w3 F m M f T n u G :=
  ⟨h.wk.quiet hb, h.use.below hb, h.res.below hb, h.n0, h.n1, shifts_under h.sh hb (size_shifts h.sh), h.z⟩
theorem Tra.step (h : Tra w wr F m M f T n u G) (k : Wk wr w4 G m M f' T' n' G') : Tra w w4 F m M f' T' n' u G' :=
  ⟨h.wk.join k, h.use.turn k.turn h.n0, h.res.turn k.turn h.n1, k.free h.n0 h.use.lt, k.free h.n1 h.res.lt, shifts_turn h.sh k.turn h.gz, h.z⟩
theorem Tra.set (h : Tra w wr F m M f T n u G) (ht : Turn (fun i => i = zb) wr w3) (nz : ¬ G zb) (gz : w.heap.size + 2 ≤ zb) : Tra w w3 F m M f T n u G :=
  ⟨h.wk.set ht nz (by omega), h.use.turn ht (by omega), h.res.turn ht (by omega), h.n0, h.n1, shifts_turn h.sh ht (by have := h.z.2; omega), h.z⟩
theorem Tra.zero (h : Tra w wr F m M f T n u G) : Trz w (wr.alloc (.cells zeroPath 37)) wr.heap.size G :=
  ⟨Blk.new _ _ _, fun hg => by have := (h.wk.foot _ hg).1; omega, h.res.lt⟩
theorem Trz.quiet (h : Trz w wr zb G) (hb : Below wr.heap.size wr w3) : Trz w w3 zb G := ⟨h.1.below hb, h.2⟩
theorem Trz.step (h : Trz w wr zb G) (k : Wk wr w4 G m M f' T' n' G') : Trz w w4 zb G' := ⟨h.1.turn k.turn h.2.1, k.free h.2.1 h.1.lt, h.2.2⟩
theorem Trf.mk' (h : Tra w wr F m M f T n u G) (k : Wk wr w4 G m M f' T' n' G') (hS : StepsOwn 99 w4 (wr.heap.size + 3) v P.steps) (hv : ∀ i, v.ownBlock = some i → ¬ G' i) : Trf w w4 F m M f' T' n' u G' v P :=
  ⟨h.step k, hS.down (by have := h.res.lt; omega), hv⟩
theorem Trf.quiet (h : Trf w wr F m M f T n u G v P) (hb : Below wr.heap.size wr w3) : Trf w w3 F m M f T n u G v P := ⟨h.tra.quiet hb, h.own.below hb, h.nv⟩
theorem Trf.step (h : Trf w wr F m M f T n u G v P) (k : Wk wr w4 G m M f' T' n' G') : Trf w w4 F m M f' T' n' u G' v P :=
  ⟨h.tra.step k, h.own.turn k.turn h.nv, fun i hi => k.free (h.nv i hi) (h.own.lt hi).2⟩
theorem Trf.new (h : Trf w wr F m M f T n u G v P) : Trp w (wr.alloc (.cells (pathCells v P) 37)) F m M f T n u G wr.heap.size v P :=
  ⟨h.quiet (below_alloc1 _ _), Blk.new _ _ _, fun hg => by have := (h.tra.wk.foot _ hg).1; omega, h.tra.res.lt⟩
/-- a box of a path is turned: no row of steps -/
theorem Trf.set (h : Trf w wr F m M f T n u G v P) (ht : Turn (fun i => i = zb) wr w3) (hz : Trz w wr zb G) (hb : Blk w3 zb (pathCells v P) 37) : Trp w w3 F m M f T n u G zb v P :=
  ⟨⟨h.tra.set ht hz.2.1 hz.2.2, h.own.turn ht (not_box h.own hz.1 (by decide)), h.nv⟩, hb, hz.2.1, hz.2.2⟩
theorem Trp.quiet (h : Trp w wr F m M f T n u G pb v P) (hb : Below wr.heap.size wr w3) : Trp w w3 F m M f T n u G pb v P := ⟨h.trf.quiet hb, h.pth.below hb, h.np, h.ge⟩
theorem Trp.step (h : Trp w wr F m M f T n u G pb v P) (k : Wk wr w4 G m M f' T' n' G') : Trp w w4 F m M f' T' n' u G' pb v P :=
  ⟨h.trf.step k, h.pth.turn k.turn h.np, k.free h.np h.pth.lt, h.ge⟩

/-- what is left when the result's box is turned -/
structure Tro (w wr : World) (F : Nat → Prop) (m : Nat) (M : Int) (f : Int → Int) (T : List Int) (n : Nat) (G : Nat → Prop) (v : Value) (P : Pth) : Prop where
  wk : Wk w wr F m M f T n G
  own : StepsOwn 99 wr w.heap.size v P.steps
  nv : ∀ i, v.ownBlock = some i → ¬ G i
  sh : Shifts wr
theorem Trf.out (h : Trf w wr F m M f T n u G v P) (ht : Turn (fun i => i = w.heap.size + 1) wr w3) : Tro w w3 F m M f T n G v P :=
  ⟨h.tra.wk.set ht h.tra.n1 (by omega), (h.own.turn ht (not_box h.own h.tra.res (by decide))).down (by omega), h.nv, shifts_turn h.tra.sh ht (by have := h.tra.z.2; omega)⟩
end

/-- a page fault by itself: another box is turned -/
theorem page0_turn {w w' : World} {b g : Nat} {a c : Int} {x : Value} {A : Option Addr} {L k : Nat} (h : PageIn w 0 111 (.pointer (some ⟨g, 0, none⟩)) a c) (hb : w.cell? ⟨b, 0, none⟩ = some (.slice A L k)) (ht : Turn (fun i => i = b) w w') : PageIn w' 0 111 (.pointer (some ⟨g, 0, none⟩)) a c := by
  obtain ⟨g', ⟨_, e⟩, _, c0, c1⟩ := h
  have eg : g = g' := by simpa using e
  subst eg
  have hne : ¬ g = b := fun e => by subst e; rw [hb] at c0; simp at c0
  have hB := ht.block g (lt_of_cell c0) hne
  exact ⟨g, ⟨rfl, rfl⟩, leads_page _ _, (World.cell?_of_block (a := ⟨g, 0, none⟩) hB).trans c0, (World.cell?_of_block (a := ⟨g, 1, none⟩) hB).trans c1⟩
theorem num1_turn {w w' : World} {b g : Nat} {k : Int} {j : Int} (h : NumIn w 1 165 (.pointer (some ⟨g, 0, none⟩)) k) (hb : w.cell? ⟨b, 1, none⟩ = some (.int .i64 j)) (ht : Turn (fun i => i = b) w w') : NumIn w' 1 165 (.pointer (some ⟨g, 0, none⟩)) k := by
  obtain ⟨⟨_, g', t', x', e, c1, hl, e1, e2⟩, _⟩ := h
  have eg : g = g' := by simpa using e
  subst eg
  subst e1 e2
  have hne : ¬ g = b := fun e => by subst e; rw [hb] at c1; simp at c1
  have c2 := (World.cell?_of_block (a := ⟨g, 1, none⟩) (ht.block g hl hne)).trans c1
  have hl2 := Nat.lt_of_lt_of_le hl ht.size
  exact ⟨⟨rfl, g, _, _, rfl, c2, hl2, rfl, rfl⟩, Or.inl ⟨rfl, g, _, _, rfl, c2, hl2, rfl, rfl⟩⟩

/-- what Translate answers of an address that is canonical -/
def TraAns (w : World) (F : Nat → Prop) (m : Nat) (M : Int) (f : Int → Int) (tr : List Int) (n : Nat) (P : Pth) (u : Usx) (a : Int) (e : Ending) (w' : World) : Prop :=
  ∃ v G, (jmay P u = true ∧ e = .returned (.tuple #[.int .u64 (jpa P a), .agg (pathCells v P), .nilIface]) ∧ Tro w w' F m M (markN M f P.steps (u.k == 2) P.steps.length) (tr ++ slotsP P.steps) (n + 5 + P.steps.length) G v P) ∨
    (jmay P u = false ∧ ∃ g : Nat, e = .returned (.tuple #[.int .u64 0, .agg (pathCells v P), .iface 111 (.pointer (some ⟨g, 0, none⟩))]) ∧ PageIn w' 0 111 (.pointer (some ⟨g, 0, none⟩)) a (jcode P u) ∧ Tro w w' F m M f (tr ++ slotsP P.steps) (n + 5) G v P)

theorem TraAns.yes {w w' : World} {F G : Nat → Prop} {m : Nat} {M : Int} {f : Int → Int} {tr : List Int} {n L : Nat} {P : Pth} {u : Usx} {a : Int} {v : Value} (hm : jmay P u = true) (hL : P.steps.length = L) {e : Ending} (he : e = .returned (.tuple #[.int .u64 (jpa P a), .agg (pathCells v P), .nilIface])) (ho : Tro w w' F m M (markN M f P.steps (u.k == 2) L) (tr ++ slotsP P.steps) (n + 5 + L) G v P) :
    TraAns w F m M f tr n P u a e w' := by
  subst hL; subst he; exact ⟨v, G, Or.inl ⟨hm, rfl, ho⟩⟩
theorem TraAns.no {w w' : World} {F G : Nat → Prop} {m : Nat} {M : Int} {f : Int → Int} {tr : List Int} {n g : Nat} {P : Pth} {u : Usx} {a : Int} {v : Value} (hm : jmay P u = false) (hg : PageIn w' 0 111 (.pointer (some ⟨g, 0, none⟩)) a (jcode P u)) {e : Ending} (he : e = .returned (.tuple #[.int .u64 0, .agg (pathCells v P), .iface 111 (.pointer (some ⟨g, 0, none⟩))])) (ho : Tro w w' F m M f (tr ++ slotsP P.steps) (n + 5) G v P) :
    TraAns w F m M f tr n P u a e w' := ⟨v, G, Or.inr ⟨hm, g, he, hg, ho⟩⟩

set_option maxRecDepth 100000 in
theorem trans_gp {w : World} (v : Value) (u : Usx) (a : Int) (ha : W64 a) (hc : canonF a = false) :
    Calls Tryz.prog 9 #[v, useV u, .int .u64 a] w fun e w' => ∃ g : Nat, e = .returned (.tuple #[.int .u64 0, .agg zeroPath, .iface 165 (.pointer (some ⟨g, 0, none⟩))]) ∧ NumIn w' 1 165 (.pointer (some ⟨g, 0, none⟩)) 5 ∧ Below w.heap.size w w' := by
  have CC := fun w' => canon_any a w' ha
  rw [hc] at CC
  have H0 : Hid (Blk ((w.alloc (.cells (useCells u) 29)).alloc (.cells zeroPath 37)) (w.heap.size + 1) zeroPath 37 ∧ Below w.heap.size w ((w.alloc (.cells (useCells u) 29)).alloc (.cells zeroPath 37))) := Lib.hid ⟨last_obj2 w _ _, below2 w _ _⟩
  clear ha hc
  go_enter Tryz.func9, Tryz.ntmps9
  go_upto_region 1 with fail
  generalize hw0 : (w.alloc _).alloc _ = w0
  have H1 : Hid (Blk w0 (w.heap.size + 1) zeroPath 37 ∧ Below w.heap.size w w0) := Lib.hid (by rw [← hw0]; exact H0.out)
  clear hw0 H0
  go_wp2_with (first | (go_at_call 27; refine (CC _).mono ?_; rintro e w' ⟨rfl, rfl⟩) | (go_at_call 28; refine (gp_num _ _).mono ?_; rintro e w1 ⟨g, rfl, hN1, hK1⟩; have H2 : Hid (Blk w1 (w.heap.size + 1) zeroPath 37 ∧ Below w.heap.size w w1) := Lib.hid ⟨H1.out.1.below hK1, H1.out.2.trans (Below.mono hK1 H1.out.2.size)⟩; have HN := Lib.hid hN1; clear hN1 hK1 H1; obtain ⟨p0, p1, p2, p3, p4, p5, p6⟩ := H2.out.1.seven; have q0 := H2.out.1.fz 0; have q1 := H2.out.1.fz 1; have q2 := H2.out.1.fz 2; have q3 := H2.out.1.fz 3; have q4 := H2.out.1.fz 4; have q5 := H2.out.1.fz 5; have q6 := H2.out.1.fz 6))
  exact bodyPost_ret (results_tct rfl _ _ (w.heap.size + 1) _ _ _ _ rfl (H2.out.1.set7 _ _ _ _ _ _ _) Tryz.underlying37 rfl rfl) rfl ⟨g, rfl, num1_turn HN.out p1 (turn7 _ _ _ _ _ _ _ _ _), turn_below H2.out.2 (turn7 _ _ _ _ _ _ _ _ _) (by omega) H2.out.2.size⟩

set_option maxRecDepth 100000 in
set_option maxHeartbeats 8000000 in
theorem trans_any {w : World} {F : Nat → Prop} {m : Nat} {M : Int} {f : Int → Int} {tr : List Int} {n : Nat} (h : Mem w F m M f tr n) (hn : n < 800000) (h0 : ¬ F 1) (hs : Shifts w) (u : Usx) (a : Int) (hr : W64 u.root) (ha : W64 a) (hc : canonF a = true)
    (P : Pth) (hP : walkZ M f a u.nxe 4 (tableF u.root) true true true = P) (hl : P.steps.length ≤ 4) (hw : ∀ k, k < P.steps.length → W64 (stepAt P.steps k).2.1) :
    Calls Tryz.prog 9 #[.pointer (some ⟨m, 0, none⟩), useV u, .int .u64 a] w (TraAns w F m M f tr n P u a) := by
  have CC := fun w' => canon_any a w' ha
  rw [hc] at CC
  have CT := fun w' => top_any u.root w' hr
  have CF : ∀ (w' : World) (G : Nat → Prop), Mem w' G m M f tr n → ¬ G 1 → Shifts w' → Calls Tryz.prog 29 #[.pointer (some ⟨m, 0, none⟩), placeV 4 (tableF u.root) true true true, .int .u64 a, .bool u.nxe] w' (FromAns w' G m M f tr (n + 5) P) := fun w' G hm hg hsh => by
    rw [← hP]; exact from_any hm (by omega) hg hsh 4 (tableF u.root) a true true true u.nxe (w64_table _) ha
  have H0 := Lib.hid (tra_start h h0 hs u)
  have HA := Lib.hid ha
  have HL := Lib.hid hl
  have HW := Lib.hid hw
  clear h h0 hs hr ha hc hP hl hw
  go_enter Tryz.func9, Tryz.ntmps9
  go_upto_region 1 with fail
  generalize hw0 : (w.alloc _).alloc _ = w0
  obtain ⟨G0, hG0⟩ : ∃ G0 : Nat → Prop, (fun i => F i ∧ i < w.heap.size) = G0 := ⟨_, rfl⟩
  have HT0 : Hid (Tra w w0 F m M f tr n u G0) := Lib.hid (by rw [← hw0, ← hG0]; exact H0.out)
  clear hw0 H0 hG0
  go_upto_region 3 with (first | (go_at_call 27; refine (CC _).mono ?_; rintro e w' ⟨rfl, rfl⟩))
  go_cut [9] from 17 (fun s9 wc => ∃ (pb : Nat) (v : Value) (G : Nat → Prop), s9 = .pointer (some ⟨pb, 0, none⟩) ∧ Hid (Trp w wc F m M f (tr ++ slotsP P.steps) (n + 5) u G pb v P))
  case first =>
    refine wp_region_held_drew (S := fun w' => Blk w' w.heap.size (useCells u) 29) (by kernel_rfl) HT0.out.use.drew (fun hHeld => ?_)
    have HTd := Lib.hid (HT0.out.quiet (Kept.drew0 w0))
    clear HT0
    generalize w0.drew = w1 at *
    have HT1 := HTd
    clear HTd
    refine anyH_take (i := 0) (v := ?_) rfl (by kernel_rfl) (by kernel_rfl) (by kernel_rfl) (fun _ _ _ h => h) (by rfl) (by assumption) ?_ ?_
    rotate_left
    · intro w hSw
      go_simp
      (try with_reducible rfl)
    (try simp only [Act.put, List.setIfInBounds_toArray, List.set_cons_zero, List.set_cons_succ])
    refine anyH_take (i := 1) (v := ?_) rfl (by kernel_rfl) (by kernel_rfl) (by kernel_rfl) (fun _ _ _ h => h) (by rfl) (by assumption) ?_ ?_
    rotate_left
    · intro w hSw
      go_simp
      (try with_reducible rfl)
    (try simp only [Act.put, List.setIfInBounds_toArray, List.set_cons_zero, List.set_cons_succ])
    refine anyH_take (i := 2) (v := ?_) rfl (by kernel_rfl) (by kernel_rfl) (by kernel_rfl) (fun _ _ _ h => h) (by rfl) (by assumption) ?_ ?_
    rotate_left
    · intro w hSw
      obtain ⟨q0, q1, q2, q3, q4, q5, q6, q7⟩ := hSw.eight
      go_simp
      (try with_reducible rfl)
    (try simp only [Act.put, List.setIfInBounds_toArray, List.set_cons_zero, List.set_cons_succ])
    refine anyH_take (i := 4) (v := ?_) rfl (by kernel_rfl) (by kernel_rfl) (by kernel_rfl) (fun _ _ _ h => h) (by rfl) (by assumption) ?_ ?_
    rotate_left
    · intro w hSw
      go_simp
      (try with_reducible rfl)
    (try simp only [Act.put, List.setIfInBounds_toArray, List.set_cons_zero, List.set_cons_succ])
    refine anyH_take (i := 5) (v := ?_) rfl (by kernel_rfl) (by kernel_rfl) (by kernel_rfl) (fun _ _ _ h => h) (by rfl) (by assumption) ?_ ?_
    rotate_left
    · intro w hSw
      go_simp
      (try with_reducible rfl)
    (try simp only [Act.put, List.setIfInBounds_toArray, List.set_cons_zero, List.set_cons_succ])
    refine anyH_take (i := 6) (v := ?_) rfl (by kernel_rfl) (by kernel_rfl) (by kernel_rfl) (fun _ _ _ h => h) (by rfl) (by assumption) ?_ ?_
    rotate_left
    · intro w hSw
      go_simp
      (try with_reducible rfl)
    (try simp only [Act.put, List.setIfInBounds_toArray, List.set_cons_zero, List.set_cons_succ])
    refine anyH_take (i := 7) (v := ?_) rfl (by kernel_rfl) (by kernel_rfl) (by kernel_rfl) (fun _ _ _ h => h) (by rfl) (by assumption) ?_ ?_
    rotate_left
    · intro w hSw
      obtain ⟨q0, q1, q2, q3, q4, q5, q6, q7⟩ := hSw.eight
      go_simp
      (try with_reducible rfl)
    (try simp only [Act.put, List.setIfInBounds_toArray, List.set_cons_zero, List.set_cons_succ])
    refine wpAnyH_ready (rs := [3, 9]) (by kernel_rfl) (by simp) ?_
    refine anyH_one rfl (fun K hK => ?_) ?_
    · go_simp
      refine (CT _).mono ?_
      rintro e w2 ⟨rfl, hB2⟩
      have HT2 := Lib.hid (HT1.out.quiet hB2)
      refine hK.out _ _ (hHeld.below hB2) (fun hHeld => ?_)
      clear hK K
      (try simp only [Act.put, List.setIfInBounds_toArray, List.set_cons_zero, List.set_cons_succ])
      clear hB2 HT1
      refine wpAnyH_ready (rs := [8, 9]) (by kernel_rfl) (by simp) ?_
      refine anyH_one rfl (fun K hK => ?_) ?_
      · go_simp
        refine (CF _ _ HT2.out.wk.mem HT2.out.gz HT2.out.sh).mono ?_
        rintro e w3 ⟨v, G, rfl, hW, hS, hn5, hsh⟩
        obtain ⟨A5, c5, rfl⟩ := hS.form
        have HP3 := Lib.hid (Trf.mk' HT2.out hW hS hn5)
        refine hK.out _ _ (hHeld.turn hW.turn HT2.out.n0) (fun hHeld => ?_)
        clear hK K
        (try simp only [Act.put, List.setIfInBounds_toArray, List.set_cons_zero, List.set_cons_succ])
        clear hW hS hn5 hsh HT2
        refine wpAnyH_ready (rs := [9]) (by kernel_rfl) (by simp) ?_
        refine anyH_one rfl (fun K hK => ?_) ?_
        · go_simp
          refine hK.out _ _ (hHeld.below (below_alloc1 _ _)) (fun hHeld => ?_)
          clear hK K
          (try simp only [Act.put, List.setIfInBounds_toArray, List.set_cons_zero, List.set_cons_succ])
          have HQ := Lib.hid (HP3.out.new)
          have HU := Lib.hid (show Blk (w3.alloc (.cells (pathCells (.slice none 0 0) (offP 0)) 37)) w.heap.size (useCells u) 29 from hHeld)
          refine wpAnyH_ready (rs := [10]) (by kernel_rfl) (by simp) ?_
          refine anyH_one rfl (fun K hK => ?_) ?_
          · go_simp
            refine hK.out _ _ (HQ.out.trf.tra.use) (fun hHeld => ?_)
            clear hK K
            (try simp only [Act.put, List.setIfInBounds_toArray, List.set_cons_zero, List.set_cons_succ])
            refine wpAnyH_done (by kernel_rfl) ?_ _
            go_wp2
            go_meet
            case rel => exact ⟨w3.heap.size, .slice A5 P.steps.length c5, _, rfl, HQ⟩
          exact AllReadyH.nil
        exact AllReadyH.nil
      refine anyH_one rfl (fun K hK => ?_) ?_
      · go_simp
        refine hK.out _ _ (hHeld.below (below_alloc1 _ _)) (fun hHeld => ?_)
        clear hK K
        (try simp only [Act.put, List.setIfInBounds_toArray, List.set_cons_zero, List.set_cons_succ])
        generalize hq3 : w2.alloc _ = w3 at hHeld ⊢
        have HT3 : Hid (Tra w w3 F m M f tr n u G0) := Lib.hid (by rw [← hq3]; exact HT2.out.quiet (below_alloc1 _ _))
        have HZ3 : Hid (Trz w w3 w2.heap.size G0) := Lib.hid (by rw [← hq3]; exact HT2.out.zero)
        clear hq3 HT2
        generalize w2.heap.size = zb at HZ3 ⊢
        refine wpAnyH_ready (rs := [8]) (by kernel_rfl) (by simp) ?_
        refine anyH_one rfl (fun K hK => ?_) ?_
        · go_simp
          refine (CF _ _ HT3.out.wk.mem HT3.out.gz HT3.out.sh).mono ?_
          rintro e w4 ⟨v, G, rfl, hW, hS, hn5, hsh⟩
          obtain ⟨A5, c5, rfl⟩ := hS.form
          have HP4 := Lib.hid (Trf.mk' HT3.out hW hS hn5)
          have HZ4 := Lib.hid (Trz.step HZ3.out hW)
          refine hK.out _ _ (hHeld.turn hW.turn HT3.out.n0) (fun hHeld => ?_)
          clear hK K
          (try simp only [Act.put, List.setIfInBounds_toArray, List.set_cons_zero, List.set_cons_succ])
          clear hW hS hn5 hsh HT3
          clear HZ3
          obtain ⟨z0, z1, z2, z3, z4, z5, z6⟩ := HZ4.out.1.seven
          have y0 := HZ4.out.1.fz 0; have y1 := HZ4.out.1.fz 1; have y2 := HZ4.out.1.fz 2; have y3 := HZ4.out.1.fz 3; have y4 := HZ4.out.1.fz 4; have y5 := HZ4.out.1.fz 5; have y6 := HZ4.out.1.fz 6
          refine wpAnyH_ready (rs := [10]) (by kernel_rfl) (by simp) ?_
          refine anyH_one rfl (fun K hK => ?_) ?_
          · go_simp
            refine hK.out _ _ (hHeld.turn (turn7 _ _ _ _ _ _ _ _ _) (fun e => by have := HZ4.out.2.2; omega)) (fun hHeld => ?_)
            clear hK K
            (try simp only [Act.put, List.setIfInBounds_toArray, List.set_cons_zero, List.set_cons_succ])
            refine wpAnyH_done (by kernel_rfl) ?_ _
            have HQ := Lib.hid (HP4.out.set (turn7 w4 zb (.slice A5 P.steps.length c5) (.int .i64 P.why) (.bool P.W) (.bool P.U) (.bool P.X) (.int .i64 P.lev) (.int .u64 P.fr)) HZ4.out (HZ4.out.1.set7 _ _ _ _ _ _ _))
            go_wp2
            go_meet
            case rel => exact ⟨zb, .slice A5 P.steps.length c5, _, rfl, HQ⟩
          exact AllReadyH.nil
        exact AllReadyH.nil
      exact AllReadyH.nil
    refine anyH_one rfl (fun K hK => ?_) ?_
    · go_simp
      refine hK.out _ _ (hHeld.below (below_alloc1 _ _)) (fun hHeld => ?_)
      clear hK K
      (try simp only [Act.put, List.setIfInBounds_toArray, List.set_cons_zero, List.set_cons_succ])
      generalize hq2 : w1.alloc _ = w2 at hHeld ⊢
      have HT2 : Hid (Tra w w2 F m M f tr n u G0) := Lib.hid (by rw [← hq2]; exact HT1.out.quiet (below_alloc1 _ _))
      have HZ2 : Hid (Trz w w2 w1.heap.size G0) := Lib.hid (by rw [← hq2]; exact HT1.out.zero)
      clear hq2 HT1
      generalize w1.heap.size = zb at HZ2 ⊢
      refine wpAnyH_ready (rs := [3]) (by kernel_rfl) (by simp) ?_
      refine anyH_one rfl (fun K hK => ?_) ?_
      · go_simp
        refine (CT _).mono ?_
        rintro e w3 ⟨rfl, hB3⟩
        have HT3 := Lib.hid (HT2.out.quiet hB3)
        have HZ3 := Lib.hid (Trz.quiet HZ2.out hB3)
        refine hK.out _ _ (hHeld.below hB3) (fun hHeld => ?_)
        clear hK K
        (try simp only [Act.put, List.setIfInBounds_toArray, List.set_cons_zero, List.set_cons_succ])
        clear hB3 HT2
        clear HZ2
        refine wpAnyH_ready (rs := [8]) (by kernel_rfl) (by simp) ?_
        refine anyH_one rfl (fun K hK => ?_) ?_
        · go_simp
          refine (CF _ _ HT3.out.wk.mem HT3.out.gz HT3.out.sh).mono ?_
          rintro e w4 ⟨v, G, rfl, hW, hS, hn5, hsh⟩
          obtain ⟨A5, c5, rfl⟩ := hS.form
          have HP4 := Lib.hid (Trf.mk' HT3.out hW hS hn5)
          have HZ4 := Lib.hid (Trz.step HZ3.out hW)
          refine hK.out _ _ (hHeld.turn hW.turn HT3.out.n0) (fun hHeld => ?_)
          clear hK K
          (try simp only [Act.put, List.setIfInBounds_toArray, List.set_cons_zero, List.set_cons_succ])
          clear hW hS hn5 hsh HT3
          clear HZ3
          obtain ⟨z0, z1, z2, z3, z4, z5, z6⟩ := HZ4.out.1.seven
          have y0 := HZ4.out.1.fz 0; have y1 := HZ4.out.1.fz 1; have y2 := HZ4.out.1.fz 2; have y3 := HZ4.out.1.fz 3; have y4 := HZ4.out.1.fz 4; have y5 := HZ4.out.1.fz 5; have y6 := HZ4.out.1.fz 6
          refine wpAnyH_ready (rs := [10]) (by kernel_rfl) (by simp) ?_
          refine anyH_one rfl (fun K hK => ?_) ?_
          · go_simp
            refine hK.out _ _ (hHeld.turn (turn7 _ _ _ _ _ _ _ _ _) (fun e => by have := HZ4.out.2.2; omega)) (fun hHeld => ?_)
            clear hK K
            (try simp only [Act.put, List.setIfInBounds_toArray, List.set_cons_zero, List.set_cons_succ])
            refine wpAnyH_done (by kernel_rfl) ?_ _
            have HQ := Lib.hid (HP4.out.set (turn7 w4 zb (.slice A5 P.steps.length c5) (.int .i64 P.why) (.bool P.W) (.bool P.U) (.bool P.X) (.int .i64 P.lev) (.int .u64 P.fr)) HZ4.out (HZ4.out.1.set7 _ _ _ _ _ _ _))
            go_wp2
            go_meet
            case rel => exact ⟨zb, .slice A5 P.steps.length c5, _, rfl, HQ⟩
          exact AllReadyH.nil
        exact AllReadyH.nil
      exact AllReadyH.nil
    exact AllReadyH.nil
  case rest =>
    obtain ⟨pb, v, G, rfl, HP⟩ := hcut
    obtain ⟨A, c, rfl⟩ := HP.out.trf.own.form
    clear CT CF HT0
    obtain ⟨L, hL⟩ : ∃ L, P.steps.length = L := ⟨_, rfl⟩
    have HLL := Lib.hid hL
    rw [hL] at HP HL HW
    have hl4 : L ≤ 4 := HL.out
    clear hL
    obtain ⟨p0, p1, p2, p3, p4, p5, p6⟩ := HP.out.pth.seven
    obtain ⟨q0, q1, q2, q3, q4, q5, q6, q7⟩ := HP.out.trf.tra.use.eight
    cases hm : jmay P u
    · have CJ := fun w' => judge_no (.slice A L c) P u a w' hm
      go_upto_region 6 with (first | (go_at_call 31; refine (CJ _).mono ?_; rintro e w2 ⟨g, rfl, hP2, hB2⟩; have HP2 := Lib.hid (HP.out.quiet hB2); have HG2 := Lib.hid hP2; clear hP2 hB2 HP p0 p1 p2 p3 p4 p5 p6 q0 q1 q2 q3 q4 q5 q6 q7))
      refine wp_region_held_drew (S := fun w' => Blk w' pb (pathCells (.slice A L c) P) 37) (by kernel_rfl) HP2.out.pth.drew (fun hHeld => ?_)
      have HPd := Lib.hid (HP2.out.quiet (Kept.drew0 w2))
      have HGd := Lib.hid (page_keep HG2.out (Kept.drew0 w2))
      clear HP2 HG2
      generalize w2.drew = w3 at *
      refine anyH_take (i := 0) (v := ?_) rfl (by kernel_rfl) (by kernel_rfl) (by kernel_rfl) (fun _ _ _ h => h) (by rfl) (by assumption) ?_ ?_
      rotate_left
      · intro w hSw
        obtain ⟨b0, b1, b2, b3, b4, b5, b6⟩ := hSw.seven
        go_simp
        (try with_reducible rfl)
      (try simp only [Act.put, List.setIfInBounds_toArray, List.set_cons_zero, List.set_cons_succ])
      refine anyH_take (i := 1) (v := ?_) rfl (by kernel_rfl) (by kernel_rfl) (by kernel_rfl) (fun _ _ _ h => h) (by rfl) (by assumption) ?_ ?_
      rotate_left
      · intro w hSw
        go_simp
        (try with_reducible rfl)
      (try simp only [Act.put, List.setIfInBounds_toArray, List.set_cons_zero, List.set_cons_succ])
      refine anyH_take (i := 2) (v := ?_) rfl (by kernel_rfl) (by kernel_rfl) (by kernel_rfl) (fun _ _ _ h => h) (by rfl) (by assumption) ?_ ?_
      rotate_left
      · intro w hSw
        go_simp
        (try with_reducible rfl)
      (try simp only [Act.put, List.setIfInBounds_toArray, List.set_cons_zero, List.set_cons_succ])
      obtain ⟨r0, r1, r2, r3, r4, r5, r6⟩ := HPd.out.trf.tra.res.seven
      have s0 := HPd.out.trf.tra.res.fz 0; have s1 := HPd.out.trf.tra.res.fz 1; have s2 := HPd.out.trf.tra.res.fz 2; have s3 := HPd.out.trf.tra.res.fz 3; have s4 := HPd.out.trf.tra.res.fz 4; have s5 := HPd.out.trf.tra.res.fz 5; have s6 := HPd.out.trf.tra.res.fz 6
      refine wpAnyH_ready (rs := [3]) (by kernel_rfl) (by simp) ?_
      refine anyH_one rfl (fun K hK => ?_) ?_
      · go_simp
        refine hK.out _ _ (hHeld.turn (turn7 _ _ _ _ _ _ _ _ _) (fun e => by have := HPd.out.ge; omega)) (fun hHeld => ?_)
        clear hK K
        (try simp only [Act.put, List.setIfInBounds_toArray, List.set_cons_zero, List.set_cons_succ])
        refine anyH_take (i := 4) (v := ?_) rfl (by kernel_rfl) (by kernel_rfl) (by kernel_rfl) (fun _ _ _ h => h) (by rfl) (by assumption) ?_ ?_
        rotate_left
        · intro w hSw
          go_simp
          (try with_reducible rfl)
        (try simp only [Act.put, List.setIfInBounds_toArray, List.set_cons_zero, List.set_cons_succ])
        refine wpAnyH_done (by kernel_rfl) ?_ _
        clear r0 r1 r2 r3 r4 r5 r6 s0 s1 s2 s3 s4 s5 s6 hHeld
        go_wp2
        refine bodyPost_ret (results_tct rfl _ _ (w.heap.size + 1) _ _ _ _ rfl (HPd.out.trf.tra.res.set7 _ _ _ _ _ _ _) Tryz.underlying37 rfl rfl) rfl ?_
        exact TraAns.no hm (page0_turn (x := .nilIface) HGd.out HPd.out.trf.tra.res.seven.1 (turn7 _ _ _ _ _ _ _ _ _)) rfl (HPd.out.trf.out (turn7 _ _ _ _ _ _ _ _ _))
      exact AllReadyH.nil
    · have HY := Lib.hid (jmay_yes hm).1
      have CJ := fun w' => judge_yes (.slice A L c) P u a w'
      go_upto_region 7 with (first | (go_at_call 31; refine (CJ _ HP.out.trf.tra.sh HA.out hm).mono ?_; rintro e w2 ⟨rfl, hB2⟩; have HP2 := Lib.hid (HP.out.quiet hB2); clear hB2 HP CJ p0 p1 p2 p3 p4 p5 p6 q0 q1 q2 q3 q4 q5 q6 q7))
      obtain ⟨p0, p1, p2, p3, p4, p5, p6⟩ := HP2.out.pth.seven
      obtain ⟨q0, q1, q2, q3, q4, q5, q6, q7⟩ := HP2.out.trf.tra.use.eight
      have CM := mark_any HP2.out.trf.tra.wk.mem A L c P.steps HLL.out (HP2.out.trf.own.down (Nat.zero_le _)) HP2.out.trf.nv (by omega) (by omega) HW.out P.why P.W P.U P.X P.lev P.fr (u.k == 2)
      rw [show ((u.k == 2) && decide (P.why = 0)) = (u.k == 2) by rw [HY.out]; simp] at CM
      go_upto_region 8 with (first | (go_at_call 23; refine CM.mono ?_; rintro e w3 ⟨rfl, G3, hW3⟩; have HP3 := Lib.hid (HP2.out.step hW3); clear hW3 HP2 CM p0 p1 p2 p3 p4 p5 p6 q0 q1 q2 q3 q4 q5 q6 q7))
      refine wp_region_held_drew (S := fun w' => Blk w' pb (pathCells (.slice A L c) P) 37) (by kernel_rfl) HP3.out.pth.drew (fun hHeld => ?_)
      have HPd := Lib.hid (HP3.out.quiet (Kept.drew0 w3))
      clear HP3
      generalize w3.drew = w4 at *
      refine anyH_take (i := 0) (v := ?_) rfl (by kernel_rfl) (by kernel_rfl) (by kernel_rfl) (fun _ _ _ h => h) (by rfl) (by assumption) ?_ ?_
      rotate_left
      · intro w hSw
        go_simp
        (try with_reducible rfl)
      (try simp only [Act.put, List.setIfInBounds_toArray, List.set_cons_zero, List.set_cons_succ])
      refine anyH_take (i := 1) (v := ?_) rfl (by kernel_rfl) (by kernel_rfl) (by kernel_rfl) (fun _ _ _ h => h) (by rfl) (by assumption) ?_ ?_
      rotate_left
      · intro w hSw
        obtain ⟨b0, b1, b2, b3, b4, b5, b6⟩ := hSw.seven
        go_simp
        (try with_reducible rfl)
      (try simp only [Act.put, List.setIfInBounds_toArray, List.set_cons_zero, List.set_cons_succ])
      refine anyH_take (i := 2) (v := ?_) rfl (by kernel_rfl) (by kernel_rfl) (by kernel_rfl) (fun _ _ _ h => h) (by rfl) (by assumption) ?_ ?_
      rotate_left
      · intro w hSw
        go_simp
        (try with_reducible rfl)
      (try simp only [Act.put, List.setIfInBounds_toArray, List.set_cons_zero, List.set_cons_succ])
      obtain ⟨r0, r1, r2, r3, r4, r5, r6⟩ := HPd.out.trf.tra.res.seven
      have s0 := HPd.out.trf.tra.res.fz 0; have s1 := HPd.out.trf.tra.res.fz 1; have s2 := HPd.out.trf.tra.res.fz 2; have s3 := HPd.out.trf.tra.res.fz 3; have s4 := HPd.out.trf.tra.res.fz 4; have s5 := HPd.out.trf.tra.res.fz 5; have s6 := HPd.out.trf.tra.res.fz 6
      refine wpAnyH_ready (rs := [3]) (by kernel_rfl) (by simp) ?_
      refine anyH_one rfl (fun K hK => ?_) ?_
      · go_simp
        refine hK.out _ _ (hHeld.turn (turn7 _ _ _ _ _ _ _ _ _) (fun e => by have := HPd.out.ge; omega)) (fun hHeld => ?_)
        clear hK K
        (try simp only [Act.put, List.setIfInBounds_toArray, List.set_cons_zero, List.set_cons_succ])
        refine anyH_take (i := 4) (v := ?_) rfl (by kernel_rfl) (by kernel_rfl) (by kernel_rfl) (fun _ _ _ h => h) (by rfl) (by assumption) ?_ ?_
        rotate_left
        · intro w hSw
          go_simp
          (try with_reducible rfl)
        (try simp only [Act.put, List.setIfInBounds_toArray, List.set_cons_zero, List.set_cons_succ])
        refine wpAnyH_done (by kernel_rfl) ?_ _
        clear r0 r1 r2 r3 r4 r5 r6 s0 s1 s2 s3 s4 s5 s6 hHeld
        go_wp2
        refine bodyPost_ret (results_tct rfl _ _ (w.heap.size + 1) _ _ _ _ rfl (HPd.out.trf.tra.res.set7 _ _ _ _ _ _ _) Tryz.underlying37 rfl rfl) rfl ?_
        exact TraAns.yes hm HLL.out rfl (HPd.out.trf.out (turn7 _ _ _ _ _ _ _ _ _))
      exact AllReadyH.nil
end Go.Proofs.YtopmmlcjlopmaaaGreatDoor
/- Contracts of dormerref06: May. -/
namespace Go.Proofs.YtopmmlcjlopmaaaGreatDoor
set_option linter.unusedVariables false
set_option linter.unusedSimpArgs false
open Go.ChangeShapes Go.WideShapes Go.ChangeAt Go.RowKit Go.Joins

set_option maxHeartbeats 1600000 in
theorem rmay1_any (W U X : Bool) (user ac wp nxe smep smap : Bool) (w : World) :
    Calls Tryz.prog 78 #[rgtV W U X, accV 1 user ac, ctlV wp nxe smep smap] w fun e w' => e = .returned (.bool (mayF W U X 1 user ac wp smep smap)) ∧ Below w.heap.size w w' := by
  rw [may1]
  cases user
  · cases U
    · go_enter Tryz.func78, Tryz.ntmps78
      go_wp2
      go_ret
      exact ⟨rfl, below3 _ _ _ _⟩
    · cases smap <;> cases ac
      all_goals
        go_enter Tryz.func78, Tryz.ntmps78
        go_wp2
        go_ret
        exact ⟨rfl, below3 _ _ _ _⟩
  · cases U
    all_goals
      go_enter Tryz.func78, Tryz.ntmps78
      go_wp2
      go_ret
      exact ⟨rfl, below3 _ _ _ _⟩

set_option maxHeartbeats 1600000 in
theorem rmay2_any (W U X : Bool) (user ac wp nxe smep smap : Bool) (w : World) :
    Calls Tryz.prog 78 #[rgtV W U X, accV 2 user ac, ctlV wp nxe smep smap] w fun e w' => e = .returned (.bool (mayF W U X 2 user ac wp smep smap)) ∧ Below w.heap.size w w' := by
  rw [may2]
  cases user
  · cases U
    · cases W <;> cases wp
      all_goals
        go_enter Tryz.func78, Tryz.ntmps78
        go_wp2
        go_ret
        exact ⟨rfl, below3 _ _ _ _⟩
    · cases smap <;> cases ac <;> cases W <;> cases wp
      all_goals
        go_enter Tryz.func78, Tryz.ntmps78
        go_wp2
        go_ret
        exact ⟨rfl, below3 _ _ _ _⟩
  · cases U <;> cases W
    all_goals
      go_enter Tryz.func78, Tryz.ntmps78
      go_wp2
      go_ret
      exact ⟨rfl, below3 _ _ _ _⟩

set_option maxHeartbeats 1600000 in
theorem rmay3_any (W U X : Bool) (user ac wp nxe smep smap : Bool) (w : World) :
    Calls Tryz.prog 78 #[rgtV W U X, accV 3 user ac, ctlV wp nxe smep smap] w fun e w' => e = .returned (.bool (mayF W U X 3 user ac wp smep smap)) ∧ Below w.heap.size w w' := by
  rw [may3]
  cases user <;> cases U <;> cases X <;> cases smep
  all_goals
    go_enter Tryz.func78, Tryz.ntmps78
    go_wp2
    go_ret
    exact ⟨rfl, below3 _ _ _ _⟩

set_option maxHeartbeats 1600000 in
theorem rmay_any (W U X : Bool) (k : Int) (user ac wp nxe smep smap : Bool) (w : World) :
    Calls Tryz.prog 78 #[rgtV W U X, accV k user ac, ctlV wp nxe smep smap] w fun e w' => e = .returned (.bool (mayF W U X k user ac wp smep smap)) ∧ Below w.heap.size w w' := by
  by_cases h1 : k = 1
  · subst h1; exact rmay1_any _ _ _ _ _ _ _ _ _ _
  · by_cases h2 : k = 2
    · subst h2; exact rmay2_any _ _ _ _ _ _ _ _ _ _
    · by_cases h3 : k = 3
      · subst h3; exact rmay3_any _ _ _ _ _ _ _ _ _ _
      · rw [may0 W U X user ac wp smep smap h1 h2 h3]
        have c1 : (k != 1) = true := by simp [h1]
        have c2 : (k != 2) = true := by simp [h2]
        have c3 : (k != 3) = true := by simp [h3]
        clear h1 h2 h3
        go_enter Tryz.func78, Tryz.ntmps78
        go_wp2
        go_ret
        exact ⟨rfl, below3 _ _ _ _⟩

end Go.Proofs.YtopmmlcjlopmaaaGreatDoor
