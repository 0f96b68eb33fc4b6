/- Contracts of package walk: From: what lies where in its loop. -/
import Derived.Test.YtlpjbmlkpmhdlaaDoorHc
import Derived.Test.YtlpjbmlkpmhdlaaDoorEb
namespace Go.Proofs.YtlpjbmlkpmhdlaaDoor
set_option linter.unusedVariables false
set_option linter.unusedSimpArgs false
open Go.ChangeShapes Go.WideShapes Go.ChangeAt Go.RowKit Go.Joins

theorem isLevel_yes (l : Int) (w : World) (h1 : 1 ≤ l) (h4 : l ≤ 4) : Calls Tryd.prog 35 #[.int .i64 l] w fun e w' => e = .returned (.bool true) ∧ w = w' :=
  (isLevel_any l w).mono fun _ _ ⟨e, h⟩ => ⟨by rw [e]; simp [h1, h4], h⟩
theorem isLevel_no (l : Int) (w : World) (h : ¬ (1 ≤ l ∧ l ≤ 4)) : Calls Tryd.prog 35 #[.int .i64 l] w fun e w' => e = .returned (.bool false) ∧ w = w' :=
  (isLevel_any l w).mono fun _ _ ⟨e, h'⟩ => ⟨by rw [e]; simp; omega, h'⟩

abbrev pathCells (v : Value) (p : Pth) : Array Value := #[v, .int .i64 p.why, .bool p.W, .bool p.U, .bool p.X, .int .i64 p.lev, .int .u64 p.fr]

/-- From, in its loop: the memory; the place's box, the result's, and the path's; the steps so far -/
structure Fm (w wr : World) (F : Nat → Prop) (m : Nat) (M : Int) (f : Int → Int) (T : List Int) (n : Nat) (lev t : Int) (W U X : Bool) (S : List (Int × Int × Int)) (v : Value) (p : Pth) (G : Nat → Prop) : Prop where
  wk : Wk w wr F m M f T n G
  box : Blk wr w.heap.size #[.int .i64 lev, .int .u64 t, .bool W, .bool U, .bool X] 41
  res : Blk wr (w.heap.size + 1) (pathCells (.slice none 0 0) (offP 0)) 38
  pth : Blk wr (w.heap.size + 2) (pathCells v p) 38
  n0 : ¬ G w.heap.size
  n1 : ¬ G (w.heap.size + 1)
  n2 : ¬ G (w.heap.size + 2)
  own : StepsOwn 77 wr (w.heap.size + 3) v S
  nv : ∀ i, v.ownBlock = some i → ¬ G i
  sh : Shifts wr
  z : ¬ F 0 ∧ 0 < w.heap.size

/-- what From answers -/
def FromAns (w : World) (F : Nat → Prop) (m : Nat) (M : Int) (f : Int → Int) (tr : List Int) (n : Nat) (p : Pth) (e : Ending) (w' : World) : Prop :=
  ∃ v G, e = .returned (pathV v p.why p.W p.U p.X p.lev p.fr) ∧ Wk w w' F m M f (tr ++ slotsP p.steps) n G ∧ StepsOwn 77 w' (w.heap.size + 3) v p.steps ∧ (∀ i, v.ownBlock = some i → ¬ G i) ∧ Shifts w'

theorem FromAns.more {w : World} {F : Nat → Prop} {m : Nat} {M : Int} {f : Int → Int} {tr : List Int} {n n' : Nat} {p : Pth} {e : Ending} {w' : World} (h : FromAns w F m M f tr n p e w') (hn : n ≤ n') : FromAns w F m M f tr n' p e w' := by
  obtain ⟨v, G, he, hw, r⟩ := h
  exact ⟨v, G, he, hw.more hn, r⟩

section
variable {w wr w3 : World} {F : Nat → Prop} {m : Nat} {M : Int} {f : Int → Int} {T T' : List Int} {n n' : Nat} {lev t : Int} {W U X : Bool} {S : List (Int × Int × Int)} {v v' : Value} {p p' : Pth} {G : Nat → Prop}

theorem fm_start (h : Mem w F m M f T n) (h0 : ¬ F 0) (hs : Shifts w) :
    Fm w (((w.alloc (.cells #[.int .i64 lev, .int .u64 t, .bool W, .bool U, .bool X] 41)).alloc (.cells (pathCells (.slice none 0 0) (offP 0)) 38)).alloc (.cells (pathCells (.slice none 0 0) (offP 2)) 38)) F m M f T n lev t W U X [] (.slice none 0 0) (offP 2) (fun i => F i ∧ i < w.heap.size) := by
  have e1 : ∀ o, (w.alloc o).heap.size = w.heap.size + 1 := fun o => by simp
  have e2 : ∀ o o', ((w.alloc o).alloc o').heap.size = w.heap.size + 2 := fun o o' => by simp
  have hb := below3 w (.cells #[.int .i64 lev, .int .u64 t, .bool W, .bool U, .bool X] 41) (.cells (pathCells (.slice none 0 0) (offP 0)) 38) (.cells (pathCells (.slice none 0 0) (offP 2)) 38)
  refine ⟨(Wk.start h).quiet hb, ((Blk.new w _ _).alloc _).alloc _, ?_, ?_, fun h => by omega, fun h => by omega, fun h => by omega, StepsOwn.nil _ _ _, by simp [Value.ownBlock], shifts_turn hs (Turn.of_kept (fun _ => False) hb) (fun h => h), h0, World.block_lt_of_cell? _ _ hs.1⟩
  · have := (Blk.new (w.alloc (.cells #[.int .i64 lev, .int .u64 t, .bool W, .bool U, .bool X] 41)) (pathCells (.slice none 0 0) (offP 0)) 38).alloc (.cells (pathCells (.slice none 0 0) (offP 2)) 38)
    rwa [e1] at this
  · have := Blk.new ((w.alloc (.cells #[.int .i64 lev, .int .u64 t, .bool W, .bool U, .bool X] 41)).alloc (.cells (pathCells (.slice none 0 0) (offP 0)) 38)) (pathCells (.slice none 0 0) (offP 2)) 38
    rwa [e2] at this

/-- the memory itself is turned: a load -/
theorem Fm.load (h : Fm w wr F m M f T n lev t W U X S v p G) (hm : Mem w3 (Since G wr) m M f T' n') (ht : Turn G wr w3) : ∃ G', Fm w w3 F m M f T' n' lev t W U X S v p G' := by
  have hG0 : ¬ G 0 := fun hg => by
    rcases (h.wk.foot 0 hg).2 with h1 | h1
    · exact h.z.1 h1
    · have := h.z.2; omega
  exact ⟨_, h.wk.step hm ht, h.box.turn ht h.n0, h.res.turn ht h.n1, h.pth.turn ht h.n2, step_free h.n0 h.box.lt, step_free h.n1 h.res.lt, step_free h.n2 h.pth.lt, h.own.turn ht h.nv, fun i hi => step_free (h.nv i hi) (h.own.lt hi).2, shifts_turn h.sh ht hG0, h.z⟩
theorem Fm.quiet (h : Fm w wr F m M f T n lev t W U X S v p G) (hb : Below wr.heap.size wr w3) : Fm w w3 F m M f T n lev t W U X S v p G :=
  ⟨h.wk.quiet hb, h.box.below hb, h.res.below hb, h.pth.below hb, h.n0, h.n1, h.n2, h.own.below hb, h.nv, shifts_turn h.sh (Turn.of_kept (fun _ => False) hb) (fun h => h), h.z⟩
theorem Fm.drew (h : Fm w wr F m M f T n lev t W U X S v p G) : Fm w wr.drew F m M f T n lev t W U X S v p G := h.quiet (Kept.drew0 _)
/-- the path's box is turned -/
theorem Fm.path (h : Fm w wr F m M f T n lev t W U X S v p G) (ht : Turn (fun i => i = w.heap.size + 2) wr w3) (hb : Blk w3 (w.heap.size + 2) (pathCells v p') 38) : Fm w w3 F m M f T n lev t W U X S v p' G :=
  ⟨h.wk.set ht h.n2 (by omega), h.box.turn ht (by omega), h.res.turn ht (by omega), hb, h.n0, h.n1, h.n2, h.own.turn ht (fun i hi e => by have := (h.own.lt hi).1; omega), h.nv, shifts_turn h.sh ht (by omega), h.z⟩
/-- the place's box is another one -/
theorem Fm.place (h : Fm w wr F m M f T n lev t W U X S v p G) {lev' t' : Int} {W' U' X' : Bool} (ht : Turn (fun i => i = w.heap.size) wr w3) (hb : Blk w3 w.heap.size #[.int .i64 lev', .int .u64 t', .bool W', .bool U', .bool X'] 41) : Fm w w3 F m M f T n lev' t' W' U' X' S v p G :=
  ⟨h.wk.set ht h.n0 (by omega), hb, h.res.turn ht (by omega), h.pth.turn ht (by omega), h.n0, h.n1, h.n2, h.own.turn ht (fun i hi e => by have := (h.own.lt hi).1; omega), h.nv, shifts_turn h.sh ht (by have := h.z.2; omega), h.z⟩
/-- a step more -/
theorem Fm.more {w5 : World} {l s x : Int} {u : TypeId} (h : Fm w wr F m M f T n lev t W U X S v p G) (hown : w5.ownsRow (w.heap.size + 3) 77 3 v' (S.length + 1) (stepCells S ++ [.int .i64 l, .int .u64 s, .int .u64 x]))
    (hg : (wr.alloc (.cells #[.int .i64 l, .int .u64 s, .int .u64 x] u)).grownBy w5 v.ownBlock) (hloc : v'.ownBlock = v.ownBlock ∨ v'.ownBlock = some (wr.heap.size + 1)) :
    Fm w (w5.setCell ⟨w.heap.size + 2, 0, none⟩ v') F m M f T n lev t W U X (S ++ [(l, s, x)]) v' p G ∧ Blk w5 (w.heap.size + 2) (pathCells v p) 38 ∧ Blk w5 w.heap.size #[.int .i64 lev, .int .u64 t, .bool W, .bool U, .bool X] 41 := by
  have ht : Turn (fun i => v.ownBlock = some i) wr w5 := (Turn.alloc _ wr _).and (Turn.grown hg (fun i hi => hi))
  have hv : ∀ i, v.ownBlock = some i → w.heap.size + 3 ≤ i := fun i hi => (h.own.lt hi).1
  have hz := h.z.2
  have n0 : ¬ v.ownBlock = some w.heap.size := fun e => by have := hv _ e; omega
  have n1 : ¬ v.ownBlock = some (w.heap.size + 1) := fun e => by have := hv _ e; omega
  have n2 : ¬ v.ownBlock = some (w.heap.size + 2) := fun e => by have := hv _ e; omega
  have nz : ¬ v.ownBlock = some 0 := fun e => by have := hv _ e; omega
  have hs : StepsOwn 77 w5 (w.heap.size + 3) v' (S ++ [(l, s, x)]) := StepsOwn.more hown
  have hp5 := h.pth.turn ht n2
  have t2 := turn1 w5 (w.heap.size + 2) 0 v'
  refine ⟨⟨(h.wk.other ht (fun i hl e => h.nv i e) (fun i e => Or.inr (by have := hv i e; omega))).set t2 h.n2 (by omega), (h.box.turn ht n0).turn t2 (by omega), (h.res.turn ht n1).turn t2 (by omega), hp5.set1 0 v', h.n0, h.n1, h.n2, hs.turn t2 (fun i hi e => by have := (hs.lt hi).1; omega), ?_, shifts_turn (shifts_turn h.sh ht nz) t2 (by omega), h.z⟩, hp5, h.box.turn ht n0⟩
  intro i hi
  rcases hloc with e | e
  · exact h.nv i (e ▸ hi)
  · rw [e] at hi
    intro hg
    have := (h.wk.foot i hg).1
    simp at hi
    omega
/-- done -/
theorem Fm.done {tr : List Int} (h : Fm w wr F m M f T n lev t W U X S v p G) (hp : p.steps = []) (hT : T = tr ++ slotsP S) :
    FromAns w F m M f tr n (preP S p) (.returned (pathV v p.why p.W p.U p.X p.lev p.fr)) (((((((wr.setCell ⟨w.heap.size + 1, 0, none⟩ v).setCell ⟨w.heap.size + 1, 1, none⟩ (.int .i64 p.why)).setCell ⟨w.heap.size + 1, 2, none⟩ (.bool p.W)).setCell ⟨w.heap.size + 1, 3, none⟩ (.bool p.U)).setCell ⟨w.heap.size + 1, 4, none⟩ (.bool p.X)).setCell ⟨w.heap.size + 1, 5, none⟩ (.int .i64 p.lev)).setCell ⟨w.heap.size + 1, 6, none⟩ (.int .u64 p.fr)) := by
  have ht := turn7 wr (w.heap.size + 1) v (.int .i64 p.why) (.bool p.W) (.bool p.U) (.bool p.X) (.int .i64 p.lev) (.int .u64 p.fr)
  have e : (preP S p).steps = S := by show S ++ p.steps = S; rw [hp]; simp
  refine ⟨v, G, rfl, ?_, ?_, h.nv, shifts_turn h.sh ht (by omega)⟩
  · rw [e, ← hT]; exact h.wk.set ht h.n1 (by omega)
  · rw [e]; exact h.own.turn ht (fun i hi e => by have := (h.own.lt hi).1; omega)
end
end Go.Proofs.YtlpjbmlkpmhdlaaDoor
