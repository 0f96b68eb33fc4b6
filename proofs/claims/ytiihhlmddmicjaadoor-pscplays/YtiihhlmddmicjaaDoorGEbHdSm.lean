/- Several texts of ours in one: Eb, Hd, Sm. -/
import Derived.Test.YtiihhlmddmicjaaDoorGEaHaGm
import Derived.Test.YtiihhlmddmicjaaDoorGRgHbHc
import Derived.Test.YtiihhlmddmicjaaDoorGRfRlRs
import Derived.BigQuiet
/- Contracts of package entry: Reserved. -/
namespace Go.Proofs.YtiihhlmddmicjaaDoor
set_option linter.unusedVariables false
set_option linter.unusedSimpArgs false
open Go.ChangeShapes Go.WideShapes Go.ChangeAt Go.RowKit Go.Joins

theorem has7_any (x : Int) (w : World) : Calls Tryd.prog 81 #[.int .u64 x, .int .u64 128] w fun e w' => e = .returned (.bool (bitF x 7)) ∧ w = w' := by
  have := has_any x 128 w; rwa [has_b7] at this
theorem has63_any (x : Int) (w : World) : Calls Tryd.prog 81 #[.int .u64 x, .int .u64 9223372036854775808] w fun e w' => e = .returned (.bool (bitF x 63)) ∧ w = w' := by
  have := has_any x 9223372036854775808 w; rwa [has_b63] at this
theorem leaf2_any (x : Int) (w : World) : Calls Tryd.prog 52 #[.int .u64 x, .int .i64 2] w fun e w' => e = .returned (.bool (bitF x 7)) ∧ w = w' := by
  have := leaf_any x 2 w; rwa [leaf_two] at this
theorem leaf3_any (x : Int) (w : World) : Calls Tryd.prog 52 #[.int .u64 x, .int .i64 3] w fun e w' => e = .returned (.bool (bitF x 7)) ∧ w = w' := by
  have := leaf_any x 3 w; rwa [leaf_three] at this

set_option maxHeartbeats 1600000 in
theorem res_any (x l b : Int) (nxe : Bool) (w : World) (hb : I64 b) :
    Calls Tryd.prog 50 #[.int .u64 x, .int .i64 l, .int .i64 b, .bool nxe] w fun e w' => e = .returned (.bool (resF x l b nxe)) ∧ w = w' := by
  obtain ⟨r, hr0⟩ : ∃ r, resF x l b nxe = r := ⟨_, rfl⟩
  rw [hr0]
  have hr := Lib.hid hr0
  clear hr0
  obtain rfl | rfl | rfl | ⟨l4, l2, l3⟩ : l = 4 ∨ l = 2 ∨ l = 3 ∨ (l ≠ 4 ∧ l ≠ 2 ∧ l ≠ 3) := by omega
  · cases h1 : hasF x (beyondF b) <;> cases h2 : bitF x 63 <;> cases nxe <;> cases h7 : bitF x 7
    all_goals
      go_enter Tryd.func50, Tryd.ntmps50
      go_wp2_with (first | (go_at_call 82; refine (beyond_any _ _ hb).mono ?_; rintro e w' ⟨rfl, rfl⟩) | (go_at_call 81; first | ((with_reducible refine (has63_any _ _).mono ?_); rintro e w' ⟨rfl, rfl⟩) | ((with_reducible refine (has7_any _ _).mono ?_); rintro e w' ⟨rfl, rfl⟩) | (refine (has_any _ _ _).mono ?_; rintro e w' ⟨rfl, rfl⟩)))
      go_ret
      exact ⟨ret_bool (by rw [← hr.out]; simp [resF, h1, h2, h7]), rfl⟩
  · cases h1 : hasF x (beyondF b) <;> cases h2 : bitF x 63 <;> cases nxe <;> cases h7 : bitF x 7 <;> cases h8 : hasF x (maskF 13 8)
    all_goals
      go_enter Tryd.func50, Tryd.ntmps50
      go_wp2_with (first | (go_at_call 82; refine (beyond_any _ _ hb).mono ?_; rintro e w' ⟨rfl, rfl⟩) | (go_at_call 83; refine (mask_any _ _ _ i64_8).mono ?_; rintro e w' ⟨rfl, rfl⟩) | (go_at_call 52; refine (leaf2_any _ _).mono ?_; rintro e w' ⟨rfl, rfl⟩) | (go_at_call 81; first | ((with_reducible refine (has63_any _ _).mono ?_); rintro e w' ⟨rfl, rfl⟩) | ((with_reducible refine (has7_any _ _).mono ?_); rintro e w' ⟨rfl, rfl⟩) | (refine (has_any _ _ _).mono ?_; rintro e w' ⟨rfl, rfl⟩)))
      go_ret
      exact ⟨ret_bool (by rw [← hr.out]; simp [resF, h1, h2, h7, h8]), rfl⟩
  · cases h1 : hasF x (beyondF b) <;> cases h2 : bitF x 63 <;> cases nxe <;> cases h7 : bitF x 7 <;> cases h8 : hasF x (maskF 13 17)
    all_goals
      go_enter Tryd.func50, Tryd.ntmps50
      go_wp2_with (first | (go_at_call 82; refine (beyond_any _ _ hb).mono ?_; rintro e w' ⟨rfl, rfl⟩) | (go_at_call 83; refine (mask_any _ _ _ i64_17).mono ?_; rintro e w' ⟨rfl, rfl⟩) | (go_at_call 52; refine (leaf3_any _ _).mono ?_; rintro e w' ⟨rfl, rfl⟩) | (go_at_call 81; first | ((with_reducible refine (has63_any _ _).mono ?_); rintro e w' ⟨rfl, rfl⟩) | ((with_reducible refine (has7_any _ _).mono ?_); rintro e w' ⟨rfl, rfl⟩) | (refine (has_any _ _ _).mono ?_; rintro e w' ⟨rfl, rfl⟩)))
      go_ret
      exact ⟨ret_bool (by rw [← hr.out]; simp [resF, h1, h2, h7, h8]), rfl⟩
  · have c4 : (l == 4) = false := by simp [l4]
    have c2 : (l == 2) = false := by simp [l2]
    have c3 : (l == 3) = false := by simp [l3]
    clear l4 l2 l3
    cases h1 : hasF x (beyondF b) <;> cases h2 : bitF x 63 <;> cases nxe
    all_goals
      go_enter Tryd.func50, Tryd.ntmps50
      go_wp2_with (first | (go_at_call 82; refine (beyond_any _ _ hb).mono ?_; rintro e w' ⟨rfl, rfl⟩) | (go_at_call 81; first | ((with_reducible refine (has63_any _ _).mono ?_); rintro e w' ⟨rfl, rfl⟩) | ((with_reducible refine (has7_any _ _).mono ?_); rintro e w' ⟨rfl, rfl⟩) | (refine (has_any _ _ _).mono ?_; rintro e w' ⟨rfl, rfl⟩)))
      go_ret
      exact ⟨ret_bool (by rw [← hr.out]; simp [resF, h1, h2, c4, c2, c3]), rfl⟩
end Go.Proofs.YtiihhlmddmicjaaDoor
/- Contracts of package walk: From: what lies where in its loop. -/
namespace Go.Proofs.YtiihhlmddmicjaaDoor
set_option linter.unusedVariables false
set_option linter.unusedSimpArgs false
open Go.ChangeShapes Go.WideShapes Go.ChangeAt Go.RowKit Go.Joins

theorem isLevel_yes (l : Int) (w : World) (h1 : 1 ≤ l) (h4 : l ≤ 4) : Calls Tryd.prog 47 #[.int .i64 l] w fun e w' => e = .returned (.bool true) ∧ w = w' :=
  (isLevel_any l w).mono fun _ _ ⟨e, h⟩ => ⟨by rw [e]; simp [h1, h4], h⟩
theorem isLevel_no (l : Int) (w : World) (h : ¬ (1 ≤ l ∧ l ≤ 4)) : Calls Tryd.prog 47 #[.int .i64 l] w fun e w' => e = .returned (.bool false) ∧ w = w' :=
  (isLevel_any l w).mono fun _ _ ⟨e, h'⟩ => ⟨by rw [e]; simp; omega, h'⟩

abbrev pathCells (v : Value) (p : Pth) : Array Value := #[v, .int .i64 p.why, .bool p.W, .bool p.U, .bool p.X, .int .i64 p.lev, .int .u64 p.fr]

/-- From, in its loop: the memory; the place's box, the result's, and the path's; the steps so far -/
structure Fm (w wr : World) (F : Nat → Prop) (m : Nat) (M : Int) (f : Int → Int) (T : List Int) (n : Nat) (lev t : Int) (W U X : Bool) (S : List (Int × Int × Int)) (v : Value) (p : Pth) (G : Nat → Prop) : Prop where
  wk : Wk w wr F m M f T n G
  box : Blk wr w.heap.size #[.int .i64 lev, .int .u64 t, .bool W, .bool U, .bool X] 41
  res : Blk wr (w.heap.size + 1) (pathCells (.slice none 0 0) (offP 0)) 39
  pth : Blk wr (w.heap.size + 2) (pathCells v p) 39
  n0 : ¬ G w.heap.size
  n1 : ¬ G (w.heap.size + 1)
  n2 : ¬ G (w.heap.size + 2)
  own : StepsOwn 65 wr (w.heap.size + 3) v S
  nv : ∀ i, v.ownBlock = some i → ¬ G i
  sh : Shifts wr
  z : ¬ F 0 ∧ 0 < w.heap.size

/-- what From answers -/
def FromAns (w : World) (F : Nat → Prop) (m : Nat) (M : Int) (f : Int → Int) (tr : List Int) (n : Nat) (p : Pth) (e : Ending) (w' : World) : Prop :=
  ∃ v G, e = .returned (pathV v p.why p.W p.U p.X p.lev p.fr) ∧ Wk w w' F m M f (tr ++ slotsP p.steps) n G ∧ StepsOwn 65 w' (w.heap.size + 3) v p.steps ∧ (∀ i, v.ownBlock = some i → ¬ G i) ∧ Shifts w'

theorem FromAns.more {w : World} {F : Nat → Prop} {m : Nat} {M : Int} {f : Int → Int} {tr : List Int} {n n' : Nat} {p : Pth} {e : Ending} {w' : World} (h : FromAns w F m M f tr n p e w') (hn : n ≤ n') : FromAns w F m M f tr n' p e w' := by
  obtain ⟨v, G, he, hw, r⟩ := h
  exact ⟨v, G, he, hw.more hn, r⟩

section
variable {w wr w3 : World} {F : Nat → Prop} {m : Nat} {M : Int} {f : Int → Int} {T T' : List Int} {n n' : Nat} {lev t : Int} {W U X : Bool} {S : List (Int × Int × Int)} {v v' : Value} {p p' : Pth} {G : Nat → Prop}

theorem fm_start (h : Mem w F m M f T n) (h0 : ¬ F 0) (hs : Shifts w) :
    Fm w (((w.alloc (.cells #[.int .i64 lev, .int .u64 t, .bool W, .bool U, .bool X] 41)).alloc (.cells (pathCells (.slice none 0 0) (offP 0)) 39)).alloc (.cells (pathCells (.slice none 0 0) (offP 2)) 39)) F m M f T n lev t W U X [] (.slice none 0 0) (offP 2) (fun i => F i ∧ i < w.heap.size) := by
  have e1 : ∀ o, (w.alloc o).heap.size = w.heap.size + 1 := fun o => by simp
  have e2 : ∀ o o', ((w.alloc o).alloc o').heap.size = w.heap.size + 2 := fun o o' => by simp
  have hb := below3 w (.cells #[.int .i64 lev, .int .u64 t, .bool W, .bool U, .bool X] 41) (.cells (pathCells (.slice none 0 0) (offP 0)) 39) (.cells (pathCells (.slice none 0 0) (offP 2)) 39)
  refine ⟨(Wk.start h).quiet hb, ((Blk.new w _ _).alloc _).alloc _, ?_, ?_, fun h => by omega, fun h => by omega, fun h => by omega, StepsOwn.nil _ _ _, by simp [Value.ownBlock], shifts_turn hs (Turn.of_kept (fun _ => False) hb) (fun h => h), h0, World.block_lt_of_cell? _ _ hs.1⟩
  · have := (Blk.new (w.alloc (.cells #[.int .i64 lev, .int .u64 t, .bool W, .bool U, .bool X] 41)) (pathCells (.slice none 0 0) (offP 0)) 39).alloc (.cells (pathCells (.slice none 0 0) (offP 2)) 39)
    rwa [e1] at this
  · have := Blk.new ((w.alloc (.cells #[.int .i64 lev, .int .u64 t, .bool W, .bool U, .bool X] 41)).alloc (.cells (pathCells (.slice none 0 0) (offP 0)) 39)) (pathCells (.slice none 0 0) (offP 2)) 39
    rwa [e2] at this

/-- the memory itself is turned: a load -/
theorem Fm.load (h : Fm w wr F m M f T n lev t W U X S v p G) (hm : Mem w3 (Since G wr) m M f T' n') (ht : Turn G wr w3) : ∃ G', Fm w w3 F m M f T' n' lev t W U X S v p G' := by
  have hG0 : ¬ G 0 := fun hg => by
    rcases (h.wk.foot 0 hg).2 with h1 | h1
    · exact h.z.1 h1
    · have := h.z.2; omega
  exact ⟨_, h.wk.step hm ht, h.box.turn ht h.n0, h.res.turn ht h.n1, h.pth.turn ht h.n2, step_free h.n0 h.box.lt, step_free h.n1 h.res.lt, step_free h.n2 h.pth.lt, h.own.turn ht h.nv, fun i hi => step_free (h.nv i hi) (h.own.lt hi).2, shifts_turn h.sh ht hG0, h.z⟩
theorem Fm.quiet (h : Fm w wr F m M f T n lev t W U X S v p G) (hb : Below wr.heap.size wr w3) : Fm w w3 F m M f T n lev t W U X S v p G :=
  ⟨h.wk.quiet hb, h.box.below hb, h.res.below hb, h.pth.below hb, h.n0, h.n1, h.n2, h.own.below hb, h.nv, shifts_turn h.sh (Turn.of_kept (fun _ => False) hb) (fun h => h), h.z⟩
theorem Fm.drew (h : Fm w wr F m M f T n lev t W U X S v p G) : Fm w wr.drew F m M f T n lev t W U X S v p G := h.quiet (Kept.drew0 _)
/-- the path's box is turned -/
theorem Fm.path (h : Fm w wr F m M f T n lev t W U X S v p G) (ht : Turn (fun i => i = w.heap.size + 2) wr w3) (hb : Blk w3 (w.heap.size + 2) (pathCells v p') 39) : Fm w w3 F m M f T n lev t W U X S v p' G :=
  ⟨h.wk.set ht h.n2 (by omega), h.box.turn ht (by omega), h.res.turn ht (by omega), hb, h.n0, h.n1, h.n2, h.own.turn ht (fun i hi e => by have := (h.own.lt hi).1; omega), h.nv, shifts_turn h.sh ht (by omega), h.z⟩
/-- the place's box is another one -/
theorem Fm.place (h : Fm w wr F m M f T n lev t W U X S v p G) {lev' t' : Int} {W' U' X' : Bool} (ht : Turn (fun i => i = w.heap.size) wr w3) (hb : Blk w3 w.heap.size #[.int .i64 lev', .int .u64 t', .bool W', .bool U', .bool X'] 41) : Fm w w3 F m M f T n lev' t' W' U' X' S v p G :=
  ⟨h.wk.set ht h.n0 (by omega), hb, h.res.turn ht (by omega), h.pth.turn ht (by omega), h.n0, h.n1, h.n2, h.own.turn ht (fun i hi e => by have := (h.own.lt hi).1; omega), h.nv, shifts_turn h.sh ht (by have := h.z.2; omega), h.z⟩
/-- a step more -/
theorem Fm.more {w5 : World} {l s x : Int} {u : TypeId} (h : Fm w wr F m M f T n lev t W U X S v p G) (hown : w5.ownsRow (w.heap.size + 3) 65 3 v' (S.length + 1) (stepCells S ++ [.int .i64 l, .int .u64 s, .int .u64 x]))
    (hg : (wr.alloc (.cells #[.int .i64 l, .int .u64 s, .int .u64 x] u)).grownBy w5 v.ownBlock) (hloc : v'.ownBlock = v.ownBlock ∨ v'.ownBlock = some (wr.heap.size + 1)) :
    Fm w (w5.setCell ⟨w.heap.size + 2, 0, none⟩ v') F m M f T n lev t W U X (S ++ [(l, s, x)]) v' p G ∧ Blk w5 (w.heap.size + 2) (pathCells v p) 39 ∧ Blk w5 w.heap.size #[.int .i64 lev, .int .u64 t, .bool W, .bool U, .bool X] 41 := by
  have ht : Turn (fun i => v.ownBlock = some i) wr w5 := (Turn.alloc _ wr _).and (Turn.grown hg (fun i hi => hi))
  have hv : ∀ i, v.ownBlock = some i → w.heap.size + 3 ≤ i := fun i hi => (h.own.lt hi).1
  have hz := h.z.2
  have n0 : ¬ v.ownBlock = some w.heap.size := fun e => by have := hv _ e; omega
  have n1 : ¬ v.ownBlock = some (w.heap.size + 1) := fun e => by have := hv _ e; omega
  have n2 : ¬ v.ownBlock = some (w.heap.size + 2) := fun e => by have := hv _ e; omega
  have nz : ¬ v.ownBlock = some 0 := fun e => by have := hv _ e; omega
  have hs : StepsOwn 65 w5 (w.heap.size + 3) v' (S ++ [(l, s, x)]) := StepsOwn.more hown
  have hp5 := h.pth.turn ht n2
  have t2 := turn1 w5 (w.heap.size + 2) 0 v'
  refine ⟨⟨(h.wk.other ht (fun i hl e => h.nv i e) (fun i e => Or.inr (by have := hv i e; omega))).set t2 h.n2 (by omega), (h.box.turn ht n0).turn t2 (by omega), (h.res.turn ht n1).turn t2 (by omega), hp5.set1 0 v', h.n0, h.n1, h.n2, hs.turn t2 (fun i hi e => by have := (hs.lt hi).1; omega), ?_, shifts_turn (shifts_turn h.sh ht nz) t2 (by omega), h.z⟩, hp5, h.box.turn ht n0⟩
  intro i hi
  rcases hloc with e | e
  · exact h.nv i (e ▸ hi)
  · rw [e] at hi
    intro hg
    have := (h.wk.foot i hg).1
    simp at hi
    omega
/-- done -/
theorem Fm.done {tr : List Int} (h : Fm w wr F m M f T n lev t W U X S v p G) (hp : p.steps = []) (hT : T = tr ++ slotsP S) :
    FromAns w F m M f tr n (preP S p) (.returned (pathV v p.why p.W p.U p.X p.lev p.fr)) (((((((wr.setCell ⟨w.heap.size + 1, 0, none⟩ v).setCell ⟨w.heap.size + 1, 1, none⟩ (.int .i64 p.why)).setCell ⟨w.heap.size + 1, 2, none⟩ (.bool p.W)).setCell ⟨w.heap.size + 1, 3, none⟩ (.bool p.U)).setCell ⟨w.heap.size + 1, 4, none⟩ (.bool p.X)).setCell ⟨w.heap.size + 1, 5, none⟩ (.int .i64 p.lev)).setCell ⟨w.heap.size + 1, 6, none⟩ (.int .u64 p.fr)) := by
  have ht := turn7 wr (w.heap.size + 1) v (.int .i64 p.why) (.bool p.W) (.bool p.U) (.bool p.X) (.int .i64 p.lev) (.int .u64 p.fr)
  have e : (preP S p).steps = S := by show S ++ p.steps = S; rw [hp]; simp
  refine ⟨v, G, rfl, ?_, ?_, h.nv, shifts_turn h.sh ht (by have := h.z.2; omega)⟩
  · rw [e, ← hT]; exact h.wk.set ht h.n1 (by omega)
  · rw [e]; exact h.own.turn ht (fun i hi e => by have := (h.own.lt hi).1; omega)
end
end Go.Proofs.YtiihhlmddmicjaaDoor
/- Same of dormerref04. -/
namespace Go.Proofs.YtiihhlmddmicjaaDoor
set_option linter.unusedVariables false
set_option linter.unusedSimpArgs false
open Go.ChangeShapes Go.WideShapes Go.ChangeAt Go.RowKit Go.Joins

theorem drewN_below (v : World) (n : Nat) : Below v.heap.size v (v.drewN n) := ⟨rfl, rfl, rfl, Nat.le_refl _, fun _ _ => rfl⟩

theorem WordsOwn.form {w : World} {v : Value} {tr : List Int} (h : WordsOwn w v tr) :
    ∃ A c, v = .slice A tr.length c ∧ ∀ k, k < tr.length → ∃ g, A = some ⟨g, 0, none⟩ ∧ w.cell? ⟨g, k, none⟩ = some (.int .u64 (tr.getD k 0)) := by
  have h' := h
  rcases h.2 with ⟨rfl, hn⟩ | ⟨g, cap, cur, rfl, _⟩
  · exact ⟨none, 0, by rw [hn], fun k hk => by omega⟩
  · refine ⟨_, _, rfl, fun k hk => ⟨g, rfl, ?_⟩⟩
    have := World.ownsRow.cells h' (g := g) rfl k (.int .u64 (tr.getD k 0)) (by simp [List.getD, List.getElem?_eq_getElem hk])
    rwa [show (⟨g, 0, none⟩ : Addr).add k = ⟨g, k, none⟩ by unfold Addr.add; split <;> simp_all] at this

end Go.Proofs.YtiihhlmddmicjaaDoor
