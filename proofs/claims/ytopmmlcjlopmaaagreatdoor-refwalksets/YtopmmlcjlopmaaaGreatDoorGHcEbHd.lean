/- Several texts of ours in one: Hc, Eb, Hd. -/
import Derived.Test.YtopmmlcjlopmaaaGreatDoorGGbRgHb
import Derived.Test.YtopmmlcjlopmaaaGreatDoorGMeEmEa
/- Steps of a walk in a row of the call's own; a memory beside other blocks. -/
namespace Go.Proofs.YtopmmlcjlopmaaaGreatDoor
set_option linter.unusedVariables false
set_option linter.unusedSimpArgs false
open Go.ChangeShapes Go.WideShapes Go.ChangeAt Go.RowKit Go.Joins

/-- the cells of steps -/
def stepCells : List (Int × Int × Int) → List Value
  | [] => []
  | p :: L => .int .i64 p.1 :: .int .u64 p.2.1 :: .int .u64 p.2.2 :: stepCells L

theorem stepCells_append (L K : List (Int × Int × Int)) : stepCells (L ++ K) = stepCells L ++ stepCells K := by
  induction L with
  | nil => rfl
  | cons p L ih => simp [stepCells, ih]
theorem stepCells_get (L : List (Int × Int × Int)) : ∀ k, k < L.length → (stepCells L)[k * 3]? = some (.int .i64 (L.getD k (0, 0, 0)).1) ∧ (stepCells L)[k * 3 + 1]? = some (.int .u64 (L.getD k (0, 0, 0)).2.1) ∧ (stepCells L)[k * 3 + 2]? = some (.int .u64 (L.getD k (0, 0, 0)).2.2) := by
  induction L with
  | nil => intro k hk; simp at hk
  | cons p L ih =>
    intro k hk
    rcases k with _ | k
    · exact ⟨rfl, rfl, rfl⟩
    · have := ih k (by simpa using hk)
      rw [show (k + 1) * 3 = k * 3 + 1 + 1 + 1 by omega]
      simpa [stepCells] using this

/-- v holds the steps S, in a block from base on; e: which package's steps -/
def StepsOwn (e : TypeId) (w : World) (base : Nat) (v : Value) (S : List (Int × Int × Int)) : Prop := w.ownsRow base e 3 v S.length (stepCells S)

/-- v is a slice with the steps S, wherever it lies -/
def StepsIn (w : World) (v : Value) (S : List (Int × Int × Int)) : Prop :=
  ∃ A c, v = .slice A S.length c ∧ ∀ k, k < S.length → ∃ ad, A = some ad ∧ w.cell? (ad.add (k * 3)) = some (.int .i64 (S.getD k (0, 0, 0)).1) ∧ w.cell? ((ad.add (k * 3)).add 1) = some (.int .u64 (S.getD k (0, 0, 0)).2.1) ∧ w.cell? ((ad.add (k * 3)).add 2) = some (.int .u64 (S.getD k (0, 0, 0)).2.2)

section
variable {e : TypeId} {w w' : World} {base : Nat} {v : Value} {S : List (Int × Int × Int)}

theorem add2 (g k : Nat) : (⟨g, 0, none⟩ : Addr).add k = ⟨g, k, none⟩ := by unfold Addr.add; split <;> simp_all
theorem add3 (g k j : Nat) : ((⟨g, 0, none⟩ : Addr).add k).add j = ⟨g, k + j, none⟩ := by rw [add2]; unfold Addr.add; split <;> simp_all

theorem StepsOwn.into (h : StepsOwn e w base v S) : StepsIn w v S := by
  have h' := h
  rcases h.2 with ⟨rfl, hn⟩ | ⟨g, cap, cur, rfl, _⟩
  · exact ⟨none, 0, by rw [hn], fun k hk => by omega⟩
  · refine ⟨_, _, rfl, fun k hk => ⟨_, rfl, ?_, ?_, ?_⟩⟩
    · exact World.ownsRow.cells h' (g := g) rfl (k * 3) _ (stepCells_get S k hk).1
    · have := World.ownsRow.cells h' (g := g) rfl (k * 3 + 1) _ (stepCells_get S k hk).2.1
      rw [add3]; rwa [add2] at this
    · have := World.ownsRow.cells h' (g := g) rfl (k * 3 + 2) _ (stepCells_get S k hk).2.2
      rw [add3]; rwa [add2] at this

theorem StepsIn.below (h : StepsIn w v S) (hb : Below w.heap.size w w') : StepsIn w' v S := by
  obtain ⟨A, c, hv, hc⟩ := h
  refine ⟨A, c, hv, fun k hk => ?_⟩
  obtain ⟨ad, hA, c0, c1, c2⟩ := hc k hk
  exact ⟨ad, hA, (hb.cell (World.block_lt_of_cell? _ _ c0)).trans c0, (hb.cell (World.block_lt_of_cell? _ _ c1)).trans c1, (hb.cell (World.block_lt_of_cell? _ _ c2)).trans c2⟩

theorem StepsOwn.turn {F : Nat → Prop} (h : StepsOwn e w base v S) (ht : Turn F w w') (hn : ∀ i, v.ownBlock = some i → ¬ F i) : StepsOwn e w' base v S := by
  refine ⟨h.1, ?_⟩
  rcases h.2 with h2 | ⟨g, cap, cur, hv, hb, hg, r⟩
  · exact Or.inl h2
  · refine Or.inr ⟨g, cap, cur, hv, hb, ?_, r⟩
    rw [ht.block g (lt_of_block hg) (hn g (by rw [hv]; rfl))]; exact hg
theorem StepsOwn.below (h : StepsOwn e w base v S) (hb : Below w.heap.size w w') : StepsOwn e w' base v S :=
  h.turn (Turn.of_kept (fun _ => False) hb) (fun _ _ h => h)
theorem StepsOwn.lt (h : StepsOwn e w base v S) {i : Nat} (hi : v.ownBlock = some i) : base ≤ i ∧ i < w.heap.size := World.ownsRow.lt h i hi
theorem StepsOwn.nil (e : TypeId) (w : World) (base : Nat) : StepsOwn e w base (.slice none 0 0) [] := World.ownsRow_nil _ _ _ _
theorem StepsOwn.more {l s x : Int} (h : w.ownsRow base e 3 v (S.length + 1) (stepCells S ++ [.int .i64 l, .int .u64 s, .int .u64 x])) : StepsOwn e w base v (S ++ [(l, s, x)]) := by
  unfold StepsOwn
  rw [stepCells_append]
  simpa [stepCells] using h
theorem StepsOwn.form (h : StepsOwn e w base v S) : ∃ A c, v = .slice A S.length c := by
  obtain ⟨A, c, hv, _⟩ := h.into
  exact ⟨A, c, hv⟩
end

/-- a memory beside other blocks: G are its own; nothing but F has turned since w -/
structure Wk (w wr : World) (F : Nat → Prop) (m : Nat) (M : Int) (f : Int → Int) (tr : List Int) (n : Nat) (G : Nat → Prop) : Prop where
  mem : Mem wr G m M f tr n
  foot : ∀ i, G i → i < wr.heap.size ∧ (F i ∨ w.heap.size ≤ i)
  turn : Turn F w wr

section
variable {w wr w3 : World} {F G H : Nat → Prop} {m : Nat} {M : Int} {f f' : Int → Int} {tr tr' : List Int} {n n' : Nat}

theorem Wk.start (h : Mem w F m M f tr n) : Wk w w F m M f tr n (fun i => F i ∧ i < w.heap.size) := by
  obtain ⟨mb, v, D, hM, hF⟩ := h
  exact ⟨⟨mb, v, D, hM, fun i hi => ⟨hF i hi, hM.own_lt hi⟩⟩, fun i hi => ⟨hi.2, Or.inl hi.1⟩, Turn.refl _ _⟩
/-- the memory itself is turned -/
theorem Wk.step (h : Wk w wr F m M f tr n G) (hm : Mem w3 (Since G wr) m M f' tr' n') (ht : Turn G wr w3) : Wk w w3 F m M f' tr' n' (fun i => Since G wr i ∧ i < w3.heap.size) := by
  refine ⟨?_, ?_, ?_⟩
  · obtain ⟨mb, v, D, hM, hF⟩ := hm
    exact ⟨mb, v, D, hM, fun i hi => ⟨hF i hi, hM.own_lt hi⟩⟩
  · rintro i ⟨hi, hl⟩
    refine ⟨hl, ?_⟩
    rcases hi with hi | hi
    · exact (h.foot i hi).2
    · exact Or.inr (Nat.le_trans h.turn.size hi)
  · exact h.turn.trans (ht.mono fun i _ hi => (h.foot i hi).2)
theorem step_free {i : Nat} (hi : ¬ G i) (hl : i < wr.heap.size) : ¬ (Since G wr i ∧ i < w3.heap.size) := by
  rintro ⟨h | h, _⟩
  · exact hi h
  · omega
/-- what is no part of it is turned -/
theorem Wk.other (h : Wk w wr F m M f tr n G) (ht : Turn H wr w3) (h1 : ∀ i, i < wr.heap.size → H i → ¬ G i) (h2 : ∀ i, H i → F i ∨ w.heap.size ≤ i) : Wk w w3 F m M f tr n G :=
  ⟨h.mem.turned ht (fun i hl hg hh => h1 i hl hh hg), fun i hi => ⟨Nat.lt_of_lt_of_le (h.foot i hi).1 ht.size, (h.foot i hi).2⟩, h.turn.trans (ht.mono fun i _ hi => h2 i hi)⟩
theorem Wk.quiet (h : Wk w wr F m M f tr n G) (hb : Below wr.heap.size wr w3) : Wk w w3 F m M f tr n G :=
  h.other (H := fun _ => False) (Turn.of_kept _ hb) (fun _ _ h => h.elim) (fun _ h => h.elim)
theorem Wk.set (h : Wk w wr F m M f tr n G) {b : Nat} (ht : Turn (fun i => i = b) wr w3) (hb : ¬ G b) (hl : w.heap.size ≤ b) : Wk w w3 F m M f tr n G :=
  h.other ht (fun i _ e => e ▸ hb) (fun i e => Or.inr (e ▸ hl))
/-- what a call made of it, ahead of which it was another one -/
theorem Wk.join {w4 : World} {G' : Nat → Prop} (h : Wk w wr F m M f tr n G) (k : Wk wr w4 G m M f' tr' n' G') : Wk w w4 F m M f' tr' n' G' := by
  refine ⟨k.mem, fun i hi => ⟨(k.foot i hi).1, ?_⟩, h.turn.trans (k.turn.mono fun i _ hi => (h.foot i hi).2)⟩
  rcases (k.foot i hi).2 with hg | hg
  · exact (h.foot i hg).2
  · exact Or.inr (Nat.le_trans h.turn.size hg)
theorem Wk.free {w4 : World} {G' : Nat → Prop} {i : Nat} (k : Wk wr w4 G m M f' tr' n' G') (hi : ¬ G i) (hl : i < wr.heap.size) : ¬ G' i := fun hg => by
  rcases (k.foot i hg).2 with h | h
  · exact hi h
  · omega
/-- a memory that was made behind w -/
theorem Wk.made {B : Nat} (h : Mem wr (From B) m M f tr n) (hb : Below w.heap.size w wr) (hB : w.heap.size ≤ B) : Wk w wr (From w.heap.size) m M f tr n (fun i => From B i ∧ i < wr.heap.size) := by
  obtain ⟨mb, v, D, hM, hF⟩ := h
  exact ⟨⟨mb, v, D, hM, fun i hi => ⟨hF i hi, hM.own_lt hi⟩⟩, fun i hi => ⟨hi.2, Or.inr (Nat.le_trans hB hi.1)⟩, Turn.of_below hb⟩
theorem Wk.belowW (h : Wk w wr (From w.heap.size) m M f tr n G) : Below w.heap.size w wr := h.turn.below (fun _ hi => hi) (Nat.le_refl _)
theorem Wk.no0 (h : Wk w wr (From w.heap.size) m M f tr n G) (hz : 1 < w.heap.size) : ¬ G 1 := fun hg => by
  rcases (h.foot 1 hg).2 with h' | h'
  · have : w.heap.size ≤ 1 := h'
    omega
  · omega
theorem Wk.more (h : Wk w wr F m M f tr n G) (hn : n ≤ n') : Wk w wr F m M f tr n' G := ⟨h.mem.more hn, h.foot, h.turn⟩
end

theorem shifts_turn {w w' : World} {F : Nat → Prop} (h : Shifts w) (ht : Turn F w w') (h0 : ¬ F 1) : Shifts w' := by
  have hl : 1 < w.heap.size := World.block_lt_of_cell? _ _ h.1
  have e := ht.block 1 hl h0
  exact ⟨(World.cell?_of_block (a := ⟨1, 0, none⟩) e).trans h.1, (World.cell?_of_block (a := ⟨1, 1, none⟩) e).trans h.2.1, (World.cell?_of_block (a := ⟨1, 2, none⟩) e).trans h.2.2.1, (World.cell?_of_block (a := ⟨1, 3, none⟩) e).trans h.2.2.2⟩

theorem infoStep : (Tryz.prog.info? 99).map (fun i => (i.zero, i.size, i.bytes)) = some (some (.agg #[.int .i64 0, .int .u64 0, .int .u64 0]), 3, 24) := by kernel_rfl
theorem infoRStep : (Tryz.prog.info? 97).map (fun i => (i.zero, i.size, i.bytes)) = some (some (.agg #[.int .i64 0, .int .u64 0, .int .u64 0]), 3, 24) := by kernel_rfl

theorem three_cells (w : World) (x y z : Value) (t : TypeId) : ∀ j u, [x, y, z][j]? = some u → (w.alloc (.cells #[x, y, z] t)).cell? ((⟨w.heap.size, 0, none⟩ : Addr).add j) = some u := by
  intro j u hj
  match j, hj with
  | 0, hj => simp at hj; subst hj; simp [Addr.add]
  | 1, hj => simp at hj; subst hj; simp [Addr.add]
  | 2, hj => simp at hj; subst hj; simp [Addr.add]
theorem three_one (l s x : Int) : ∀ u ∈ [Value.int .i64 l, Value.int .u64 s, Value.int .u64 x], u.oneCell' = true := by
  intro u hu
  simp at hu
  rcases hu with rfl | rfl | rfl <;> rfl
end Go.Proofs.YtopmmlcjlopmaaaGreatDoor
/- Contracts of package entry: Reserved. -/
namespace Go.Proofs.YtopmmlcjlopmaaaGreatDoor
set_option linter.unusedVariables false
set_option linter.unusedSimpArgs false
open Go.ChangeShapes Go.WideShapes Go.ChangeAt Go.RowKit Go.Joins

theorem has7_any (x : Int) (w : World) : Calls Tryz.prog 100 #[.int .u64 x, .int .u64 128] w fun e w' => e = .returned (.bool (bitF x 7)) ∧ w = w' := by
  have := has_any x 128 w; rwa [has_b7] at this
theorem has63_any (x : Int) (w : World) : Calls Tryz.prog 100 #[.int .u64 x, .int .u64 9223372036854775808] w fun e w' => e = .returned (.bool (bitF x 63)) ∧ w = w' := by
  have := has_any x 9223372036854775808 w; rwa [has_b63] at this
theorem leaf2_any (x : Int) (w : World) : Calls Tryz.prog 59 #[.int .u64 x, .int .i64 2] w fun e w' => e = .returned (.bool (bitF x 7)) ∧ w = w' := by
  have := leaf_any x 2 w; rwa [leaf_two] at this
theorem leaf3_any (x : Int) (w : World) : Calls Tryz.prog 59 #[.int .u64 x, .int .i64 3] w fun e w' => e = .returned (.bool (bitF x 7)) ∧ w = w' := by
  have := leaf_any x 3 w; rwa [leaf_three] at this

set_option maxHeartbeats 1600000 in
theorem res_any (x l b : Int) (nxe : Bool) (w : World) (hb : I64 b) :
    Calls Tryz.prog 57 #[.int .u64 x, .int .i64 l, .int .i64 b, .bool nxe] w fun e w' => e = .returned (.bool (resF x l b nxe)) ∧ w = w' := by
  obtain ⟨r, hr0⟩ : ∃ r, resF x l b nxe = r := ⟨_, rfl⟩
  rw [hr0]
  have hr := Lib.hid hr0
  clear hr0
  obtain rfl | rfl | rfl | ⟨l4, l2, l3⟩ : l = 4 ∨ l = 2 ∨ l = 3 ∨ (l ≠ 4 ∧ l ≠ 2 ∧ l ≠ 3) := by omega
  · cases h1 : hasF x (beyondF b) <;> cases h2 : bitF x 63 <;> cases nxe <;> cases h7 : bitF x 7
    all_goals
      go_enter Tryz.func57, Tryz.ntmps57
      go_wp2_with (first | (go_at_call 101; refine (beyond_any _ _ hb).mono ?_; rintro e w' ⟨rfl, rfl⟩) | (go_at_call 100; first | ((with_reducible refine (has63_any _ _).mono ?_); rintro e w' ⟨rfl, rfl⟩) | ((with_reducible refine (has7_any _ _).mono ?_); rintro e w' ⟨rfl, rfl⟩) | (refine (has_any _ _ _).mono ?_; rintro e w' ⟨rfl, rfl⟩)))
      go_ret
      exact ⟨ret_bool (by rw [← hr.out]; simp [resF, h1, h2, h7]), rfl⟩
  · cases h1 : hasF x (beyondF b) <;> cases h2 : bitF x 63 <;> cases nxe <;> cases h7 : bitF x 7 <;> cases h8 : hasF x (maskF 13 8)
    all_goals
      go_enter Tryz.func57, Tryz.ntmps57
      go_wp2_with (first | (go_at_call 101; refine (beyond_any _ _ hb).mono ?_; rintro e w' ⟨rfl, rfl⟩) | (go_at_call 98; refine (mask_any _ _ _ i64_8).mono ?_; rintro e w' ⟨rfl, rfl⟩) | (go_at_call 59; refine (leaf2_any _ _).mono ?_; rintro e w' ⟨rfl, rfl⟩) | (go_at_call 100; first | ((with_reducible refine (has63_any _ _).mono ?_); rintro e w' ⟨rfl, rfl⟩) | ((with_reducible refine (has7_any _ _).mono ?_); rintro e w' ⟨rfl, rfl⟩) | (refine (has_any _ _ _).mono ?_; rintro e w' ⟨rfl, rfl⟩)))
      go_ret
      exact ⟨ret_bool (by rw [← hr.out]; simp [resF, h1, h2, h7, h8]), rfl⟩
  · cases h1 : hasF x (beyondF b) <;> cases h2 : bitF x 63 <;> cases nxe <;> cases h7 : bitF x 7 <;> cases h8 : hasF x (maskF 13 17)
    all_goals
      go_enter Tryz.func57, Tryz.ntmps57
      go_wp2_with (first | (go_at_call 101; refine (beyond_any _ _ hb).mono ?_; rintro e w' ⟨rfl, rfl⟩) | (go_at_call 98; refine (mask_any _ _ _ i64_17).mono ?_; rintro e w' ⟨rfl, rfl⟩) | (go_at_call 59; refine (leaf3_any _ _).mono ?_; rintro e w' ⟨rfl, rfl⟩) | (go_at_call 100; first | ((with_reducible refine (has63_any _ _).mono ?_); rintro e w' ⟨rfl, rfl⟩) | ((with_reducible refine (has7_any _ _).mono ?_); rintro e w' ⟨rfl, rfl⟩) | (refine (has_any _ _ _).mono ?_; rintro e w' ⟨rfl, rfl⟩)))
      go_ret
      exact ⟨ret_bool (by rw [← hr.out]; simp [resF, h1, h2, h7, h8]), rfl⟩
  · have c4 : (l == 4) = false := by simp [l4]
    have c2 : (l == 2) = false := by simp [l2]
    have c3 : (l == 3) = false := by simp [l3]
    clear l4 l2 l3
    cases h1 : hasF x (beyondF b) <;> cases h2 : bitF x 63 <;> cases nxe
    all_goals
      go_enter Tryz.func57, Tryz.ntmps57
      go_wp2_with (first | (go_at_call 101; refine (beyond_any _ _ hb).mono ?_; rintro e w' ⟨rfl, rfl⟩) | (go_at_call 100; first | ((with_reducible refine (has63_any _ _).mono ?_); rintro e w' ⟨rfl, rfl⟩) | ((with_reducible refine (has7_any _ _).mono ?_); rintro e w' ⟨rfl, rfl⟩) | (refine (has_any _ _ _).mono ?_; rintro e w' ⟨rfl, rfl⟩)))
      go_ret
      exact ⟨ret_bool (by rw [← hr.out]; simp [resF, h1, h2, c4, c2, c3]), rfl⟩
end Go.Proofs.YtopmmlcjlopmaaaGreatDoor
/- Contracts of package walk: From: what lies where in its loop. -/
namespace Go.Proofs.YtopmmlcjlopmaaaGreatDoor
set_option linter.unusedVariables false
set_option linter.unusedSimpArgs false
open Go.ChangeShapes Go.WideShapes Go.ChangeAt Go.RowKit Go.Joins

theorem isLevel_yes (l : Int) (w : World) (h1 : 1 ≤ l) (h4 : l ≤ 4) : Calls Tryz.prog 54 #[.int .i64 l] w fun e w' => e = .returned (.bool true) ∧ w = w' :=
  (isLevel_any l w).mono fun _ _ ⟨e, h⟩ => ⟨by rw [e]; simp [h1, h4], h⟩
theorem isLevel_no (l : Int) (w : World) (h : ¬ (1 ≤ l ∧ l ≤ 4)) : Calls Tryz.prog 54 #[.int .i64 l] w fun e w' => e = .returned (.bool false) ∧ w = w' :=
  (isLevel_any l w).mono fun _ _ ⟨e, h'⟩ => ⟨by rw [e]; simp; omega, h'⟩

abbrev pathCells (v : Value) (p : Pth) : Array Value := #[v, .int .i64 p.why, .bool p.W, .bool p.U, .bool p.X, .int .i64 p.lev, .int .u64 p.fr]

/-- From, in its loop: the memory; the place's box, the result's, and the path's; the steps so far -/
structure Fm (w wr : World) (F : Nat → Prop) (m : Nat) (M : Int) (f : Int → Int) (T : List Int) (n : Nat) (lev t : Int) (W U X : Bool) (S : List (Int × Int × Int)) (v : Value) (p : Pth) (G : Nat → Prop) : Prop where
  wk : Wk w wr F m M f T n G
  box : Blk wr w.heap.size #[.int .i64 lev, .int .u64 t, .bool W, .bool U, .bool X] 83
  res : Blk wr (w.heap.size + 1) (pathCells (.slice none 0 0) (offP 0)) 37
  pth : Blk wr (w.heap.size + 2) (pathCells v p) 37
  n0 : ¬ G w.heap.size
  n1 : ¬ G (w.heap.size + 1)
  n2 : ¬ G (w.heap.size + 2)
  own : StepsOwn 99 wr (w.heap.size + 3) v S
  nv : ∀ i, v.ownBlock = some i → ¬ G i
  sh : Shifts wr
  z : ¬ F 1 ∧ 1 < w.heap.size

/-- what From answers -/
def FromAns (w : World) (F : Nat → Prop) (m : Nat) (M : Int) (f : Int → Int) (tr : List Int) (n : Nat) (p : Pth) (e : Ending) (w' : World) : Prop :=
  ∃ v G, e = .returned (pathV v p.why p.W p.U p.X p.lev p.fr) ∧ Wk w w' F m M f (tr ++ slotsP p.steps) n G ∧ StepsOwn 99 w' (w.heap.size + 3) v p.steps ∧ (∀ i, v.ownBlock = some i → ¬ G i) ∧ Shifts w'

theorem FromAns.more {w : World} {F : Nat → Prop} {m : Nat} {M : Int} {f : Int → Int} {tr : List Int} {n n' : Nat} {p : Pth} {e : Ending} {w' : World} (h : FromAns w F m M f tr n p e w') (hn : n ≤ n') : FromAns w F m M f tr n' p e w' := by
  obtain ⟨v, G, he, hw, r⟩ := h
  exact ⟨v, G, he, hw.more hn, r⟩

section
variable {w wr w3 : World} {F : Nat → Prop} {m : Nat} {M : Int} {f : Int → Int} {T T' : List Int} {n n' : Nat} {lev t : Int} {W U X : Bool} {S : List (Int × Int × Int)} {v v' : Value} {p p' : Pth} {G : Nat → Prop}

theorem fm_start (h : Mem w F m M f T n) (h0 : ¬ F 1) (hs : Shifts w) :
    Fm w (((w.alloc (.cells #[.int .i64 lev, .int .u64 t, .bool W, .bool U, .bool X] 83)).alloc (.cells (pathCells (.slice none 0 0) (offP 0)) 37)).alloc (.cells (pathCells (.slice none 0 0) (offP 2)) 37)) F m M f T n lev t W U X [] (.slice none 0 0) (offP 2) (fun i => F i ∧ i < w.heap.size) := by
  have e1 : ∀ o, (w.alloc o).heap.size = w.heap.size + 1 := fun o => by simp
  have e2 : ∀ o o', ((w.alloc o).alloc o').heap.size = w.heap.size + 2 := fun o o' => by simp
  have hb := below3 w (.cells #[.int .i64 lev, .int .u64 t, .bool W, .bool U, .bool X] 83) (.cells (pathCells (.slice none 0 0) (offP 0)) 37) (.cells (pathCells (.slice none 0 0) (offP 2)) 37)
  refine ⟨(Wk.start h).quiet hb, ((Blk.new w _ _).alloc _).alloc _, ?_, ?_, fun h => by omega, fun h => by omega, fun h => by omega, StepsOwn.nil _ _ _, by simp [Value.ownBlock], shifts_turn hs (Turn.of_kept (fun _ => False) hb) (fun h => h), h0, World.block_lt_of_cell? _ _ hs.1⟩
  · have := (Blk.new (w.alloc (.cells #[.int .i64 lev, .int .u64 t, .bool W, .bool U, .bool X] 83)) (pathCells (.slice none 0 0) (offP 0)) 37).alloc (.cells (pathCells (.slice none 0 0) (offP 2)) 37)
    rwa [e1] at this
  · have := Blk.new ((w.alloc (.cells #[.int .i64 lev, .int .u64 t, .bool W, .bool U, .bool X] 83)).alloc (.cells (pathCells (.slice none 0 0) (offP 0)) 37)) (pathCells (.slice none 0 0) (offP 2)) 37
    rwa [e2] at this

/-- the memory itself is turned: a load -/
theorem Fm.load (h : Fm w wr F m M f T n lev t W U X S v p G) (hm : Mem w3 (Since G wr) m M f T' n') (ht : Turn G wr w3) : ∃ G', Fm w w3 F m M f T' n' lev t W U X S v p G' := by
  have hG0 : ¬ G 1 := fun hg => by
    rcases (h.wk.foot 1 hg).2 with h1 | h1
    · exact h.z.1 h1
    · have := h.z.2; omega
  exact ⟨_, h.wk.step hm ht, h.box.turn ht h.n0, h.res.turn ht h.n1, h.pth.turn ht h.n2, step_free h.n0 h.box.lt, step_free h.n1 h.res.lt, step_free h.n2 h.pth.lt, h.own.turn ht h.nv, fun i hi => step_free (h.nv i hi) (h.own.lt hi).2, shifts_turn h.sh ht hG0, h.z⟩
theorem Fm.quiet (h : Fm w wr F m M f T n lev t W U X S v p G) (hb : Below wr.heap.size wr w3) : Fm w w3 F m M f T n lev t W U X S v p G :=
  ⟨h.wk.quiet hb, h.box.below hb, h.res.below hb, h.pth.below hb, h.n0, h.n1, h.n2, h.own.below hb, h.nv, shifts_turn h.sh (Turn.of_kept (fun _ => False) hb) (fun h => h), h.z⟩
theorem Fm.drew (h : Fm w wr F m M f T n lev t W U X S v p G) : Fm w wr.drew F m M f T n lev t W U X S v p G := h.quiet (Kept.drew0 _)
/-- the path's box is turned -/
theorem Fm.path (h : Fm w wr F m M f T n lev t W U X S v p G) (ht : Turn (fun i => i = w.heap.size + 2) wr w3) (hb : Blk w3 (w.heap.size + 2) (pathCells v p') 37) : Fm w w3 F m M f T n lev t W U X S v p' G :=
  ⟨h.wk.set ht h.n2 (by omega), h.box.turn ht (by omega), h.res.turn ht (by omega), hb, h.n0, h.n1, h.n2, h.own.turn ht (fun i hi e => by have := (h.own.lt hi).1; omega), h.nv, shifts_turn h.sh ht (by omega), h.z⟩
/-- the place's box is another one -/
theorem Fm.place (h : Fm w wr F m M f T n lev t W U X S v p G) {lev' t' : Int} {W' U' X' : Bool} (ht : Turn (fun i => i = w.heap.size) wr w3) (hb : Blk w3 w.heap.size #[.int .i64 lev', .int .u64 t', .bool W', .bool U', .bool X'] 83) : Fm w w3 F m M f T n lev' t' W' U' X' S v p G :=
  ⟨h.wk.set ht h.n0 (by omega), hb, h.res.turn ht (by omega), h.pth.turn ht (by omega), h.n0, h.n1, h.n2, h.own.turn ht (fun i hi e => by have := (h.own.lt hi).1; omega), h.nv, shifts_turn h.sh ht (by have := h.z.2; omega), h.z⟩
/-- a step more -/
theorem Fm.more {w5 : World} {l s x : Int} {u : TypeId} (h : Fm w wr F m M f T n lev t W U X S v p G) (hown : w5.ownsRow (w.heap.size + 3) 99 3 v' (S.length + 1) (stepCells S ++ [.int .i64 l, .int .u64 s, .int .u64 x]))
    (hg : (wr.alloc (.cells #[.int .i64 l, .int .u64 s, .int .u64 x] u)).grownBy w5 v.ownBlock) (hloc : v'.ownBlock = v.ownBlock ∨ v'.ownBlock = some (wr.heap.size + 1)) :
    Fm w (w5.setCell ⟨w.heap.size + 2, 0, none⟩ v') F m M f T n lev t W U X (S ++ [(l, s, x)]) v' p G ∧ Blk w5 (w.heap.size + 2) (pathCells v p) 37 ∧ Blk w5 w.heap.size #[.int .i64 lev, .int .u64 t, .bool W, .bool U, .bool X] 83 := by
  have ht : Turn (fun i => v.ownBlock = some i) wr w5 := (Turn.alloc _ wr _).and (Turn.grown hg (fun i hi => hi))
  have hv : ∀ i, v.ownBlock = some i → w.heap.size + 3 ≤ i := fun i hi => (h.own.lt hi).1
  have hz := h.z.2
  have n0 : ¬ v.ownBlock = some w.heap.size := fun e => by have := hv _ e; omega
  have n1 : ¬ v.ownBlock = some (w.heap.size + 1) := fun e => by have := hv _ e; omega
  have n2 : ¬ v.ownBlock = some (w.heap.size + 2) := fun e => by have := hv _ e; omega
  have nz : ¬ v.ownBlock = some 1 := fun e => by have := hv _ e; omega
  have hs : StepsOwn 99 w5 (w.heap.size + 3) v' (S ++ [(l, s, x)]) := StepsOwn.more hown
  have hp5 := h.pth.turn ht n2
  have t2 := turn1 w5 (w.heap.size + 2) 0 v'
  refine ⟨⟨(h.wk.other ht (fun i hl e => h.nv i e) (fun i e => Or.inr (by have := hv i e; omega))).set t2 h.n2 (by omega), (h.box.turn ht n0).turn t2 (by omega), (h.res.turn ht n1).turn t2 (by omega), hp5.set1 0 v', h.n0, h.n1, h.n2, hs.turn t2 (fun i hi e => by have := (hs.lt hi).1; omega), ?_, shifts_turn (shifts_turn h.sh ht nz) t2 (by omega), h.z⟩, hp5, h.box.turn ht n0⟩
  intro i hi
  rcases hloc with e | e
  · exact h.nv i (e ▸ hi)
  · rw [e] at hi
    intro hg
    have := (h.wk.foot i hg).1
    simp at hi
    omega
/-- done -/
theorem Fm.done {tr : List Int} (h : Fm w wr F m M f T n lev t W U X S v p G) (hp : p.steps = []) (hT : T = tr ++ slotsP S) :
    FromAns w F m M f tr n (preP S p) (.returned (pathV v p.why p.W p.U p.X p.lev p.fr)) (((((((wr.setCell ⟨w.heap.size + 1, 0, none⟩ v).setCell ⟨w.heap.size + 1, 1, none⟩ (.int .i64 p.why)).setCell ⟨w.heap.size + 1, 2, none⟩ (.bool p.W)).setCell ⟨w.heap.size + 1, 3, none⟩ (.bool p.U)).setCell ⟨w.heap.size + 1, 4, none⟩ (.bool p.X)).setCell ⟨w.heap.size + 1, 5, none⟩ (.int .i64 p.lev)).setCell ⟨w.heap.size + 1, 6, none⟩ (.int .u64 p.fr)) := by
  have ht := turn7 wr (w.heap.size + 1) v (.int .i64 p.why) (.bool p.W) (.bool p.U) (.bool p.X) (.int .i64 p.lev) (.int .u64 p.fr)
  have e : (preP S p).steps = S := by show S ++ p.steps = S; rw [hp]; simp
  refine ⟨v, G, rfl, ?_, ?_, h.nv, shifts_turn h.sh ht (by have := h.z.2; omega)⟩
  · rw [e, ← hT]; exact h.wk.set ht h.n1 (by omega)
  · rw [e]; exact h.own.turn ht (fun i hi e => by have := (h.own.lt hi).1; omega)
end
end Go.Proofs.YtopmmlcjlopmaaaGreatDoor
