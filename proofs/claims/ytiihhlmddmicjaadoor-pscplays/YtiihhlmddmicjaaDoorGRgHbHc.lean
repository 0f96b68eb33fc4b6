/- Several texts of ours in one: Rg, Hb, Hc. -/
import Derived.Deep.RegionHeld
import Derived.Deep.DrawnRows
import Derived.Test.YtiihhlmddmicjaaDoorGEaHaGm
import Derived.Test.YtiihhlmddmicjaaDoorGGaKpGb
import Derived.Deep.RegionHeld3
import Derived.Deep.LoopGhost
/- A region that draws its order, driven by hand: operations taken first, calls branched over, the condition S changed on the way. Nothing of the program. -/
namespace Go.Proofs.YtiihhlmddmicjaaDoor
set_option linter.unusedVariables false
set_option linter.unusedSimpArgs false
open Go

section
variable {P : Program} {ops : Array Oper} {Q : Exit → Act → World → Prop} {md : Region.Mode} {S S' : World → Prop}

theorem at_of_drop {α : Type} {l : List α} {i : Nat} {o : α} {r : List α} (h : l.drop i = o :: r) : l[i]? = some o := by
  have := congrArg (fun l => l[0]?) h
  simpa [List.getElem?_drop] using this

/-- number i, which stands at the head of what is left of the list, is taken first -/
theorem anyH_take {i : Nat} {oi : Oper} {rest : List Oper} {v : Value} {fuel : Nat} {listed : Array Bool} {a : Act} {w : World} (hi : ops.toList.drop i = oi :: rest)
    (hs : Region.noSelect ops = true) (hf : Region.free md ops listed i = true) (hr : (Region.ready md ops listed).contains i = true)
    (hQ : ∀ c a w, Q (.panic c) (a.put oi.dst v) w → Q (.panic c) a w) (hwt : Region.wanted oi (yielded ops a.tmps) = true) (hS : S w)
    (hy : ∀ w, S w → (execOp a.eval oi).run P w = .ok (.value v) w)
    (h : wpAnyH P md ops Q S fuel (listed.setIfInBounds i true) (a.put oi.dst v) w) : wpAnyH P md ops Q S (fuel + 1) listed a w :=
  wpAnyH_take (by simpa using at_of_drop hi) hs hf hr hQ (Or.inl ⟨hwt, hy⟩) hS h

theorem anyH_one {i : Nat} {o : Oper} {l : List Oper} {fuel : Nat} {listed : Array Bool} {a : Act} {w : World} {rs : List Nat} (ho : ops.toList.drop i = o :: l)
    (h : ∀ K' : Act → World → Prop, Shut (∀ a w, S w → (S w → wpAnyH P md ops Q S fuel (listed.setIfInBounds i true) a w) → K' a w) → if Region.wanted o (yielded ops a.tmps) = true then Oper.wp P o a w K' Q else K' (a.put o.dst undef) w)
    (hs : AllReadyH P md ops Q S fuel listed a w rs) : AllReadyH P md ops Q S fuel listed a w (i :: rs) :=
  AllReadyH.cons (by simpa using at_of_drop ho) h hs
end

end Go.Proofs.YtiihhlmddmicjaaDoor
/- Contracts of package walk: isLevel, Top, below; blocks of five and of seven cells. -/
namespace Go.Proofs.YtiihhlmddmicjaaDoor
set_option linter.unusedVariables false
set_option linter.unusedSimpArgs false
open Go.ChangeShapes Go.WideShapes Go.ChangeAt Go.RowKit Go.Joins

abbrev placeV (lev t : Int) (W U X : Bool) : Value := .agg #[.int .i64 lev, .int .u64 t, .bool W, .bool U, .bool X]
abbrev pathV (v : Value) (y : Int) (W U X : Bool) (lev fr : Int) : Value := .agg #[v, .int .i64 y, .bool W, .bool U, .bool X, .int .i64 lev, .int .u64 fr]

/-- block b is a row of these cells -/
def Blk (w : World) (b : Nat) (cs : Array Value) (t : TypeId) : Prop := w.heap[b]? = some (.cells cs t (0, 0))

section
variable {w w' : World} {b : Nat} {t : TypeId} {x0 x1 x2 x3 x4 x5 x6 y0 y1 y2 y3 y4 y5 y6 : Value} {cs : Array Value}

theorem Blk.lt (h : Blk w b cs t) : b < w.heap.size := lt_of_block h
theorem Blk.new (w : World) (cs : Array Value) (t : TypeId) : Blk (w.alloc (.cells cs t)) w.heap.size cs t := Deep.blk_alloc_new _ _
theorem Blk.below (h : Blk w b cs t) (hb : Below w.heap.size w w') : Blk w' b cs t := (hb.block b h.lt).trans h
theorem Blk.alloc (h : Blk w b cs t) (o : Obj) : Blk (w.alloc o) b cs t := (Deep.blk_alloc_lt _ _ _ h.lt).trans h
theorem Blk.turn {F : Nat → Prop} (h : Blk w b cs t) (ht : Turn F w w') (hn : ¬ F b) : Blk w' b cs t := (ht.block b h.lt hn).trans h
theorem Blk.drew (h : Blk w b cs t) : Blk w.drew b cs t := h

theorem Blk.five (h : Blk w b #[x0, x1, x2, x3, x4] t) : w.cell? ⟨b, 0, none⟩ = some x0 ∧ w.cell? ⟨b, 1, none⟩ = some x1 ∧ w.cell? ⟨b, 2, none⟩ = some x2 ∧ w.cell? ⟨b, 3, none⟩ = some x3 ∧ w.cell? ⟨b, 4, none⟩ = some x4 := by
  unfold Blk at h; simp [World.cell?, h]
theorem Blk.seven (h : Blk w b #[x0, x1, x2, x3, x4, x5, x6] t) : w.cell? ⟨b, 0, none⟩ = some x0 ∧ w.cell? ⟨b, 1, none⟩ = some x1 ∧ w.cell? ⟨b, 2, none⟩ = some x2 ∧ w.cell? ⟨b, 3, none⟩ = some x3 ∧ w.cell? ⟨b, 4, none⟩ = some x4 ∧ w.cell? ⟨b, 5, none⟩ = some x5 ∧ w.cell? ⟨b, 6, none⟩ = some x6 := by
  unfold Blk at h; simp [World.cell?, h]
theorem Blk.fz (h : Blk w b cs t) (i : Nat) : w.frozen? ⟨b, i, none⟩ = false := by
  unfold Blk at h; simp [World.frozen?, h]

theorem Blk.set5 (h : Blk w b #[x0, x1, x2, x3, x4] t) (y0 y1 y2 y3 y4 : Value) : Blk (((((w.setCell ⟨b, 0, none⟩ y0).setCell ⟨b, 1, none⟩ y1).setCell ⟨b, 2, none⟩ y2).setCell ⟨b, 3, none⟩ y3).setCell ⟨b, 4, none⟩ y4) b #[y0, y1, y2, y3, y4] t := by
  unfold Blk at *; simp [World.setCell, Array.getElem?_modify, h]
theorem Blk.set7 (h : Blk w b #[x0, x1, x2, x3, x4, x5, x6] t) (y0 y1 y2 y3 y4 y5 y6 : Value) : Blk (((((((w.setCell ⟨b, 0, none⟩ y0).setCell ⟨b, 1, none⟩ y1).setCell ⟨b, 2, none⟩ y2).setCell ⟨b, 3, none⟩ y3).setCell ⟨b, 4, none⟩ y4).setCell ⟨b, 5, none⟩ y5).setCell ⟨b, 6, none⟩ y6) b #[y0, y1, y2, y3, y4, y5, y6] t := by
  unfold Blk at *; simp [World.setCell, Array.getElem?_modify, h]
theorem Blk.set1 (h : Blk w b cs t) (i : Nat) (y : Value) : Blk (w.setCell ⟨b, i, none⟩ y) b (cs.setIfInBounds i y) t := by
  unfold Blk at *; simp [World.setCell, Array.getElem?_modify, h]

theorem turn1 (w : World) (b i : Nat) (y : Value) : Turn (fun i => i = b) w (w.setCell ⟨b, i, none⟩ y) := Turn.setCell _ _ _ _ rfl
theorem Turn.and {w2 : World} {F : Nat → Prop} (h : Turn F w w') (k : Turn F w' w2) : Turn F w w2 := h.trans (k.mono fun i _ hi => Or.inl hi)
theorem turn5 (w : World) (b : Nat) (y0 y1 y2 y3 y4 : Value) : Turn (fun i => i = b) w (((((w.setCell ⟨b, 0, none⟩ y0).setCell ⟨b, 1, none⟩ y1).setCell ⟨b, 2, none⟩ y2).setCell ⟨b, 3, none⟩ y3).setCell ⟨b, 4, none⟩ y4) :=
  ((((turn1 _ _ _ _).and (turn1 _ _ _ _)).and (turn1 _ _ _ _)).and (turn1 _ _ _ _)).and (turn1 _ _ _ _)
theorem turn7 (w : World) (b : Nat) (y0 y1 y2 y3 y4 y5 y6 : Value) : Turn (fun i => i = b) w (((((((w.setCell ⟨b, 0, none⟩ y0).setCell ⟨b, 1, none⟩ y1).setCell ⟨b, 2, none⟩ y2).setCell ⟨b, 3, none⟩ y3).setCell ⟨b, 4, none⟩ y4).setCell ⟨b, 5, none⟩ y5).setCell ⟨b, 6, none⟩ y6) :=
  (((((((turn1 _ _ _ _).and (turn1 _ _ _ _)).and (turn1 _ _ _ _)).and (turn1 _ _ _ _)).and (turn1 _ _ _ _)).and (turn1 _ _ _ _)).and (turn1 _ _ _ _))
theorem turn_below {w0 : World} {B : Nat} (h : Below B w0 w) (ht : Turn (fun i => i = b) w w') (hb : B ≤ b) (hB : B ≤ w.heap.size) : Below B w0 w' := h.trans (ht.below (fun i hi => by omega) hB)
end

theorem isLevel_any (l : Int) (w : World) :
    Calls Tryd.prog 47 #[.int .i64 l] w fun e w' => e = .returned (.bool (decide (1 ≤ l) && decide (l ≤ 4))) ∧ w = w' := by
  by_cases h1 : 1 ≤ l
  · rw [show (decide (1 ≤ l) && decide (l ≤ 4)) = decide (l ≤ 4) by simp [h1]]
    go_enter Tryd.func47, Tryd.ntmps47
    go_wp2
    go_ret
    exact ⟨rfl, rfl⟩
  · rw [show (decide (1 ≤ l) && decide (l ≤ 4)) = false by simp [h1]]
    have h5 : l < 1 := by omega
    clear h1
    go_enter Tryd.func47, Tryd.ntmps47
    go_wp2
    go_ret
    exact ⟨rfl, rfl⟩

set_option maxRecDepth 100000 in
theorem top_any (r : Int) (w : World) (hr : W64 r) :
    Calls Tryd.prog 21 #[.int .u64 r] w fun e w' => e = .returned (placeV 4 (tableF r) true true true) ∧ Below w.heap.size w w' := by
  go_enter Tryd.func21, Tryd.ntmps21
  go_wp2_with (first | (go_at_call 56; refine (table_any _ _ hr).mono ?_; rintro e w' ⟨rfl, rfl⟩) | (go_at_call 29; refine (all_any _).mono ?_; rintro e w1 ⟨rfl, hb1⟩; have HB := Lib.hid ((Blk.new _ _ _).below hb1); have HW := Lib.hid (Below.trans (below_alloc1 w _) (hb1.mono (by simp))); clear hb1; obtain ⟨c0, c1, c2, c3, c4⟩ := HB.out.five; have f0 := HB.out.fz 0; have f1 := HB.out.fz 1; have f2 := HB.out.fz 2; have f3 := HB.out.fz 3; have f4 := HB.out.fz 4))
  refine bodyPost_ret (results_cell_row rfl _ _ w.heap.size _ _ _ _ rfl (HB.out.set5 _ _ _ _ _) Tryd.underlying41 rfl rfl) rfl ⟨rfl, turn_below HW.out (turn5 _ _ _ _ _ _ _) (Nat.le_refl _) HW.out.size⟩

/- below -/
/-- what the region of below keeps -/
def RegB (w : World) (g : Nat) (x0 x1 x2 x3 x4 : Value) (t : TypeId) (w' : World) : Prop :=
  Blk w' g #[x0, x1, x2, x3, x4] t ∧ (∃ y0 y1 y2 y3 y4, Blk w' (g + 1) #[y0, y1, y2, y3, y4] t) ∧ Kept w w'

section
variable {w w1 w2 w3 : World} {g : Nat} {x0 x1 x2 x3 x4 : Value} {t : TypeId}
theorem regb_step (h : RegB w g x0 x1 x2 x3 x4 t w2) (hk : Kept w2 w3) : RegB w g x0 x1 x2 x3 x4 t w3 := by
  obtain ⟨ha, ⟨y0, y1, y2, y3, y4, hb⟩, hw⟩ := h
  exact ⟨ha.below hk, ⟨y0, y1, y2, y3, y4, hb.below hk⟩, hk.step hw⟩
theorem regb_set (h : RegB w g x0 x1 x2 x3 x4 t w2) (hg : w.heap.size ≤ g) (y0 y1 y2 y3 y4 : Value) : RegB w g x0 x1 x2 x3 x4 t (((((w2.setCell ⟨g + 1, 0, none⟩ y0).setCell ⟨g + 1, 1, none⟩ y1).setCell ⟨g + 1, 2, none⟩ y2).setCell ⟨g + 1, 3, none⟩ y3).setCell ⟨g + 1, 4, none⟩ y4) := by
  obtain ⟨ha, ⟨z0, z1, z2, z3, z4, hb⟩, hw⟩ := h
  exact ⟨ha.turn (turn5 w2 (g + 1) y0 y1 y2 y3 y4) (by omega), ⟨y0, y1, y2, y3, y4, hb.set5 _ _ _ _ _⟩, turn_below hw (turn5 _ _ _ _ _ _ _) (by omega) (Below.size hw)⟩
end

set_option maxRecDepth 100000 in
set_option maxHeartbeats 1600000 in
theorem below_any (lev t x : Int) (W U X : Bool) (w : World) (hx : W64 x) :
    Calls Tryd.prog 55 #[placeV lev t W U X, .int .u64 x] w fun e w' => e = .returned (placeV (IntKind.i64.wrap (lev - 1)) (tableF x) (W && bitF x 1) (U && bitF x 2) (X && !bitF x 63)) ∧ Below w.heap.size w w' := by
  go_enter Tryd.func55, Tryd.ntmps55
  go_wp2
  obtain ⟨w1, hw1⟩ : ∃ w1, (w.alloc (.cells #[.int .i64 lev, .int .u64 t, .bool W, .bool U, .bool X] 41)).alloc (.cells #[.int .i64 0, .int .u64 0, .bool false, .bool false, .bool false] 41) = w1 := ⟨_, rfl⟩
  have HA : Blk w1 w.heap.size #[.int .i64 lev, .int .u64 t, .bool W, .bool U, .bool X] 41 := hw1 ▸ (Blk.new w _ _).alloc _
  have HB : Blk w1 (w.heap.size + 1) #[.int .i64 0, .int .u64 0, .bool false, .bool false, .bool false] 41 := hw1 ▸ last_obj2 w _ _
  have HW : Kept w w1 := hw1 ▸ below2 w _ _
  rw [hw1]
  clear hw1
  have H0 : RegB w w.heap.size (.int .i64 lev) (.int .u64 t) (.bool W) (.bool U) (.bool X) 41 w1.drew := ⟨HA, ⟨_, _, _, _, _, HB⟩, (Kept.drew0 _).step HW⟩
  clear HA HB HW
  refine wp_region_held_drew (S := RegB w w.heap.size (.int .i64 lev) (.int .u64 t) (.bool W) (.bool U) (.bool X) 41) (by kernel_rfl) H0 (fun hHeld => ?_)
  clear H0
  refine anyH_take (i := 0) (v := ?_) rfl (by kernel_rfl) (by kernel_rfl) (by kernel_rfl) (fun _ _ _ h => h) (by rfl) (by assumption) ?_ ?_
  rotate_left
  · intro w hSw
    go_simp
    (try with_reducible rfl)
  (try simp only [Act.put, List.setIfInBounds_toArray, List.set_cons_zero, List.set_cons_succ])
  refine anyH_take (i := 1) (v := ?_) rfl (by kernel_rfl) (by kernel_rfl) (by kernel_rfl) (fun _ _ _ h => h) (by rfl) (by assumption) ?_ ?_
  rotate_left
  · intro w hSw
    obtain ⟨hA, _, _⟩ := hSw
    obtain ⟨c0, c1, c2, c3, c4⟩ := hA.five
    go_simp
    (try with_reducible rfl)
  (try simp only [Act.put, List.setIfInBounds_toArray, List.set_cons_zero, List.set_cons_succ])
  refine anyH_take (i := 2) (v := ?_) rfl (by kernel_rfl) (by kernel_rfl) (by kernel_rfl) (fun _ _ _ h => h) (by rfl) (by assumption) ?_ ?_
  rotate_left
  · intro w hSw
    go_simp
    (try with_reducible rfl)
  (try simp only [Act.put, List.setIfInBounds_toArray, List.set_cons_zero, List.set_cons_succ])
  refine anyH_take (i := 3) (v := ?_) rfl (by kernel_rfl) (by kernel_rfl) (by kernel_rfl) (fun _ _ _ h => h) (by rfl) (by assumption) ?_ ?_
  rotate_left
  · intro w hSw
    go_simp
    (try with_reducible rfl)
  (try simp only [Act.put, List.setIfInBounds_toArray, List.set_cons_zero, List.set_cons_succ])
  refine anyH_take (i := 5) (v := ?_) rfl (by kernel_rfl) (by kernel_rfl) (by kernel_rfl) (fun _ _ _ h => h) (by rfl) (by assumption) ?_ ?_
  rotate_left
  · intro w hSw
    go_simp
    (try with_reducible rfl)
  (try simp only [Act.put, List.setIfInBounds_toArray, List.set_cons_zero, List.set_cons_succ])
  refine anyH_take (i := 6) (v := ?_) rfl (by kernel_rfl) (by kernel_rfl) (by kernel_rfl) (fun _ _ _ h => h) (by rfl) (by assumption) ?_ ?_
  rotate_left
  · intro w hSw
    obtain ⟨hA, _, _⟩ := hSw
    obtain ⟨c0, c1, c2, c3, c4⟩ := hA.five
    go_simp
    (try with_reducible rfl)
  (try simp only [Act.put, List.setIfInBounds_toArray, List.set_cons_zero, List.set_cons_succ])
  refine anyH_take (i := 7) (v := ?_) rfl (by kernel_rfl) (by kernel_rfl) (by kernel_rfl) (fun _ _ _ h => h) (by rfl) (by assumption) ?_ ?_
  rotate_left
  · intro w hSw
    go_simp
    (try with_reducible rfl)
  (try simp only [Act.put, List.setIfInBounds_toArray, List.set_cons_zero, List.set_cons_succ])
  refine wpAnyH_ready (rs := [4]) (by kernel_rfl) (by simp) ?_
  refine anyH_one rfl (fun K hK => ?_) ?_
  · go_simp
    refine (table_any _ _ hx).mono ?_
    rintro e w' ⟨rfl, rfl⟩
    refine hK.out _ _ (hHeld) (fun hHeld => ?_)
    clear hK K
    (try simp only [Act.put, List.setIfInBounds_toArray, List.set_cons_zero, List.set_cons_succ])
    refine wpAnyH_ready (rs := [8]) (by kernel_rfl) (by simp) ?_
    refine anyH_one rfl (fun K hK => ?_) ?_
    · go_simp
      refine (calls_kept (and_any W U X x _)).mono ?_
      rintro e w5 ⟨rfl, hb5⟩
      refine hK.out _ _ (regb_step hHeld hb5) (fun hHeld => ?_)
      clear hK K
      (try simp only [Act.put, List.setIfInBounds_toArray, List.set_cons_zero, List.set_cons_succ])
      refine anyH_take (i := 9) (v := ?_) rfl (by kernel_rfl) (by kernel_rfl) (by kernel_rfl) (fun _ _ _ h => h) (by rfl) (by assumption) ?_ ?_
      rotate_left
      · intro w hSw
        go_simp
        (try with_reducible rfl)
      (try simp only [Act.put, List.setIfInBounds_toArray, List.set_cons_zero, List.set_cons_succ])
      obtain ⟨_, ⟨y0, y1, y2, y3, y4, hb⟩, _⟩ := id hHeld
      have HQ := Lib.hid hb
      obtain ⟨c0, c1, c2, c3, c4⟩ := hb.five
      have f0 := hb.fz 0
      have f1 := hb.fz 1
      have f2 := hb.fz 2
      have f3 := hb.fz 3
      have f4 := hb.fz 4
      clear hb
      refine wpAnyH_ready (rs := [10]) (by kernel_rfl) (by simp) ?_
      refine anyH_one rfl (fun K hK => ?_) ?_
      · go_simp
        refine hK.out _ _ (regb_set hHeld (Nat.le_refl _) _ _ _ _ _) (fun hHeld => ?_)
        clear hK K
        (try simp only [Act.put, List.setIfInBounds_toArray, List.set_cons_zero, List.set_cons_succ])
        refine wpAnyH_done (by kernel_rfl) ?_ _
        go_wp2
        refine bodyPost_ret (results_cell_row rfl _ _ (w.heap.size + 1) _ _ _ _ rfl (HQ.out.set5 _ _ _ _ _) Tryd.underlying41 rfl rfl) rfl ⟨rfl, hHeld.2.2⟩
      exact AllReadyH.nil
    exact AllReadyH.nil
  exact AllReadyH.nil
end Go.Proofs.YtiihhlmddmicjaaDoor
/- Steps of a walk in a row of the call's own; a memory beside other blocks. -/
namespace Go.Proofs.YtiihhlmddmicjaaDoor
set_option linter.unusedVariables false
set_option linter.unusedSimpArgs false
open Go.ChangeShapes Go.WideShapes Go.ChangeAt Go.RowKit Go.Joins

/-- the cells of steps -/
def stepCells : List (Int × Int × Int) → List Value
  | [] => []
  | p :: L => .int .i64 p.1 :: .int .u64 p.2.1 :: .int .u64 p.2.2 :: stepCells L

theorem stepCells_append (L K : List (Int × Int × Int)) : stepCells (L ++ K) = stepCells L ++ stepCells K := by
  induction L with
  | nil => rfl
  | cons p L ih => simp [stepCells, ih]
theorem stepCells_get (L : List (Int × Int × Int)) : ∀ k, k < L.length → (stepCells L)[k * 3]? = some (.int .i64 (L.getD k (0, 0, 0)).1) ∧ (stepCells L)[k * 3 + 1]? = some (.int .u64 (L.getD k (0, 0, 0)).2.1) ∧ (stepCells L)[k * 3 + 2]? = some (.int .u64 (L.getD k (0, 0, 0)).2.2) := by
  induction L with
  | nil => intro k hk; simp at hk
  | cons p L ih =>
    intro k hk
    rcases k with _ | k
    · exact ⟨rfl, rfl, rfl⟩
    · have := ih k (by simpa using hk)
      rw [show (k + 1) * 3 = k * 3 + 1 + 1 + 1 by omega]
      simpa [stepCells] using this

/-- v holds the steps S, in a block from base on; e: which package's steps -/
def StepsOwn (e : TypeId) (w : World) (base : Nat) (v : Value) (S : List (Int × Int × Int)) : Prop := w.ownsRow base e 3 v S.length (stepCells S)

/-- v is a slice with the steps S, wherever it lies -/
def StepsIn (w : World) (v : Value) (S : List (Int × Int × Int)) : Prop :=
  ∃ A c, v = .slice A S.length c ∧ ∀ k, k < S.length → ∃ ad, A = some ad ∧ w.cell? (ad.add (k * 3)) = some (.int .i64 (S.getD k (0, 0, 0)).1) ∧ w.cell? ((ad.add (k * 3)).add 1) = some (.int .u64 (S.getD k (0, 0, 0)).2.1) ∧ w.cell? ((ad.add (k * 3)).add 2) = some (.int .u64 (S.getD k (0, 0, 0)).2.2)

section
variable {e : TypeId} {w w' : World} {base : Nat} {v : Value} {S : List (Int × Int × Int)}

theorem add2 (g k : Nat) : (⟨g, 0, none⟩ : Addr).add k = ⟨g, k, none⟩ := by unfold Addr.add; split <;> simp_all
theorem add3 (g k j : Nat) : ((⟨g, 0, none⟩ : Addr).add k).add j = ⟨g, k + j, none⟩ := by rw [add2]; unfold Addr.add; split <;> simp_all

theorem StepsOwn.into (h : StepsOwn e w base v S) : StepsIn w v S := by
  have h' := h
  rcases h.2 with ⟨rfl, hn⟩ | ⟨g, cap, cur, rfl, _⟩
  · exact ⟨none, 0, by rw [hn], fun k hk => by omega⟩
  · refine ⟨_, _, rfl, fun k hk => ⟨_, rfl, ?_, ?_, ?_⟩⟩
    · exact World.ownsRow.cells h' (g := g) rfl (k * 3) _ (stepCells_get S k hk).1
    · have := World.ownsRow.cells h' (g := g) rfl (k * 3 + 1) _ (stepCells_get S k hk).2.1
      rw [add3]; rwa [add2] at this
    · have := World.ownsRow.cells h' (g := g) rfl (k * 3 + 2) _ (stepCells_get S k hk).2.2
      rw [add3]; rwa [add2] at this

theorem StepsIn.below (h : StepsIn w v S) (hb : Below w.heap.size w w') : StepsIn w' v S := by
  obtain ⟨A, c, hv, hc⟩ := h
  refine ⟨A, c, hv, fun k hk => ?_⟩
  obtain ⟨ad, hA, c0, c1, c2⟩ := hc k hk
  exact ⟨ad, hA, (hb.cell (World.block_lt_of_cell? _ _ c0)).trans c0, (hb.cell (World.block_lt_of_cell? _ _ c1)).trans c1, (hb.cell (World.block_lt_of_cell? _ _ c2)).trans c2⟩

theorem StepsOwn.turn {F : Nat → Prop} (h : StepsOwn e w base v S) (ht : Turn F w w') (hn : ∀ i, v.ownBlock = some i → ¬ F i) : StepsOwn e w' base v S := by
  refine ⟨h.1, ?_⟩
  rcases h.2 with h2 | ⟨g, cap, cur, hv, hb, hg, r⟩
  · exact Or.inl h2
  · refine Or.inr ⟨g, cap, cur, hv, hb, ?_, r⟩
    rw [ht.block g (lt_of_block hg) (hn g (by rw [hv]; rfl))]; exact hg
theorem StepsOwn.below (h : StepsOwn e w base v S) (hb : Below w.heap.size w w') : StepsOwn e w' base v S :=
  h.turn (Turn.of_kept (fun _ => False) hb) (fun _ _ h => h)
theorem StepsOwn.lt (h : StepsOwn e w base v S) {i : Nat} (hi : v.ownBlock = some i) : base ≤ i ∧ i < w.heap.size := World.ownsRow.lt h i hi
theorem StepsOwn.nil (e : TypeId) (w : World) (base : Nat) : StepsOwn e w base (.slice none 0 0) [] := World.ownsRow_nil _ _ _ _
theorem StepsOwn.more {l s x : Int} (h : w.ownsRow base e 3 v (S.length + 1) (stepCells S ++ [.int .i64 l, .int .u64 s, .int .u64 x])) : StepsOwn e w base v (S ++ [(l, s, x)]) := by
  unfold StepsOwn
  rw [stepCells_append]
  simpa [stepCells] using h
theorem StepsOwn.form (h : StepsOwn e w base v S) : ∃ A c, v = .slice A S.length c := by
  obtain ⟨A, c, hv, _⟩ := h.into
  exact ⟨A, c, hv⟩
end

/-- a memory beside other blocks: G are its own; nothing but F has turned since w -/
structure Wk (w wr : World) (F : Nat → Prop) (m : Nat) (M : Int) (f : Int → Int) (tr : List Int) (n : Nat) (G : Nat → Prop) : Prop where
  mem : Mem wr G m M f tr n
  foot : ∀ i, G i → i < wr.heap.size ∧ (F i ∨ w.heap.size ≤ i)
  turn : Turn F w wr

section
variable {w wr w3 : World} {F G H : Nat → Prop} {m : Nat} {M : Int} {f f' : Int → Int} {tr tr' : List Int} {n n' : Nat}

theorem Wk.start (h : Mem w F m M f tr n) : Wk w w F m M f tr n (fun i => F i ∧ i < w.heap.size) := by
  obtain ⟨mb, v, D, hM, hF⟩ := h
  exact ⟨⟨mb, v, D, hM, fun i hi => ⟨hF i hi, hM.own_lt hi⟩⟩, fun i hi => ⟨hi.2, Or.inl hi.1⟩, Turn.refl _ _⟩
/-- the memory itself is turned -/
theorem Wk.step (h : Wk w wr F m M f tr n G) (hm : Mem w3 (Since G wr) m M f' tr' n') (ht : Turn G wr w3) : Wk w w3 F m M f' tr' n' (fun i => Since G wr i ∧ i < w3.heap.size) := by
  refine ⟨?_, ?_, ?_⟩
  · obtain ⟨mb, v, D, hM, hF⟩ := hm
    exact ⟨mb, v, D, hM, fun i hi => ⟨hF i hi, hM.own_lt hi⟩⟩
  · rintro i ⟨hi, hl⟩
    refine ⟨hl, ?_⟩
    rcases hi with hi | hi
    · exact (h.foot i hi).2
    · exact Or.inr (Nat.le_trans h.turn.size hi)
  · exact h.turn.trans (ht.mono fun i _ hi => (h.foot i hi).2)
theorem step_free {i : Nat} (hi : ¬ G i) (hl : i < wr.heap.size) : ¬ (Since G wr i ∧ i < w3.heap.size) := by
  rintro ⟨h | h, _⟩
  · exact hi h
  · omega
/-- what is no part of it is turned -/
theorem Wk.other (h : Wk w wr F m M f tr n G) (ht : Turn H wr w3) (h1 : ∀ i, i < wr.heap.size → H i → ¬ G i) (h2 : ∀ i, H i → F i ∨ w.heap.size ≤ i) : Wk w w3 F m M f tr n G :=
  ⟨h.mem.turned ht (fun i hl hg hh => h1 i hl hh hg), fun i hi => ⟨Nat.lt_of_lt_of_le (h.foot i hi).1 ht.size, (h.foot i hi).2⟩, h.turn.trans (ht.mono fun i _ hi => h2 i hi)⟩
theorem Wk.quiet (h : Wk w wr F m M f tr n G) (hb : Below wr.heap.size wr w3) : Wk w w3 F m M f tr n G :=
  h.other (H := fun _ => False) (Turn.of_kept _ hb) (fun _ _ h => h.elim) (fun _ h => h.elim)
theorem Wk.set (h : Wk w wr F m M f tr n G) {b : Nat} (ht : Turn (fun i => i = b) wr w3) (hb : ¬ G b) (hl : w.heap.size ≤ b) : Wk w w3 F m M f tr n G :=
  h.other ht (fun i _ e => e ▸ hb) (fun i e => Or.inr (e ▸ hl))
/-- what a call made of it, ahead of which it was another one -/
theorem Wk.join {w4 : World} {G' : Nat → Prop} (h : Wk w wr F m M f tr n G) (k : Wk wr w4 G m M f' tr' n' G') : Wk w w4 F m M f' tr' n' G' := by
  refine ⟨k.mem, fun i hi => ⟨(k.foot i hi).1, ?_⟩, h.turn.trans (k.turn.mono fun i _ hi => (h.foot i hi).2)⟩
  rcases (k.foot i hi).2 with hg | hg
  · exact (h.foot i hg).2
  · exact Or.inr (Nat.le_trans h.turn.size hg)
theorem Wk.free {w4 : World} {G' : Nat → Prop} {i : Nat} (k : Wk wr w4 G m M f' tr' n' G') (hi : ¬ G i) (hl : i < wr.heap.size) : ¬ G' i := fun hg => by
  rcases (k.foot i hg).2 with h | h
  · exact hi h
  · omega
/-- a memory that was made behind w -/
theorem Wk.made {B : Nat} (h : Mem wr (From B) m M f tr n) (hb : Below w.heap.size w wr) (hB : w.heap.size ≤ B) : Wk w wr (From w.heap.size) m M f tr n (fun i => From B i ∧ i < wr.heap.size) := by
  obtain ⟨mb, v, D, hM, hF⟩ := h
  exact ⟨⟨mb, v, D, hM, fun i hi => ⟨hF i hi, hM.own_lt hi⟩⟩, fun i hi => ⟨hi.2, Or.inr (Nat.le_trans hB hi.1)⟩, Turn.of_below hb⟩
theorem Wk.belowW (h : Wk w wr (From w.heap.size) m M f tr n G) : Below w.heap.size w wr := h.turn.below (fun _ hi => hi) (Nat.le_refl _)
theorem Wk.no0 (h : Wk w wr (From w.heap.size) m M f tr n G) (hz : 0 < w.heap.size) : ¬ G 0 := fun hg => by
  rcases (h.foot 0 hg).2 with h' | h'
  · have : w.heap.size ≤ 0 := h'
    omega
  · omega
theorem Wk.more (h : Wk w wr F m M f tr n G) (hn : n ≤ n') : Wk w wr F m M f tr n' G := ⟨h.mem.more hn, h.foot, h.turn⟩
end

theorem shifts_turn {w w' : World} {F : Nat → Prop} (h : Shifts w) (ht : Turn F w w') (h0 : ¬ F 0) : Shifts w' := by
  have hl : 0 < w.heap.size := World.block_lt_of_cell? _ _ h.1
  have e := ht.block 0 hl h0
  exact ⟨(World.cell?_of_block (a := ⟨0, 0, none⟩) e).trans h.1, (World.cell?_of_block (a := ⟨0, 1, none⟩) e).trans h.2.1, (World.cell?_of_block (a := ⟨0, 2, none⟩) e).trans h.2.2.1, (World.cell?_of_block (a := ⟨0, 3, none⟩) e).trans h.2.2.2⟩

theorem infoStep : (Tryd.prog.info? 65).map (fun i => (i.zero, i.size, i.bytes)) = some (some (.agg #[.int .i64 0, .int .u64 0, .int .u64 0]), 3, 24) := by kernel_rfl
theorem infoRStep : (Tryd.prog.info? 134).map (fun i => (i.zero, i.size, i.bytes)) = some (some (.agg #[.int .i64 0, .int .u64 0, .int .u64 0]), 3, 24) := by kernel_rfl

theorem three_cells (w : World) (x y z : Value) (t : TypeId) : ∀ j u, [x, y, z][j]? = some u → (w.alloc (.cells #[x, y, z] t)).cell? ((⟨w.heap.size, 0, none⟩ : Addr).add j) = some u := by
  intro j u hj
  match j, hj with
  | 0, hj => simp at hj; subst hj; simp [Addr.add]
  | 1, hj => simp at hj; subst hj; simp [Addr.add]
  | 2, hj => simp at hj; subst hj; simp [Addr.add]
theorem three_one (l s x : Int) : ∀ u ∈ [Value.int .i64 l, Value.int .u64 s, Value.int .u64 x], u.oneCell' = true := by
  intro u hu
  simp at hu
  rcases hu with rfl | rfl | rfl <;> rfl
end Go.Proofs.YtiihhlmddmicjaaDoor
