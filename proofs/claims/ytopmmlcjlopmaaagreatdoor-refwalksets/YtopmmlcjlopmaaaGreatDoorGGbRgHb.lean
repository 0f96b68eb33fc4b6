/- Several texts of ours in one: Gb, Rg, Hb. -/
import Derived.Test.YtopmmlcjlopmaaaGreatDoorGHaGmGa
import Derived.Test.YtopmmlcjlopmaaaGreatDoorGKpFbFh
import Derived.Deep.RegionHeld
import Derived.Deep.DrawnRows
import Derived.Deep.RegionHeld3
import Derived.Deep.LoopGhost
/- Contracts of package right: And, May, Code. -/
namespace Go.Proofs.YtopmmlcjlopmaaaGreatDoor
set_option linter.unusedVariables false
set_option linter.unusedSimpArgs false
open Go.ChangeShapes Go.WideShapes Go.ChangeAt Go.RowKit Go.Joins

theorem and_b1 (y : Int) : (bits .and .u64 y 2 != 0) = bitF y 1 := has_b1 y
theorem and_b2 (y : Int) : (bits .and .u64 y 4 != 0) = bitF y 2 := has_b2 y
theorem and_b63 (y : Int) : (bits .and .u64 y 9223372036854775808 == 0) = !bitF y 63 := by
  rw [← has_b63]; unfold hasF bne; simp

theorem last_obj2 (w : World) (a b : Obj) : ((w.alloc a).alloc b).heap[w.heap.size + 1]? = some b := by
  have h := last_obj (w.alloc a) b
  rwa [show (w.alloc a).heap.size = w.heap.size + 1 by simp] at h

/-- what is left of a right behind a word -/
abbrev andV (w u x : Bool) (y : Int) : Value := rgtV (w && bitF y 1) (u && bitF y 2) (x && !bitF y 63)

set_option maxRecDepth 100000 in
set_option maxHeartbeats 1600000 in
theorem and_any (w u x : Bool) (y : Int) (W : World) :
    Calls Tryz.prog 60 #[rgtV w u x, .int .u64 y] W fun e W' => e = .returned (andV w u x y) ∧ Below W.heap.size W W' := by
  have e1 := Lib.hid (and_b1 y)
  have e2 := Lib.hid (and_b2 y)
  have e3 := Lib.hid (and_b63 y)
  cases w <;> cases u <;> cases x
  all_goals
    go_enter Tryz.func60, Tryz.ntmps60
    go_wp2
    refine bodyPost_ret (results_cell_row rfl _ _ (W.heap.size + 1) _ _ _ _ rfl (last_obj2 _ _ _) Tryz.underlying35 rfl rfl) rfl ⟨ret_val ?_, below2 _ _ _⟩
    simp [e1.out, e2.out, e3.out]

/-- a right, an access, a control lie in block g -/
abbrev RgtAt (w : World) (g : Nat) (a b c : Bool) : Prop := w.cell? ⟨g, 0, none⟩ = some (.bool a) ∧ w.cell? ⟨g, 1, none⟩ = some (.bool b) ∧ w.cell? ⟨g, 2, none⟩ = some (.bool c)
abbrev AccAt (w : World) (g : Nat) (k : Int) (b c : Bool) : Prop := w.cell? ⟨g, 0, none⟩ = some (.int .i64 k) ∧ w.cell? ⟨g, 1, none⟩ = some (.bool b) ∧ w.cell? ⟨g, 2, none⟩ = some (.bool c)
abbrev CtlAt (w : World) (g : Nat) (a b c d : Bool) : Prop := w.cell? ⟨g, 0, none⟩ = some (.bool a) ∧ w.cell? ⟨g, 1, none⟩ = some (.bool b) ∧ w.cell? ⟨g, 2, none⟩ = some (.bool c) ∧ w.cell? ⟨g, 3, none⟩ = some (.bool d)

theorem rgt_keep {w1 w2 : World} {g : Nat} {a b c : Bool} (h : RgtAt w1 g a b c) (hg : g < w1.heap.size) (hk : Kept w1 w2) : RgtAt w2 g a b c :=
  ⟨hk.cell h.1 hg, hk.cell h.2.1 hg, hk.cell h.2.2 hg⟩
theorem acc_keep {w1 w2 : World} {g : Nat} {k : Int} {b c : Bool} (h : AccAt w1 g k b c) (hg : g < w1.heap.size) (hk : Kept w1 w2) : AccAt w2 g k b c :=
  ⟨hk.cell h.1 hg, hk.cell h.2.1 hg, hk.cell h.2.2 hg⟩
theorem ctl_keep {w1 w2 : World} {g : Nat} {a b c d : Bool} (h : CtlAt w1 g a b c d) (hg : g < w1.heap.size) (hk : Kept w1 w2) : CtlAt w2 g a b c d :=
  ⟨hk.cell h.1 hg, hk.cell h.2.1 hg, hk.cell h.2.2.1 hg, hk.cell h.2.2.2 hg⟩
theorem kept_alloc (w : World) (o : Obj) : Kept w (w.alloc o) := below_alloc1 _ _
theorem rgt_new (w : World) (a b c : Bool) (t : TypeId) : RgtAt (w.alloc (.cells #[.bool a, .bool b, .bool c] t)) w.heap.size a b c := by refine ⟨?_, ?_, ?_⟩ <;> simp
theorem acc_new (w : World) (k : Int) (b c : Bool) (t : TypeId) : AccAt (w.alloc (.cells #[.int .i64 k, .bool b, .bool c] t)) w.heap.size k b c := by refine ⟨?_, ?_, ?_⟩ <;> simp
theorem ctl_new (w : World) (a b c d : Bool) (t : TypeId) : CtlAt (w.alloc (.cells #[.bool a, .bool b, .bool c, .bool d] t)) w.heap.size a b c d := by refine ⟨?_, ?_, ?_, ?_⟩ <;> simp

/-- three boxes, and what was made behind them -/
theorem boxes {w w1 : World} {W U X user ac wp nxe smep smap : Bool} {k : Int} {t1 t2 t3 : TypeId}
    (hb : Below (((w.alloc (.cells #[.bool W, .bool U, .bool X] t1)).alloc (.cells #[.int .i64 k, .bool user, .bool ac] t2)).alloc (.cells #[.bool wp, .bool nxe, .bool smep, .bool smap] t3)).heap.size (((w.alloc (.cells #[.bool W, .bool U, .bool X] t1)).alloc (.cells #[.int .i64 k, .bool user, .bool ac] t2)).alloc (.cells #[.bool wp, .bool nxe, .bool smep, .bool smap] t3)) w1) :
    RgtAt w1 w.heap.size W U X ∧ AccAt w1 (w.heap.size + 1) k user ac ∧ CtlAt w1 (w.heap.size + 2) wp nxe smep smap := by
  have e1 : ∀ o, (w.alloc o).heap.size = w.heap.size + 1 := fun o => by simp
  have e2 : ∀ o o', ((w.alloc o).alloc o').heap.size = w.heap.size + 2 := fun o o' => by simp
  have e3 : ∀ o o' o'', (((w.alloc o).alloc o').alloc o'').heap.size = w.heap.size + 3 := fun o o' o'' => by simp
  refine ⟨rgt_keep (rgt_keep (rgt_keep (rgt_new w W U X t1) ?_ (kept_alloc _ _)) ?_ (kept_alloc _ _)) ?_ hb, ?_, ?_⟩
  · rw [e1]; omega
  · rw [e2]; omega
  · rw [e3]; omega
  · have h := acc_new (w.alloc (.cells #[.bool W, .bool U, .bool X] t1)) k user ac t2
    rw [e1] at h
    exact acc_keep (acc_keep h (by rw [e2]; omega) (kept_alloc _ _)) (by rw [e3]; omega) hb
  · have h := ctl_new ((w.alloc (.cells #[.bool W, .bool U, .bool X] t1)).alloc (.cells #[.int .i64 k, .bool user, .bool ac] t2)) wp nxe smep smap t3
    rw [e2] at h
    exact ctl_keep h (by rw [e3]; omega) hb

set_option maxHeartbeats 1600000 in
theorem may_any (W U X : Bool) (k : Int) (user ac wp nxe smep smap : Bool) (w : World) :
    Calls Tryz.prog 65 #[rgtV W U X, accV k user ac, ctlV wp nxe smep smap] w fun e w' => e = .returned (.bool (mayF W U X k user ac wp smep smap)) ∧ Below w.heap.size w w' := by
  by_cases h2 : k = 2
  · subst h2
    rw [may2]
    have C := mayW_any W U X 2 user ac wp nxe smep smap
    generalize mayWF W user wp = b at C
    cases b
    · go_enter Tryz.func65, Tryz.ntmps65
      go_wp2_with (go_at_call 103; refine (C _).mono ?_; rintro e w1 ⟨rfl, hb1⟩)
      go_ret
      exact ⟨rfl, (below3 _ _ _ _).trans (hb1.mono (by simp; omega))⟩
    · go_enter Tryz.func65, Tryz.ntmps65
      go_wp2_with fail
      refine (C _).mono ?_
      rintro e w1 ⟨rfl, hb1⟩
      obtain ⟨hA, hB, hC⟩ := boxes hb1
      obtain ⟨a0, a1, a2⟩ := hA
      obtain ⟨b0, b1, b2⟩ := hB
      obtain ⟨c0, c1, c2, c3⟩ := hC
      have B : Hid (Below w.heap.size w w1) := (below3 _ _ _ _).trans (hb1.mono (by simp; omega))
      clear hb1 C
      go_wp2_with (go_at_call 104; refine (mayR_any _ _ _ _ _ _ _ _ _ _ _).mono ?_; rintro e w2 ⟨rfl, hb2⟩)
      go_ret
      exact ⟨rfl, B.out.trans (hb2.mono B.out.size)⟩
  · by_cases h1 : k = 1
    · subst h1
      rw [may1]
      go_enter Tryz.func65, Tryz.ntmps65
      go_wp2_with (go_at_call 104; refine (mayR_any _ _ _ _ _ _ _ _ _ _ _).mono ?_; rintro e w2 ⟨rfl, hb2⟩)
      go_ret
      exact ⟨rfl, (below3 _ _ _ _).trans (hb2.mono (by simp; omega))⟩
    · by_cases h3 : k = 3
      · subst h3
        rw [may3]
        cases X
        · go_enter Tryz.func65, Tryz.ntmps65
          go_wp2
          go_ret
          exact ⟨rfl, below3 _ _ _ _⟩
        · go_enter Tryz.func65, Tryz.ntmps65
          go_wp2_with (go_at_call 105; refine (mayE_any _ _ _ _ _ _ _ _ _ _ _).mono ?_; rintro e w2 ⟨rfl, hb2⟩)
          go_ret
          exact ⟨rfl, (below3 _ _ _ _).trans (hb2.mono (by simp; omega))⟩
      · rw [may0 W U X user ac wp smep smap h1 h2 h3]
        have c1 : (k == 1) = false := by simp [h1]
        have c2 : (k == 2) = false := by simp [h2]
        have c3 : (k == 3) = false := by simp [h3]
        clear h1 h2 h3
        go_enter Tryz.func65, Tryz.ntmps65
        go_wp2
        go_ret
        exact ⟨rfl, below3 _ _ _ _⟩
end Go.Proofs.YtopmmlcjlopmaaaGreatDoor
/- A region that draws its order, driven by hand: operations taken first, calls branched over, the condition S changed on the way. Nothing of the program. -/
namespace Go.Proofs.YtopmmlcjlopmaaaGreatDoor
set_option linter.unusedVariables false
set_option linter.unusedSimpArgs false
open Go

section
variable {P : Program} {ops : Array Oper} {Q : Exit → Act → World → Prop} {md : Region.Mode} {S S' : World → Prop}

theorem at_of_drop {α : Type} {l : List α} {i : Nat} {o : α} {r : List α} (h : l.drop i = o :: r) : l[i]? = some o := by
  have := congrArg (fun l => l[0]?) h
  simpa [List.getElem?_drop] using this

/-- number i, which stands at the head of what is left of the list, is taken first -/
theorem anyH_take {i : Nat} {oi : Oper} {rest : List Oper} {v : Value} {fuel : Nat} {listed : Array Bool} {a : Act} {w : World} (hi : ops.toList.drop i = oi :: rest)
    (hs : Region.noSelect ops = true) (hf : Region.free md ops listed i = true) (hr : (Region.ready md ops listed).contains i = true)
    (hQ : ∀ c a w, Q (.panic c) (a.put oi.dst v) w → Q (.panic c) a w) (hwt : Region.wanted oi (yielded ops a.tmps) = true) (hS : S w)
    (hy : ∀ w, S w → (execOp a.eval oi).run P w = .ok (.value v) w)
    (h : wpAnyH P md ops Q S fuel (listed.setIfInBounds i true) (a.put oi.dst v) w) : wpAnyH P md ops Q S (fuel + 1) listed a w :=
  wpAnyH_take (by simpa using at_of_drop hi) hs hf hr hQ (Or.inl ⟨hwt, hy⟩) hS h

theorem anyH_one {i : Nat} {o : Oper} {l : List Oper} {fuel : Nat} {listed : Array Bool} {a : Act} {w : World} {rs : List Nat} (ho : ops.toList.drop i = o :: l)
    (h : ∀ K' : Act → World → Prop, Shut (∀ a w, S w → (S w → wpAnyH P md ops Q S fuel (listed.setIfInBounds i true) a w) → K' a w) → if Region.wanted o (yielded ops a.tmps) = true then Oper.wp P o a w K' Q else K' (a.put o.dst undef) w)
    (hs : AllReadyH P md ops Q S fuel listed a w rs) : AllReadyH P md ops Q S fuel listed a w (i :: rs) :=
  AllReadyH.cons (by simpa using at_of_drop ho) h hs
end

end Go.Proofs.YtopmmlcjlopmaaaGreatDoor
/- Contracts of package walk: isLevel, Top, below; blocks of five and of seven cells. -/
namespace Go.Proofs.YtopmmlcjlopmaaaGreatDoor
set_option linter.unusedVariables false
set_option linter.unusedSimpArgs false
open Go.ChangeShapes Go.WideShapes Go.ChangeAt Go.RowKit Go.Joins

abbrev placeV (lev t : Int) (W U X : Bool) : Value := .agg #[.int .i64 lev, .int .u64 t, .bool W, .bool U, .bool X]
abbrev pathV (v : Value) (y : Int) (W U X : Bool) (lev fr : Int) : Value := .agg #[v, .int .i64 y, .bool W, .bool U, .bool X, .int .i64 lev, .int .u64 fr]

/-- block b is a row of these cells -/
def Blk (w : World) (b : Nat) (cs : Array Value) (t : TypeId) : Prop := w.heap[b]? = some (.cells cs t (0, 0))

section
variable {w w' : World} {b : Nat} {t : TypeId} {x0 x1 x2 x3 x4 x5 x6 y0 y1 y2 y3 y4 y5 y6 : Value} {cs : Array Value}

theorem Blk.lt (h : Blk w b cs t) : b < w.heap.size := lt_of_block h
theorem Blk.new (w : World) (cs : Array Value) (t : TypeId) : Blk (w.alloc (.cells cs t)) w.heap.size cs t := Deep.blk_alloc_new _ _
theorem Blk.below (h : Blk w b cs t) (hb : Below w.heap.size w w') : Blk w' b cs t := (hb.block b h.lt).trans h
theorem Blk.alloc (h : Blk w b cs t) (o : Obj) : Blk (w.alloc o) b cs t := (Deep.blk_alloc_lt _ _ _ h.lt).trans h
theorem Blk.turn {F : Nat → Prop} (h : Blk w b cs t) (ht : Turn F w w') (hn : ¬ F b) : Blk w' b cs t := (ht.block b h.lt hn).trans h
theorem Blk.drew (h : Blk w b cs t) : Blk w.drew b cs t := h

theorem Blk.five (h : Blk w b #[x0, x1, x2, x3, x4] t) : w.cell? ⟨b, 0, none⟩ = some x0 ∧ w.cell? ⟨b, 1, none⟩ = some x1 ∧ w.cell? ⟨b, 2, none⟩ = some x2 ∧ w.cell? ⟨b, 3, none⟩ = some x3 ∧ w.cell? ⟨b, 4, none⟩ = some x4 := by
  unfold Blk at h; simp [World.cell?, h]
theorem Blk.seven (h : Blk w b #[x0, x1, x2, x3, x4, x5, x6] t) : w.cell? ⟨b, 0, none⟩ = some x0 ∧ w.cell? ⟨b, 1, none⟩ = some x1 ∧ w.cell? ⟨b, 2, none⟩ = some x2 ∧ w.cell? ⟨b, 3, none⟩ = some x3 ∧ w.cell? ⟨b, 4, none⟩ = some x4 ∧ w.cell? ⟨b, 5, none⟩ = some x5 ∧ w.cell? ⟨b, 6, none⟩ = some x6 := by
  unfold Blk at h; simp [World.cell?, h]
theorem Blk.fz (h : Blk w b cs t) (i : Nat) : w.frozen? ⟨b, i, none⟩ = false := by
  unfold Blk at h; simp [World.frozen?, h]

theorem Blk.set5 (h : Blk w b #[x0, x1, x2, x3, x4] t) (y0 y1 y2 y3 y4 : Value) : Blk (((((w.setCell ⟨b, 0, none⟩ y0).setCell ⟨b, 1, none⟩ y1).setCell ⟨b, 2, none⟩ y2).setCell ⟨b, 3, none⟩ y3).setCell ⟨b, 4, none⟩ y4) b #[y0, y1, y2, y3, y4] t := by
  unfold Blk at *; simp [World.setCell, Array.getElem?_modify, h]
theorem Blk.set7 (h : Blk w b #[x0, x1, x2, x3, x4, x5, x6] t) (y0 y1 y2 y3 y4 y5 y6 : Value) : Blk (((((((w.setCell ⟨b, 0, none⟩ y0).setCell ⟨b, 1, none⟩ y1).setCell ⟨b, 2, none⟩ y2).setCell ⟨b, 3, none⟩ y3).setCell ⟨b, 4, none⟩ y4).setCell ⟨b, 5, none⟩ y5).setCell ⟨b, 6, none⟩ y6) b #[y0, y1, y2, y3, y4, y5, y6] t := by
  unfold Blk at *; simp [World.setCell, Array.getElem?_modify, h]
theorem Blk.set1 (h : Blk w b cs t) (i : Nat) (y : Value) : Blk (w.setCell ⟨b, i, none⟩ y) b (cs.setIfInBounds i y) t := by
  unfold Blk at *; simp [World.setCell, Array.getElem?_modify, h]

theorem turn1 (w : World) (b i : Nat) (y : Value) : Turn (fun i => i = b) w (w.setCell ⟨b, i, none⟩ y) := Turn.setCell _ _ _ _ rfl
theorem Turn.and {w2 : World} {F : Nat → Prop} (h : Turn F w w') (k : Turn F w' w2) : Turn F w w2 := h.trans (k.mono fun i _ hi => Or.inl hi)
theorem turn5 (w : World) (b : Nat) (y0 y1 y2 y3 y4 : Value) : Turn (fun i => i = b) w (((((w.setCell ⟨b, 0, none⟩ y0).setCell ⟨b, 1, none⟩ y1).setCell ⟨b, 2, none⟩ y2).setCell ⟨b, 3, none⟩ y3).setCell ⟨b, 4, none⟩ y4) :=
  ((((turn1 _ _ _ _).and (turn1 _ _ _ _)).and (turn1 _ _ _ _)).and (turn1 _ _ _ _)).and (turn1 _ _ _ _)
theorem turn7 (w : World) (b : Nat) (y0 y1 y2 y3 y4 y5 y6 : Value) : Turn (fun i => i = b) w (((((((w.setCell ⟨b, 0, none⟩ y0).setCell ⟨b, 1, none⟩ y1).setCell ⟨b, 2, none⟩ y2).setCell ⟨b, 3, none⟩ y3).setCell ⟨b, 4, none⟩ y4).setCell ⟨b, 5, none⟩ y5).setCell ⟨b, 6, none⟩ y6) :=
  (((((((turn1 _ _ _ _).and (turn1 _ _ _ _)).and (turn1 _ _ _ _)).and (turn1 _ _ _ _)).and (turn1 _ _ _ _)).and (turn1 _ _ _ _)).and (turn1 _ _ _ _))
theorem turn_below {w0 : World} {B : Nat} (h : Below B w0 w) (ht : Turn (fun i => i = b) w w') (hb : B ≤ b) (hB : B ≤ w.heap.size) : Below B w0 w' := h.trans (ht.below (fun i hi => by omega) hB)
end

theorem isLevel_any (l : Int) (w : World) :
    Calls Tryz.prog 54 #[.int .i64 l] w fun e w' => e = .returned (.bool (decide (1 ≤ l) && decide (l ≤ 4))) ∧ w = w' := by
  by_cases h1 : 1 ≤ l
  · rw [show (decide (1 ≤ l) && decide (l ≤ 4)) = decide (l ≤ 4) by simp [h1]]
    go_enter Tryz.func54, Tryz.ntmps54
    go_wp2
    go_ret
    exact ⟨rfl, rfl⟩
  · rw [show (decide (1 ≤ l) && decide (l ≤ 4)) = false by simp [h1]]
    have h5 : l < 1 := by omega
    clear h1
    go_enter Tryz.func54, Tryz.ntmps54
    go_wp2
    go_ret
    exact ⟨rfl, rfl⟩

set_option maxRecDepth 100000 in
theorem top_any (r : Int) (w : World) (hr : W64 r) :
    Calls Tryz.prog 30 #[.int .u64 r] w fun e w' => e = .returned (placeV 4 (tableF r) true true true) ∧ Below w.heap.size w w' := by
  go_enter Tryz.func30, Tryz.ntmps30
  go_wp2_with (first | (go_at_call 63; refine (table_any _ _ hr).mono ?_; rintro e w' ⟨rfl, rfl⟩) | (go_at_call 64; refine (all_any _).mono ?_; rintro e w1 ⟨rfl, hb1⟩; have HB := Lib.hid ((Blk.new _ _ _).below hb1); have HW := Lib.hid (Below.trans (below_alloc1 w _) (hb1.mono (by simp))); clear hb1; obtain ⟨c0, c1, c2, c3, c4⟩ := HB.out.five; have f0 := HB.out.fz 0; have f1 := HB.out.fz 1; have f2 := HB.out.fz 2; have f3 := HB.out.fz 3; have f4 := HB.out.fz 4))
  refine bodyPost_ret (results_cell_row rfl _ _ w.heap.size _ _ _ _ rfl (HB.out.set5 _ _ _ _ _) Tryz.underlying83 rfl rfl) rfl ⟨rfl, turn_below HW.out (turn5 _ _ _ _ _ _ _) (Nat.le_refl _) HW.out.size⟩

/- below -/
/-- what the region of below keeps -/
def RegB (w : World) (g : Nat) (x0 x1 x2 x3 x4 : Value) (t : TypeId) (w' : World) : Prop :=
  Blk w' g #[x0, x1, x2, x3, x4] t ∧ (∃ y0 y1 y2 y3 y4, Blk w' (g + 1) #[y0, y1, y2, y3, y4] t) ∧ Kept w w'

section
variable {w w1 w2 w3 : World} {g : Nat} {x0 x1 x2 x3 x4 : Value} {t : TypeId}
theorem regb_step (h : RegB w g x0 x1 x2 x3 x4 t w2) (hk : Kept w2 w3) : RegB w g x0 x1 x2 x3 x4 t w3 := by
  obtain ⟨ha, ⟨y0, y1, y2, y3, y4, hb⟩, hw⟩ := h
  exact ⟨ha.below hk, ⟨y0, y1, y2, y3, y4, hb.below hk⟩, hk.step hw⟩
theorem regb_set (h : RegB w g x0 x1 x2 x3 x4 t w2) (hg : w.heap.size ≤ g) (y0 y1 y2 y3 y4 : Value) : RegB w g x0 x1 x2 x3 x4 t (((((w2.setCell ⟨g + 1, 0, none⟩ y0).setCell ⟨g + 1, 1, none⟩ y1).setCell ⟨g + 1, 2, none⟩ y2).setCell ⟨g + 1, 3, none⟩ y3).setCell ⟨g + 1, 4, none⟩ y4) := by
  obtain ⟨ha, ⟨z0, z1, z2, z3, z4, hb⟩, hw⟩ := h
  exact ⟨ha.turn (turn5 w2 (g + 1) y0 y1 y2 y3 y4) (by omega), ⟨y0, y1, y2, y3, y4, hb.set5 _ _ _ _ _⟩, turn_below hw (turn5 _ _ _ _ _ _ _) (by omega) (Below.size hw)⟩
end

set_option maxRecDepth 100000 in
set_option maxHeartbeats 1600000 in
theorem below_any (lev t x : Int) (W U X : Bool) (w : World) (hx : W64 x) :
    Calls Tryz.prog 62 #[placeV lev t W U X, .int .u64 x] w fun e w' => e = .returned (placeV (IntKind.i64.wrap (lev - 1)) (tableF x) (W && bitF x 1) (U && bitF x 2) (X && !bitF x 63)) ∧ Below w.heap.size w w' := by
  go_enter Tryz.func62, Tryz.ntmps62
  go_wp2
  obtain ⟨w1, hw1⟩ : ∃ w1, (w.alloc (.cells #[.int .i64 lev, .int .u64 t, .bool W, .bool U, .bool X] 83)).alloc (.cells #[.int .i64 0, .int .u64 0, .bool false, .bool false, .bool false] 83) = w1 := ⟨_, rfl⟩
  have HA : Blk w1 w.heap.size #[.int .i64 lev, .int .u64 t, .bool W, .bool U, .bool X] 83 := hw1 ▸ (Blk.new w _ _).alloc _
  have HB : Blk w1 (w.heap.size + 1) #[.int .i64 0, .int .u64 0, .bool false, .bool false, .bool false] 83 := hw1 ▸ last_obj2 w _ _
  have HW : Kept w w1 := hw1 ▸ below2 w _ _
  rw [hw1]
  clear hw1
  have H0 : RegB w w.heap.size (.int .i64 lev) (.int .u64 t) (.bool W) (.bool U) (.bool X) 83 w1.drew := ⟨HA, ⟨_, _, _, _, _, HB⟩, (Kept.drew0 _).step HW⟩
  clear HA HB HW
  refine wp_region_held_drew (S := RegB w w.heap.size (.int .i64 lev) (.int .u64 t) (.bool W) (.bool U) (.bool X) 83) (by kernel_rfl) H0 (fun hHeld => ?_)
  clear H0
  refine anyH_take (i := 0) (v := ?_) rfl (by kernel_rfl) (by kernel_rfl) (by kernel_rfl) (fun _ _ _ h => h) (by rfl) (by assumption) ?_ ?_
  rotate_left
  · intro w hSw
    go_simp
    (try with_reducible rfl)
  (try simp only [Act.put, List.setIfInBounds_toArray, List.set_cons_zero, List.set_cons_succ])
  refine anyH_take (i := 1) (v := ?_) rfl (by kernel_rfl) (by kernel_rfl) (by kernel_rfl) (fun _ _ _ h => h) (by rfl) (by assumption) ?_ ?_
  rotate_left
  · intro w hSw
    obtain ⟨hA, _, _⟩ := hSw
    obtain ⟨c0, c1, c2, c3, c4⟩ := hA.five
    go_simp
    (try with_reducible rfl)
  (try simp only [Act.put, List.setIfInBounds_toArray, List.set_cons_zero, List.set_cons_succ])
  refine anyH_take (i := 2) (v := ?_) rfl (by kernel_rfl) (by kernel_rfl) (by kernel_rfl) (fun _ _ _ h => h) (by rfl) (by assumption) ?_ ?_
  rotate_left
  · intro w hSw
    go_simp
    (try with_reducible rfl)
  (try simp only [Act.put, List.setIfInBounds_toArray, List.set_cons_zero, List.set_cons_succ])
  refine anyH_take (i := 3) (v := ?_) rfl (by kernel_rfl) (by kernel_rfl) (by kernel_rfl) (fun _ _ _ h => h) (by rfl) (by assumption) ?_ ?_
  rotate_left
  · intro w hSw
    go_simp
    (try with_reducible rfl)
  (try simp only [Act.put, List.setIfInBounds_toArray, List.set_cons_zero, List.set_cons_succ])
  refine anyH_take (i := 5) (v := ?_) rfl (by kernel_rfl) (by kernel_rfl) (by kernel_rfl) (fun _ _ _ h => h) (by rfl) (by assumption) ?_ ?_
  rotate_left
  · intro w hSw
    go_simp
    (try with_reducible rfl)
  (try simp only [Act.put, List.setIfInBounds_toArray, List.set_cons_zero, List.set_cons_succ])
  refine anyH_take (i := 6) (v := ?_) rfl (by kernel_rfl) (by kernel_rfl) (by kernel_rfl) (fun _ _ _ h => h) (by rfl) (by assumption) ?_ ?_
  rotate_left
  · intro w hSw
    obtain ⟨hA, _, _⟩ := hSw
    obtain ⟨c0, c1, c2, c3, c4⟩ := hA.five
    go_simp
    (try with_reducible rfl)
  (try simp only [Act.put, List.setIfInBounds_toArray, List.set_cons_zero, List.set_cons_succ])
  refine anyH_take (i := 7) (v := ?_) rfl (by kernel_rfl) (by kernel_rfl) (by kernel_rfl) (fun _ _ _ h => h) (by rfl) (by assumption) ?_ ?_
  rotate_left
  · intro w hSw
    go_simp
    (try with_reducible rfl)
  (try simp only [Act.put, List.setIfInBounds_toArray, List.set_cons_zero, List.set_cons_succ])
  refine wpAnyH_ready (rs := [4]) (by kernel_rfl) (by simp) ?_
  refine anyH_one rfl (fun K hK => ?_) ?_
  · go_simp
    refine (table_any _ _ hx).mono ?_
    rintro e w' ⟨rfl, rfl⟩
    refine hK.out _ _ (hHeld) (fun hHeld => ?_)
    clear hK K
    (try simp only [Act.put, List.setIfInBounds_toArray, List.set_cons_zero, List.set_cons_succ])
    refine wpAnyH_ready (rs := [8]) (by kernel_rfl) (by simp) ?_
    refine anyH_one rfl (fun K hK => ?_) ?_
    · go_simp
      refine (calls_kept (and_any W U X x _)).mono ?_
      rintro e w5 ⟨rfl, hb5⟩
      refine hK.out _ _ (regb_step hHeld hb5) (fun hHeld => ?_)
      clear hK K
      (try simp only [Act.put, List.setIfInBounds_toArray, List.set_cons_zero, List.set_cons_succ])
      refine anyH_take (i := 9) (v := ?_) rfl (by kernel_rfl) (by kernel_rfl) (by kernel_rfl) (fun _ _ _ h => h) (by rfl) (by assumption) ?_ ?_
      rotate_left
      · intro w hSw
        go_simp
        (try with_reducible rfl)
      (try simp only [Act.put, List.setIfInBounds_toArray, List.set_cons_zero, List.set_cons_succ])
      obtain ⟨_, ⟨y0, y1, y2, y3, y4, hb⟩, _⟩ := id hHeld
      have HQ := Lib.hid hb
      obtain ⟨c0, c1, c2, c3, c4⟩ := hb.five
      have f0 := hb.fz 0
      have f1 := hb.fz 1
      have f2 := hb.fz 2
      have f3 := hb.fz 3
      have f4 := hb.fz 4
      clear hb
      refine wpAnyH_ready (rs := [10]) (by kernel_rfl) (by simp) ?_
      refine anyH_one rfl (fun K hK => ?_) ?_
      · go_simp
        refine hK.out _ _ (regb_set hHeld (Nat.le_refl _) _ _ _ _ _) (fun hHeld => ?_)
        clear hK K
        (try simp only [Act.put, List.setIfInBounds_toArray, List.set_cons_zero, List.set_cons_succ])
        refine wpAnyH_done (by kernel_rfl) ?_ _
        go_wp2
        refine bodyPost_ret (results_cell_row rfl _ _ (w.heap.size + 1) _ _ _ _ rfl (HQ.out.set5 _ _ _ _ _) Tryz.underlying83 rfl rfl) rfl ⟨rfl, hHeld.2.2⟩
      exact AllReadyH.nil
    exact AllReadyH.nil
  exact AllReadyH.nil
end Go.Proofs.YtopmmlcjlopmaaaGreatDoor
