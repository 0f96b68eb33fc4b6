/- Several texts of ours in one: Rl, Rs, Rp. -/
import Derived.Test.YtopmmlcjlopmaaaGreatDoorGRfSmHe
import Derived.Laws.AppendOwnNone
import Derived.Laws.ResultCell
import Derived.Test.YtopmmlcjlopmaaaGreatDoorGGbRgHb
import Derived.Test.YtopmmlcjlopmaaaGreatDoorGKpFbFh
import Derived.Deep.RegionHeld3
/- Contracts of package dormerref04: Get, Load. -/
namespace Go.Proofs.YtopmmlcjlopmaaaGreatDoor
set_option linter.unusedVariables false
set_option linter.unusedSimpArgs false
open Go.ChangeShapes Go.WideShapes Go.ChangeAt Go.RowKit Go.Joins

theorem results_cell_tmp2 {fn : Func} {p u x : Tmp} {ty : TypeId} (h : fn.results = #[.cell p ty, .tmp u, .tmp x]) (tmps : Array Value) (P : Program) (w : World) :
    (results fn tmps).run P w =
      ((asAddr (tmps.getD p undef)).run P w).andThen fun a w₁ => ((loadVar ty a).run P w₁).andThen fun v w₂ => .ok (.tuple #[v, tmps.getD u undef, tmps.getD x undef]) w₂ := by
  simp only [results, h]
  simp [Sem.run_bind, Result.andThen]

theorem results_cell1 {fn : Func} {p : Tmp} {ty : TypeId} (h : fn.results = #[.cell p ty]) (tmps : Array Value) (P : Program) (w : World) :
    (results fn tmps).run P w = ((asAddr (tmps.getD p undef)).run P w).andThen fun a w₁ => (loadVar ty a).run P w₁ := by
  simp only [results, h]
  simp [Sem.run_bind]

/-- a block of three cells, as it was laid, in a later world -/
structure Three (w : World) (b : Nat) (x y z : Value) : Prop where
  c0 : w.cell? ⟨b, 0, none⟩ = some x
  c1 : w.cell? ⟨b, 1, none⟩ = some y
  c2 : w.cell? ⟨b, 2, none⟩ = some z
  f0 : w.frozen? ⟨b, 0, none⟩ = false
  f1 : w.frozen? ⟨b, 1, none⟩ = false
  f2 : w.frozen? ⟨b, 2, none⟩ = false

theorem three_of {w : World} {b : Nat} {x y z : Value} {t : TypeId} (h : w.heap[b]? = some (.cells #[x, y, z] t (0, 0))) : Three w b x y z := by
  constructor <;> simp [World.cell?, World.frozen?, h]
theorem three_block {w w' : World} {b : Nat} {x y z : Value} (h : Three w b x y z) (e : w'.heap[b]? = w.heap[b]?) : Three w' b x y z :=
  ⟨(World.cell?_of_block (a := ⟨b, 0, none⟩) e).trans h.c0, (World.cell?_of_block (a := ⟨b, 1, none⟩) e).trans h.c1, (World.cell?_of_block (a := ⟨b, 2, none⟩) e).trans h.c2, (World.frozen?_of_block (a := ⟨b, 0, none⟩) e).trans h.f0, (World.frozen?_of_block (a := ⟨b, 1, none⟩) e).trans h.f1, (World.frozen?_of_block (a := ⟨b, 2, none⟩) e).trans h.f2⟩
theorem three_below {w w' : World} {b B : Nat} {x y z : Value} (h : Three w b x y z) (hb : Below B w w') (hB : b < B) : Three w' b x y z := three_block h (hb.block b hB)
theorem three_new (w : World) (x y z : Value) (t : TypeId) : Three (w.alloc (.cells #[x, y, z] t)) w.heap.size x y z := three_of (Deep.blk_alloc_new _ _)
theorem three_alloc {w : World} {b : Nat} {x y z : Value} (h : Three w b x y z) (hb : b < w.heap.size) (o : Obj) : Three (w.alloc o) b x y z := three_block h (Deep.blk_alloc_lt _ _ _ hb)

/-- v' is v, or new behind w -/
def NewOr (w : World) (v v' : Value) : Prop := v' = v ∨ ∀ i, v'.ownBlock = some i → w.heap.size ≤ i

theorem words_set {w w1 : World} {v : Value} {tr : List Int} (hT : WordsOwn w v tr) (h1 : WordsOwn w1 v tr) {b : Nat} (hb : w.heap.size ≤ b) (i : Nat) (u : Value) : WordsOwn (w1.setCell ⟨b, i, none⟩ u) v tr :=
  ownsRow_setCell_other h1 (fun e => by have := (World.ownsRow.lt hT _ e).2; simp at this; omega) u
theorem app_step {w1 w2 : World} {B : Nat} {o : Obj} {row : Option Nat} (hz : B ≤ w1.heap.size) (hg : (w1.alloc o).grownBy w2 row) (hr : ∀ k, row = some k → B ≤ k) : Below B w1 w2 :=
  ((Below.refl _ w1).alloc hz o).grown hg (by simp; omega) hr
theorem row_set {w1 : World} {base : Nat} {e : TypeId} {size : Nat} {v : Value} {n : Nat} {xs : List Value} (h : w1.ownsRow base e size v n xs) {b : Nat} (hb : b < base) (i : Nat) (u : Value) : (w1.setCell ⟨b, i, none⟩ u).ownsRow base e size v n xs := ownsRow_setCell_below (a := ⟨b, i, none⟩) h hb u
theorem row_zero {w1 : World} {base : Nat} {e : TypeId} {size : Nat} {v : Value} {n : Nat} {xs : List Value} (h : w1.ownsRow base e size v n xs) : w1.ownsRow 0 e size v n xs := by
  refine ⟨h.1, ?_⟩
  rcases h.2 with hn | ⟨g, cap, cur, hv, _, r⟩
  · exact Or.inl hn
  · exact Or.inr ⟨g, cap, cur, hv, Nat.zero_le _, r⟩

theorem loadT_no {M : Int} {tr : List Int} {a : Int} (h : errS M a ≠ 0) : loadT M tr a = tr := if_neg h
theorem peekV_no {M : Int} {f : Int → Int} {a : Int} (h : errS M a ≠ 0) : peekV M f a = 0 := if_neg h

set_option maxRecDepth 100000 in
set_option maxHeartbeats 1000000 in
theorem rLoad_any (M : Int) (vs vt : Value) (L : List (Int × Int)) (tr : List Int) (f : Int → Int) (a : Int) (w : World) (hM : 14 ≤ M ∧ M ≤ 22) (hS : SlotsOwn w vs L) (hl : L.length < 1000000) (hT : WordsOwn w vt tr) (ht : tr.length < 1000000) (hf : Agree f L) (ha : W64 a) :
    Calls Tryz.prog 70 #[.agg #[.int .i64 M, vs, vt], .int .u64 a] w fun e w' => ∃ vt', e = .returned (.tuple #[.agg #[.int .i64 M, vs, vt'], .int .u64 (peekV M f a), .int .i64 (errS M a)]) ∧ WordsOwn w' vt' (loadT M tr a) ∧ NewOr w vt vt' ∧ Below w.heap.size w w' := by
  obtain ⟨A, c, rfl, _⟩ := hS.form
  obtain ⟨A', c', rfl⟩ := own_len hT
  have hne : ∀ (x y z : Value), Below w.heap.size w ((w.alloc (.cells #[.int .i64 M, .slice A L.length c, .slice A' tr.length c'] 45)).alloc (.cells #[x, y, z] 45)) := fun x y z => ((Below.refl _ w).alloc (Nat.le_refl _) _).alloc (by simp) _
  have cl : ∀ {x y z : Value} {w1 : World}, Below ((w.alloc (.cells #[.int .i64 M, .slice A L.length c, .slice A' tr.length c'] 45)).alloc (.cells #[x, y, z] 45)).heap.size ((w.alloc (.cells #[.int .i64 M, .slice A L.length c, .slice A' tr.length c'] 45)).alloc (.cells #[x, y, z] 45)) w1 →
      Three w1 w.heap.size (.int .i64 M) (.slice A L.length c) (.slice A' tr.length c') ∧ Three w1 (w.heap.size + 1) x y z ∧ Hid (Below w.heap.size w w1) ∧ Hid (SlotsOwn w1 (.slice A L.length c) L) ∧ Hid (WordsOwn w1 (.slice A' tr.length c') tr) ∧ Hid (w.heap.size + 2 ≤ w1.heap.size) := fun {x y z w1} hb => by
    have e1 : (w.alloc (.cells #[.int .i64 M, .slice A L.length c, .slice A' tr.length c'] 45)).heap.size = w.heap.size + 1 := by simp
    have h2 := three_new (w.alloc (.cells #[.int .i64 M, .slice A L.length c, .slice A' tr.length c'] 45)) x y z 45
    rw [e1] at h2
    have hs := hb.size
    simp at hs
    exact ⟨three_below (three_alloc (three_new _ _ _ _ _) (by simp) _) hb (by simp; omega), three_below h2 hb (by simp), (hne x y z).trans (hb.mono (by simp; omega)), own_below (own_alloc1 (own_alloc1 hS _) _) hb, own_below (World.ownsRow.alloc (World.ownsRow.alloc hT _) _) hb, show _ ≤ _ by omega⟩
  have HT0 := Lib.hid hT
  by_cases h1 : errS M a = 0
  · rw [show loadT M tr a = tr ++ [a] from if_pos h1]
    have HS : ∀ {x y z : Value}, Hid (SlotsOwn ((w.alloc (.cells #[.int .i64 M, .slice A L.length c, .slice A' tr.length c'] 45)).alloc (.cells #[x, y, z] 45)) (.slice A L.length c) L) := fun {x y z} => own_alloc1 (own_alloc1 hS _) _
    obtain ⟨i0, hi, hz0, hz1, hz2⟩ := info_parts info64
    rcases hT.2 with ⟨hv, hn⟩ | ⟨g, cap, cur, hv, _⟩
    · obtain ⟨rfl, _, rfl⟩ : A' = none ∧ tr.length = 0 ∧ c' = 0 := by simpa using hv
      have e : tr = [] := List.length_eq_zero_iff.1 hn
      subst e
      clear hv hT hn
      go_enter Tryz.func70, Tryz.ntmps70
      go_wp2_with (first | (go_at_call 81; refine (rPeek_any M _ _ L f a _ hM HS.out hl hf ha).mono ?_; rintro e w1 ⟨rfl, hb⟩; obtain ⟨⟨c0, c1, c2, f0, f1, f2⟩, ⟨d0, d1, d2, g0, g1, g2⟩, HW, HO, HT, HZ⟩ := cl hb; have HC := Lib.hid (cl hb); have cA := fun o => (three_alloc HC.out.1 (by have := HZ.out; omega) o).c2; clear hb) | (at_builtin; refine wpList_append_own_none rfl (.tmp 20) (.tmp 22) 43 rfl (w.heap.size + 2) 23 i0 1 Tryz.underlying43 hi _ 0 [] rfl (World.ownsRow_made w1 #[] 0 HZ.out (Nat.zero_le _) rfl) rfl ?_; have HO1 := Lib.hid (World.ownsRow_made (e := 23) (size := 1) (base := w.heap.size + 2) w1 #[] 0 HZ.out (Nat.zero_le _) rfl); have HB1 := Lib.hid ((Below.refl (w.heap.size + 2) w1).alloc HZ.out (.cells #[] 23)); obtain ⟨w2, hw2⟩ : ∃ w2, w1.alloc (.cells #[] 23) = w2 := ⟨_, rfl⟩; rw [hw2] at HO1 HB1 ⊢; clear hw2) | (at_builtin; refine wpList_append_own _ rfl (.tmp 24) (.tmp 26) 43 rfl (w.heap.size + 2) 23 i0 (.int .u64 0) 1 8 Tryz.underlying43 hi hz0 hz1 hz2 rfl (by decide) _ 0 [] rfl (World.ownsRow.alloc HO1.out _) ⟨w2.heap.size, 0, none⟩ 1 1 [.int .u64 a] rfl rfl (cell_one_new _ _ _) (ints_oneCell .u64 [a]) (by unfold maxLen; omega) (by omega) (by have := HZ.out; have := HB1.out.size; simp; omega) ?_; intro v2 w3 hown2 hgrow2 hnil2; obtain ⟨g3, cap3, rfl⟩ := ownsRow_form hown2 (by omega); have HO2 := Lib.hid hown2; have HB2 := Lib.hid (app_step (Nat.le_trans HZ.out HB1.out.size) hgrow2 (fun k hk => (World.ownsRow.lt HO1.out k hk).1)); clear hown2 hgrow2 hnil2; obtain ⟨k0, k1, k2, m0, m1, m2⟩ := three_below HC.out.1 (HB1.out.trans HB2.out) (by omega); obtain ⟨p0, p1, p2, q0, q1, q2⟩ := three_below HC.out.2.1 (HB1.out.trans HB2.out) (by omega)))
      refine bodyPost_ret (v := .tuple #[.agg #[.int .i64 M, .slice A L.length c, .slice (some ⟨g3, 0, none⟩) (1) cap3], .int .u64 (peekV M f a), .int .i64 0]) ?_ rfl ⟨_, by rw [h1], ?_, Or.inr ?_, ?_⟩
      · rw [results_cell_tmp2 rfl]; go_simp
      · have := row_zero (row_set (row_set (row_set (row_set HO2.out (b := w.heap.size) (by omega) 2 (.slice (some ⟨g3, 0, none⟩) (1) cap3)) (b := w.heap.size + 1) (by omega) 0 (.int .i64 M)) (b := w.heap.size + 1) (by omega) 1 (.slice A L.length c)) (b := w.heap.size + 1) (by omega) 2 (.slice (some ⟨g3, 0, none⟩) (1) cap3))
        simpa [WordsOwn] using this
      · intro i hi
        have := (World.ownsRow.lt HO2.out i (by simpa using hi)).1
        omega
      · exact ((((HW.out.trans ((HB1.out.trans HB2.out).mono (by omega))).setCell (by simp) _).setCell (by simp) _).setCell (by simp) _).setCell (by simp) _
    · obtain ⟨rfl, rfl⟩ : A' = some ⟨g, 0, none⟩ ∧ c' = cap := by simpa using hv
      clear hv hT
      go_enter Tryz.func70, Tryz.ntmps70
      go_wp2_with (first | (go_at_call 81; refine (rPeek_any M _ _ L f a _ hM HS.out hl hf ha).mono ?_; rintro e w1 ⟨rfl, hb⟩; obtain ⟨⟨c0, c1, c2, f0, f1, f2⟩, ⟨d0, d1, d2, g0, g1, g2⟩, HW, HO, HT, HZ⟩ := cl hb; have HC := Lib.hid (cl hb); have cA := fun o => (three_alloc HC.out.1 (by have := HZ.out; omega) o).c2; clear hb) | (at_builtin; refine wpList_append_own _ rfl (.tmp 20) (.tmp 22) 43 rfl (w.heap.size + 2) 23 i0 (.int .u64 0) 1 8 Tryz.underlying43 hi hz0 hz1 hz2 rfl (by decide) _ 0 [] rfl (World.ownsRow_made w1 #[] 0 HZ.out (Nat.zero_le _) rfl) ⟨g, 0, none⟩ tr.length c' (tr.map (Value.int .u64)) rfl (by simp) (fun j u hj => (World.ownsRow.alloc HT.out _).cells rfl j u hj) (ints_oneCell .u64 tr) (by unfold maxLen; omega) (by omega) (by have := HZ.out; simp; omega) ?_; intro v1 w2 hown1 hgrow1 hnil1; have HO1 := Lib.hid hown1; have HB1 := Lib.hid (app_step HZ.out hgrow1 (fun k hk => by have e : w1.heap.size = k := Option.some.inj hk; have := HZ.out; omega)); clear hown1 hgrow1 hnil1) | (at_builtin; refine wpList_append_own _ rfl (.tmp 24) (.tmp 26) 43 rfl (w.heap.size + 2) 23 i0 (.int .u64 0) 1 8 Tryz.underlying43 hi hz0 hz1 hz2 rfl (by decide) v1 _ _ rfl (World.ownsRow.alloc HO1.out _) ⟨w2.heap.size, 0, none⟩ 1 1 [.int .u64 a] rfl rfl (cell_one_new _ _ _) (ints_oneCell .u64 [a]) (by unfold maxLen; omega) (by omega) (by have := HZ.out; have := HB1.out.size; simp; omega) ?_; intro v2 w3 hown2 hgrow2 hnil2; obtain ⟨g3, cap3, rfl⟩ := ownsRow_form hown2 (by omega); have HO2 := Lib.hid hown2; have HB2 := Lib.hid (app_step (Nat.le_trans HZ.out HB1.out.size) hgrow2 (fun k hk => (World.ownsRow.lt HO1.out k hk).1)); clear hown2 hgrow2 hnil2; obtain ⟨k0, k1, k2, m0, m1, m2⟩ := three_below HC.out.1 (HB1.out.trans HB2.out) (by omega); obtain ⟨p0, p1, p2, q0, q1, q2⟩ := three_below HC.out.2.1 (HB1.out.trans HB2.out) (by omega)))
      refine bodyPost_ret (v := .tuple #[.agg #[.int .i64 M, .slice A L.length c, .slice (some ⟨g3, 0, none⟩) (tr.length + 1) cap3], .int .u64 (peekV M f a), .int .i64 0]) ?_ rfl ⟨_, by rw [h1], ?_, Or.inr ?_, ?_⟩
      · rw [results_cell_tmp2 rfl]; go_simp
      · have := row_zero (row_set (row_set (row_set (row_set HO2.out (b := w.heap.size) (by omega) 2 (.slice (some ⟨g3, 0, none⟩) (tr.length + 1) cap3)) (b := w.heap.size + 1) (by omega) 0 (.int .i64 M)) (b := w.heap.size + 1) (by omega) 1 (.slice A L.length c)) (b := w.heap.size + 1) (by omega) 2 (.slice (some ⟨g3, 0, none⟩) (tr.length + 1) cap3))
        simpa [WordsOwn] using this
      · intro i hi
        have := (World.ownsRow.lt HO2.out i (by simpa using hi)).1
        omega
      · exact ((((HW.out.trans ((HB1.out.trans HB2.out).mono (by omega))).setCell (by simp) _).setCell (by simp) _).setCell (by simp) _).setCell (by simp) _
  · rw [loadT_no h1, peekV_no h1]
    have b1 : (errS M a != 0) = true := by simpa using h1
    have HS : ∀ {x y z : Value}, Hid (SlotsOwn ((w.alloc (.cells #[.int .i64 M, .slice A L.length c, .slice A' tr.length c'] 45)).alloc (.cells #[x, y, z] 45)) (.slice A L.length c) L) := fun {x y z} => own_alloc1 (own_alloc1 hS _) _
    clear h1
    go_enter Tryz.func70, Tryz.ntmps70
    go_wp2_with (go_at_call 81; refine (rPeek_any M _ _ L f a _ hM HS.out hl hf ha).mono ?_; rintro e w1 ⟨rfl, hb⟩; obtain ⟨⟨c0, c1, c2, f0, f1, f2⟩, ⟨d0, d1, d2, g0, g1, g2⟩, HW, HO, HT, HZ⟩ := cl hb; clear hb)
    refine bodyPost_ret (v := .tuple #[.agg #[.int .i64 M, .slice A L.length c, .slice A' tr.length c'], .int .u64 0, .int .i64 (errS M a)]) ?_ rfl ⟨_, rfl, ?_, Or.inl rfl, ?_⟩
    · rw [results_cell_tmp2 rfl]; go_simp
    · exact words_set HT0.out (words_set HT0.out (words_set HT0.out HT.out (by omega) _ _) (by omega) _ _) (by omega) _ _
    · exact ((HW.out.setCell (by simp) _).setCell (by simp) _).setCell (by simp) _

end Go.Proofs.YtopmmlcjlopmaaaGreatDoor
/- Contracts of package dormerref04: set. -/
namespace Go.Proofs.YtopmmlcjlopmaaaGreatDoor
set_option linter.unusedVariables false
set_option linter.unusedSimpArgs false
open Go.ChangeShapes Go.WideShapes Go.ChangeAt Go.RowKit Go.Joins

def stepL (a x : Int) (s : List (Int × Int) × Bool) (p : Int × Int) : List (Int × Int) × Bool :=
  if p.1 = a then s else if s.2 = false ∧ a < p.1 then ((s.1 ++ [(a, x)]) ++ [p], true) else (s.1 ++ [p], s.2)
def stL (L : List (Int × Int)) (a x : Int) (k : Nat) : List (Int × Int) × Bool := (L.take k).foldl (stepL a x) ([], false)
/-- the slots with x at a -/
def setL (L : List (Int × Int)) (a x : Int) : List (Int × Int) := if (stL L a x L.length).2 then (stL L a x L.length).1 else (stL L a x L.length).1 ++ [(a, x)]

theorem stL_succ (L : List (Int × Int)) (a x : Int) {k : Nat} (hk : k < L.length) : stL L a x (k + 1) = stepL a x (stL L a x k) (L.getD k (0, 0)) := by
  unfold stL
  rw [List.take_add_one, List.foldl_append]
  simp [List.getD, List.getElem?_eq_getElem hk]

def hasL (L : List (Int × Int)) (a : Int) : Bool := L.any fun p => p.1 == a
theorem wordL_append (L K : List (Int × Int)) (a : Int) : wordL (L ++ K) a = if hasL L a then wordL L a else wordL K a := by
  induction L with
  | nil => rfl
  | cons p L ih =>
    by_cases h : p.1 = a
    · simp [wordL, hasL, h]
    · have hb : (p.1 == a) = false := by simpa using h
      have hh : hasL (p :: L) a = hasL L a := by unfold hasL; rw [List.any_cons, hb, Bool.false_or]
      simp only [List.cons_append, wordL, if_neg h, ih, hh]
theorem hasL_append (L K : List (Int × Int)) (a : Int) : hasL (L ++ K) a = (hasL L a || hasL K a) := by simp [hasL]
theorem hasL_one (p : Int × Int) (a : Int) : hasL [p] a = (p.1 == a) := by simp [hasL]

/-- what the loop has made of the slots P: all of them but a; a with x, if it is done -/
structure Made (P : List (Int × Int)) (a x : Int) (s : List (Int × Int) × Bool) : Prop where
  has : ∀ b, b ≠ a → hasL s.1 b = hasL P b
  word : ∀ b, b ≠ a → wordL s.1 b = wordL P b
  done : s.2 = true → hasL s.1 a = true ∧ wordL s.1 a = x
  open_ : s.2 = false → hasL s.1 a = false
  len : s.1.length ≤ P.length + (if s.2 then 1 else 0)

theorem Made.step {P : List (Int × Int)} {a x : Int} {s : List (Int × Int) × Bool} (h : Made P a x s) (p : Int × Int) : Made (P ++ [p]) a x (stepL a x s p) := by
  unfold stepL
  by_cases h1 : p.1 = a
  · rw [if_pos h1]
    refine ⟨fun b hb => ?_, fun b hb => ?_, h.done, h.open_, by have := h.len; simp; omega⟩
    · rw [h.has b hb, hasL_append, hasL_one]; simp [h1, Ne.symm hb]
    · rw [h.word b hb, wordL_append]
      split
      · rfl
      · rename_i hn
        have : wordL P b = 0 := by
          apply wordL_miss
          intro j hj e
          apply hn
          unfold hasL
          rw [List.any_eq_true]
          exact ⟨P.getD j (0, 0), by simp [List.getD, List.getElem?_eq_getElem hj], by simpa using e⟩
        rw [this]; simp [wordL, h1, Ne.symm hb]
  · rw [if_neg h1]
    by_cases h2 : s.2 = false ∧ a < p.1
    · rw [if_pos h2]
      have ho := h.open_ h2.1
      refine ⟨fun b hb => ?_, fun b hb => ?_, fun _ => ⟨?_, ?_⟩, fun e => by simp at e, by have := h.len; simp [h2.1] at this ⊢; omega⟩
      · have hab : (a == b) = false := by simpa using Ne.symm hb
        simp only [hasL_append, hasL_one, h.has b hb, hab, Bool.or_false]
      · have hab : (a == b) = false := by simpa using Ne.symm hb
        simp only [wordL_append, hasL_append, hasL_one, h.has b hb, h.word b hb, hab, Bool.or_false]
        by_cases hp : hasL P b = true
        · rw [if_pos hp, if_pos hp, if_pos hp]
        · rw [if_neg hp, if_neg hp]
      · simp only [hasL_append, hasL_one]
        simp
      · simp only [wordL_append, hasL_append, hasL_one, ho]
        simp [wordL]
    · rw [if_neg h2]
      refine ⟨fun b hb => ?_, fun b hb => ?_, fun e => ?_, fun e => ?_, by have := h.len; simp at this ⊢; omega⟩
      · simp [hasL_append, h.has b hb]
      · simp only [wordL_append, h.has b hb, h.word b hb]
      · have := h.done e
        simp only [wordL_append, hasL_append, this.1]
        simp [this.2]
      · simp [hasL_append, hasL_one, h.open_ e, h1]

theorem made_take (L : List (Int × Int)) (a x : Int) : ∀ k, k ≤ L.length → Made (L.take k) a x (stL L a x k)
  | 0, _ => by
    refine ⟨fun b _ => rfl, fun b _ => rfl, fun e => by simp [stL] at e, fun _ => rfl, by simp [stL]⟩
  | k + 1, hk => by
    have := (made_take L a x k (by omega)).step (L.getD k (0, 0))
    rw [stL_succ L a x (by omega), List.take_add_one]
    simpa [List.getD, List.getElem?_eq_getElem (show k < L.length by omega)] using this

theorem made_all (L : List (Int × Int)) (a x : Int) : Made L a x (stL L a x L.length) := by
  have := made_take L a x L.length (Nat.le_refl _)
  rwa [List.take_length] at this

theorem setL_word (L : List (Int × Int)) (a x b : Int) : wordL (setL L a x) b = if b = a then x else wordL L b := by
  have h := made_all L a x
  unfold setL
  by_cases hd : (stL L a x L.length).2 = true
  · rw [if_pos hd]
    by_cases e : b = a
    · rw [if_pos e, e]; exact (h.done hd).2
    · rw [if_neg e]; exact h.word b e
  · rw [if_neg hd, wordL_append]
    have hd' : (stL L a x L.length).2 = false := by simpa using hd
    by_cases e : b = a
    · rw [if_pos e, e, h.open_ hd']; simp [wordL]
    · rw [if_neg e, h.has b e, h.word b e]
      split
      · rfl
      · rename_i hn
        have : wordL L b = 0 := by
          apply wordL_miss
          intro j hj e'
          apply hn
          unfold hasL
          rw [List.any_eq_true]
          exact ⟨L.getD j (0, 0), by simp [List.getD, List.getElem?_eq_getElem hj], by simpa using e'⟩
        rw [this]; simp [wordL, Ne.symm e]

theorem setL_len (L : List (Int × Int)) (a x : Int) : (setL L a x).length ≤ L.length + 1 := by
  have h := (made_all L a x).len
  unfold setL
  split
  · rename_i hd; simp [hd] at h; exact h
  · rename_i hd; simp [hd] at h; simp; omega

theorem stL_len (L : List (Int × Int)) (a x : Int) {k : Nat} (hk : k ≤ L.length) : (stL L a x k).1.length ≤ L.length + 1 := by
  have h := (made_take L a x k hk).len
  simp at h
  split at h <;> omega

theorem agree_set {f : Int → Int} {L : List (Int × Int)} (h : Agree f L) (s x : Int) : Agree (updF f s x) (setL L (s * 8) x) := by
  intro j
  rw [setL_word]
  unfold updF
  by_cases e : j = s
  · rw [if_pos e, if_pos (by rw [e])]
  · rw [if_neg e, if_neg (by omega)]; exact h j

theorem infoSlot : (Tryz.prog.info? 103).map (fun i => (i.zero, i.size, i.bytes)) = some (some (.agg #[.int .u64 0, .int .u64 0]), 2, 16) := by kernel_rfl

theorem two_new (w : World) (x y : Value) (t : TypeId) : ∀ j u, [x, y][j]? = some u → (w.alloc (.cells #[x, y] t)).cell? ((⟨w.heap.size, 0, none⟩ : Addr).add j) = some u := by
  intro j u hj
  match j, hj with
  | 0, hj => simp at hj; subst hj; simp [Addr.add]
  | 1, hj => simp at hj; subst hj; simp [Addr.add]

theorem two_one (a x : Int) : ∀ u ∈ [Value.int .u64 a, Value.int .u64 x], u.oneCell' = true := by
  intro u hu
  simp at hu
  rcases hu with rfl | rfl <;> rfl

theorem own_more {w : World} {base : Nat} {v : Value} {K : List (Int × Int)} {a x : Int} (h : w.ownsRow base 103 2 v (K.length + 1) (slotCells K ++ [.int .u64 a, .int .u64 x])) : w.ownsRow base 103 2 v (K ++ [(a, x)]).length (slotCells (K ++ [(a, x)])) := by
  rw [slotCells_append]
  simpa [slotCells] using h

/-- the slots' slice that set builds -/
def OwnK (w : World) (base : Nat) (v : Value) (K : List (Int × Int)) : Prop := w.ownsRow base 103 2 v K.length (slotCells K)

theorem OwnK.form {w : World} {base : Nat} {v : Value} {K : List (Int × Int)} (h : OwnK w base v K) : ∃ A c, v = .slice A K.length c := by
  rcases h.2 with ⟨rfl, hn⟩ | ⟨g, cap, cur, rfl, _⟩
  · exact ⟨none, 0, by rw [hn]⟩
  · exact ⟨_, _, rfl⟩

/-- what set's loop keeps: the boxed memory, the result's variable, all that was there -/
def SetRel (w wr : World) (M : Int) (A : Option Addr) (n c : Nat) (A' : Option Addr) (n' c' : Nat) : Prop :=
  Hid (Three wr w.heap.size (.int .i64 M) (.slice A n c) (.slice A' n' c')) ∧ Hid (Three wr (w.heap.size + 1) (.int .i64 0) (.slice none 0 0) (.slice none 0 0)) ∧ Hid (Below w.heap.size w wr) ∧ Hid (w.heap.size + 2 ≤ wr.heap.size)

theorem setRel_start (w : World) (M : Int) (A : Option Addr) (n c : Nat) (A' : Option Addr) (n' c' : Nat) : SetRel w ((w.alloc (.cells #[.int .i64 M, .slice A n c, .slice A' n' c'] 45)).alloc (.cells #[.int .i64 0, .slice none 0 0, .slice none 0 0] 45)) M A n c A' n' c' := by
  have e1 : (w.alloc (.cells #[.int .i64 M, .slice A n c, .slice A' n' c'] 45)).heap.size = w.heap.size + 1 := by simp
  have h2 := three_new (w.alloc (.cells #[.int .i64 M, .slice A n c, .slice A' n' c'] 45)) (.int .i64 0) (.slice none 0 0) (.slice none 0 0) 45
  rw [e1] at h2
  exact ⟨three_alloc (three_new _ _ _ _ _) (by simp) _, h2, ((Below.refl _ w).alloc (Nat.le_refl _) _).alloc (by simp) _, show _ ≤ _ by simp⟩

theorem SetRel.step {w wr w1 : World} {M : Int} {A : Option Addr} {n c : Nat} {A' : Option Addr} {n' c' : Nat} (h : SetRel w wr M A n c A' n' c') (hb : Below (w.heap.size + 2) wr w1) : SetRel w w1 M A n c A' n' c' :=
  ⟨three_below h.1.out hb (by omega), three_below h.2.1.out hb (by omega), h.2.2.1.out.trans (hb.mono (by omega)), Nat.le_trans h.2.2.2.out hb.size⟩

set_option maxRecDepth 100000 in
set_option maxHeartbeats 4000000 in
theorem rsetS_any (M : Int) (vs vt : Value) (L : List (Int × Int)) (tr : List Int) (a x : Int) (w : World) (hS : SlotsOwn w vs L) (hl : L.length < 100000) (hT : WordsOwn w vt tr) :
    Calls Tryz.prog 82 #[.agg #[.int .i64 M, vs, vt], .int .u64 a, .int .u64 x] w fun e w' => ∃ vs', e = .returned (.agg #[.int .i64 M, vs', vt]) ∧ SlotsOwn w' vs' (setL L a x) ∧ (∀ i, vs'.ownBlock = some i → w.heap.size ≤ i) ∧ Below w.heap.size w w' := by
  obtain ⟨A, c, rfl, hcs⟩ := hS.form
  obtain ⟨A', c', rfl⟩ := own_len hT
  obtain ⟨i0, hi, hz0, hz1, hz2⟩ := info_parts infoSlot
  have HC := Lib.hid hcs
  have HT0 := Lib.hid hT
  clear hcs hS hT
  go_enter Tryz.func82, Tryz.ntmps82
  go_wp2
  go_loopw [7, 8, 9] (fun v d i wr => ∃ k : Nat, k ≤ L.length ∧ i = .int .i64 k ∧ d = .bool (stL L a x k).2 ∧ OwnK wr (w.heap.size + 2) v (stL L a x k).1 ∧ SetRel w wr M A L.length c A' tr.length c') (fun _ _ i _ => (L.length - intOf i).toNat)
  case atStart => exact ⟨0, by omega, rfl, rfl, World.ownsRow_nil _ _ _ _, setRel_start _ _ _ _ _ _ _ _⟩
  case round =>
    obtain ⟨k, hk, rfl, rfl, ho, hR⟩ := hrel
    have HO := Lib.hid ho
    have HR := Lib.hid hR
    obtain ⟨HT1, HT2, HB, HZ⟩ : Hid _ ∧ Hid _ ∧ Hid _ ∧ Hid _ := hR
    obtain ⟨p0, p1, p2, p3, p4, p5⟩ := HT1.out
    have HL := Lib.hid (stL_len L a x hk)
    clear ho
    by_cases hlt : k < L.length
    · obtain ⟨g, rfl, b0, b1⟩ := HC.out k hlt
      have HSt := Lib.hid (stL_succ L a x hlt)
      have c0 := (HB.out.cell (cell_lt b0)).trans b0
      have c1 := (HB.out.cell (cell_lt b1)).trans b1
      have HG : Hid (g < w.heap.size + 2) := (by have := cell_lt b0; simp at this; omega : g < w.heap.size + 2)
      clear b0 b1
      generalize L.getD k (0, 0) = pq at *
      by_cases hpa : pq.1 = a
      · have hb : (pq.1 == a) = true := by simpa using hpa
        have E := Lib.hid (show stepL a x (stL L a x k) pq = stL L a x k from if_pos hpa)
        clear hpa
        go_wp2
        go_roundw
        case rel => exact ⟨k + 1, by omega, by go_num, by rw [HSt.out, E.out], by rw [HSt.out, E.out]; exact HO.out, HR.out⟩
        case measure => simp [intOf]; omega
      · have hb : (pq.1 == a) = false := by simpa using hpa
        by_cases hd : (stL L a x k).2 = false
        · by_cases hap : a < pq.1
          · have E := Lib.hid (show stepL a x (stL L a x k) pq = (((stL L a x k).1 ++ [(a, x)]) ++ [pq], true) by unfold stepL; rw [if_neg hpa, if_pos ⟨hd, hap⟩])
            clear hpa
            go_wp2_with (first | (at_builtin; refine wpList_append_own _ rfl (.tmp 37) (.tmp 41) 42 rfl (w.heap.size + 2) 103 i0 _ 2 16 Tryz.underlying42 hi hz0 hz1 hz2 rfl (by decide) _ _ _ rfl (World.ownsRow.alloc HO.out _) ⟨wr.heap.size, 0, none⟩ 1 1 [.int .u64 a, .int .u64 x] rfl rfl (two_new _ _ _ _) (two_one a x) (by have := HL.out; unfold maxLen; omega) (by have := HL.out; omega) (by have := HZ.out; simp; omega) ?_; intro v1 w1 hown1 hgrow1 hnil1; have HO1 := Lib.hid (own_more hown1); have HB1 := Lib.hid (app_step HZ.out hgrow1 (fun k hk => (World.ownsRow.lt HO.out k hk).1)); clear hown1 hgrow1 hnil1; obtain ⟨q0, q1, q2, _, _, _⟩ := three_below HT1.out HB1.out (by omega); have e0 := (HB1.out.cell (p := ⟨g, k * 2, none⟩) HG.out).trans c0; have e1 := (HB1.out.cell (p := ⟨g, k * 2 + 1, none⟩) HG.out).trans c1) | (at_builtin; refine wpList_append_own _ rfl (.tmp 43) (.tmp 49) 42 rfl (w.heap.size + 2) 103 i0 _ 2 16 Tryz.underlying42 hi hz0 hz1 hz2 rfl (by decide) _ _ _ rfl (World.ownsRow.alloc HO1.out _) ⟨w1.heap.size, 0, none⟩ 1 1 [.int .u64 pq.1, .int .u64 pq.2] rfl rfl (two_new _ _ _ _) (two_one _ _) (by have := HL.out; unfold maxLen; simp; omega) (by have := HL.out; simp; omega) (by have := HZ.out; have := HB1.out.size; simp; omega) ?_; intro v2 w2 hown2 hgrow2 hnil2; have HO2 := Lib.hid (own_more hown2); have HB2 := Lib.hid (app_step (Nat.le_trans HZ.out HB1.out.size) hgrow2 (fun k hk => (World.ownsRow.lt HO1.out k hk).1)); clear hown2 hgrow2 hnil2))
            go_roundw
            case rel => exact ⟨k + 1, by omega, by go_num, by rw [HSt.out, E.out], by rw [HSt.out, E.out]; exact HO2.out, HR.out.step (HB1.out.trans HB2.out)⟩
            case measure => simp [intOf]; omega
          · have E := Lib.hid (show stepL a x (stL L a x k) pq = ((stL L a x k).1 ++ [pq], (stL L a x k).2) by unfold stepL; rw [if_neg hpa, if_neg (fun h => hap h.2)])
            have hap' : pq.1 ≤ a := by omega
            clear hpa hap
            go_wp2_with (first | (at_builtin; refine wpList_append_own _ rfl (.tmp 43) (.tmp 49) 42 rfl (w.heap.size + 2) 103 i0 _ 2 16 Tryz.underlying42 hi hz0 hz1 hz2 rfl (by decide) _ _ _ rfl (World.ownsRow.alloc HO.out _) ⟨wr.heap.size, 0, none⟩ 1 1 [.int .u64 pq.1, .int .u64 pq.2] rfl rfl (two_new _ _ _ _) (two_one _ _) (by have := HL.out; unfold maxLen; simp; omega) (by have := HL.out; simp; omega) (by have := HZ.out;  simp; omega) ?_; intro v2 w2 hown2 hgrow2 hnil2; have HO2 := Lib.hid (own_more hown2); have HB2 := Lib.hid (app_step (HZ.out) hgrow2 (fun k hk => (World.ownsRow.lt HO.out k hk).1)); clear hown2 hgrow2 hnil2))
            go_roundw
            case rel => exact ⟨k + 1, by omega, by go_num, by rw [HSt.out, E.out, hd], by rw [HSt.out, E.out]; exact HO2.out, HR.out.step HB2.out⟩
            case measure => simp [intOf]; omega
        · have hd' : (stL L a x k).2 = true := by simpa using hd
          have E := Lib.hid (show stepL a x (stL L a x k) pq = ((stL L a x k).1 ++ [pq], (stL L a x k).2) by unfold stepL; rw [if_neg hpa, if_neg (fun h => hd h.1)])
          clear hpa hd
          go_wp2_with (first | (at_builtin; refine wpList_append_own _ rfl (.tmp 43) (.tmp 49) 42 rfl (w.heap.size + 2) 103 i0 _ 2 16 Tryz.underlying42 hi hz0 hz1 hz2 rfl (by decide) _ _ _ rfl (World.ownsRow.alloc HO.out _) ⟨wr.heap.size, 0, none⟩ 1 1 [.int .u64 pq.1, .int .u64 pq.2] rfl rfl (two_new _ _ _ _) (two_one _ _) (by have := HL.out; unfold maxLen; simp; omega) (by have := HL.out; simp; omega) (by have := HZ.out;  simp; omega) ?_; intro v2 w2 hown2 hgrow2 hnil2; have HO2 := Lib.hid (own_more hown2); have HB2 := Lib.hid (app_step (HZ.out) hgrow2 (fun k hk => (World.ownsRow.lt HO.out k hk).1)); clear hown2 hgrow2 hnil2))
          go_roundw
          case rel => exact ⟨k + 1, by omega, by go_num, by rw [HSt.out, E.out, hd'], by rw [HSt.out, E.out]; exact HO2.out, HR.out.step HB2.out⟩
          case measure => simp [intOf]; omega
    · have e : k = L.length := by omega
      subst e
      obtain ⟨t0, t1, t2, t3, t4, t5⟩ := HT2.out
      by_cases hd : (stL L a x L.length).2 = true
      · have E := Lib.hid (show setL L a x = (stL L a x L.length).1 from if_pos hd)
        obtain ⟨A1, cc, rfl⟩ := OwnK.form HO.out
        go_wp2
        refine bodyPost_ret (v := .agg #[.int .i64 M, .slice A1 (stL L a x L.length).1.length cc, .slice A' tr.length c']) ?_ rfl ⟨_, rfl, ?_, ?_, ?_⟩
        · rw [results_cell1 rfl]; go_simp
        · rw [E.out]; exact row_zero (row_set (row_set (row_set (row_set HO.out (by omega) _ _) (by omega) _ _) (by omega) _ _) (by omega) _ _)
        · intro i hi; have := (World.ownsRow.lt HO.out i hi).1; omega
        · exact (((HB.out.setCell (by simp) _).setCell (by simp) _).setCell (by simp) _).setCell (by simp) _
      · have hd' : (stL L a x L.length).2 = false := by simpa using hd
        have E := Lib.hid (show setL L a x = (stL L a x L.length).1 ++ [(a, x)] from if_neg hd)
        clear hd
        go_wp2_with (first | (at_builtin; refine wpList_append_own _ rfl (.tmp 53) (.tmp 57) 42 rfl (w.heap.size + 2) 103 i0 _ 2 16 Tryz.underlying42 hi hz0 hz1 hz2 rfl (by decide) _ _ _ rfl (World.ownsRow.alloc HO.out _) ⟨wr.heap.size, 0, none⟩ 1 1 [.int .u64 a, .int .u64 x] rfl rfl (two_new _ _ _ _) (two_one a x) (by have := HL.out; unfold maxLen; omega) (by have := HL.out; omega) (by have := HZ.out; simp; omega) ?_; intro v1 w1 hown1 hgrow1 hnil1; have HO1 := Lib.hid (own_more hown1); have HB1 := Lib.hid (app_step HZ.out hgrow1 (fun k hk => (World.ownsRow.lt HO.out k hk).1)); clear hown1 hgrow1 hnil1; obtain ⟨A1, c1, rfl⟩ := OwnK.form HO1.out; obtain ⟨q0, q1, q2, q3, q4, q5⟩ := three_below HT1.out HB1.out (by omega); obtain ⟨r0, r1, r2, r3, r4, r5⟩ := three_below HT2.out HB1.out (by omega)))
        refine bodyPost_ret (v := .agg #[.int .i64 M, .slice A1 ((stL L a x L.length).1 ++ [(a, x)]).length c1, .slice A' tr.length c']) ?_ rfl ⟨_, rfl, ?_, ?_, ?_⟩
        · rw [results_cell1 rfl]; go_simp
        · rw [E.out]; exact row_zero (row_set (row_set (row_set (row_set HO1.out (by omega) _ _) (by omega) _ _) (by omega) _ _) (by omega) _ _)
        · intro i hi; have := (World.ownsRow.lt HO1.out i hi).1; omega
        · exact ((((HB.out.trans (HB1.out.mono (by omega))).setCell (by simp) _).setCell (by simp) _).setCell (by simp) _).setCell (by simp) _

end Go.Proofs.YtopmmlcjlopmaaaGreatDoor
/- Contracts of package dormerref04: Store, Put. -/
namespace Go.Proofs.YtopmmlcjlopmaaaGreatDoor
set_option linter.unusedVariables false
set_option linter.unusedSimpArgs false
open Go.ChangeShapes Go.WideShapes Go.ChangeAt Go.RowKit Go.Joins

def storeL (M : Int) (L : List (Int × Int)) (a x : Int) : List (Int × Int) := if errS M a = 0 then setL L a x else L
theorem agree_store {M : Int} {f : Int → Int} {L : List (Int × Int)} (h : Agree f L) (a x : Int) : Agree (storeS M f a x) (storeL M L a x) := by
  unfold storeS storeL
  by_cases e : errS M a = 0
  · rw [if_pos e, if_pos e]
    have := agree_set h (a / 8) x
    rwa [aligned (errS_in e).2] at this
  · rw [if_neg e, if_neg e]; exact h
theorem storeL_len (M : Int) (L : List (Int × Int)) (a x : Int) : (storeL M L a x).length ≤ L.length + 1 := by
  unfold storeL
  split
  · exact setL_len L a x
  · omega

/-- a boxed memory and a variable for the result, laid one behind the other, in a later world -/
structure Boxed (w w1 : World) (x0 x1 x2 y0 y1 y2 : Value) : Prop where
  box : Three w1 w.heap.size x0 x1 x2
  res : Three w1 (w.heap.size + 1) y0 y1 y2
  below : Below w.heap.size w w1
  size : w.heap.size + 2 ≤ w1.heap.size
  blk : ∃ t, w1.heap[w.heap.size + 1]? = some (.cells #[y0, y1, y2] t (0, 0))

theorem boxed_start (w : World) (x0 x1 x2 y0 y1 y2 : Value) (t u : TypeId) : Boxed w ((w.alloc (.cells #[x0, x1, x2] t)).alloc (.cells #[y0, y1, y2] u)) x0 x1 x2 y0 y1 y2 := by
  have e1 : (w.alloc (.cells #[x0, x1, x2] t)).heap.size = w.heap.size + 1 := by simp
  have h2 := three_new (w.alloc (.cells #[x0, x1, x2] t)) y0 y1 y2 u
  rw [e1] at h2
  exact ⟨three_alloc (three_new _ _ _ _ _) (by simp) _, h2, ((Below.refl _ w).alloc (Nat.le_refl _) _).alloc (by simp) _, by simp, u, by have h3 := Deep.blk_alloc_new (w.alloc (.cells #[x0, x1, x2] t)) (.cells #[y0, y1, y2] u); rwa [e1] at h3⟩
theorem Boxed.step {w w1 w2 : World} {x0 x1 x2 y0 y1 y2 : Value} (h : Boxed w w1 x0 x1 x2 y0 y1 y2) (hb : Below w1.heap.size w1 w2) : Boxed w w2 x0 x1 x2 y0 y1 y2 :=
  ⟨three_below h.box hb (by have := h.size; omega), three_below h.res hb (by have := h.size; omega), h.below.trans (hb.mono h.below.size), Nat.le_trans h.size hb.size, by obtain ⟨t, ht⟩ := h.blk; exact ⟨t, (hb.block _ (by have := h.size; omega)).trans ht⟩⟩

theorem slots_new {w w1 : World} {v : Value} {L : List (Int × Int)} {b : Nat} (h : SlotsOwn w1 v L) (hn : v.ownBlock ≠ some b) (i : Nat) (u : Value) : SlotsOwn (w1.setCell ⟨b, i, none⟩ u) v L := ownsRow_setCell_other (a := ⟨b, i, none⟩) h hn u

theorem slots_keep {w w1 : World} {v : Value} {L : List (Int × Int)} (h0 : SlotsOwn w v L) (hb : Below w.heap.size w w1) : SlotsOwn w1 v L := own_below h0 hb

theorem res3 {w w1 : World} {b : Nat} (hb : w.heap.size ≤ b) (h : Below w.heap.size w w1) (u0 u1 u2 : Value) : Below w.heap.size w (((w1.setCell ⟨b, 0, none⟩ u0).setCell ⟨b, 1, none⟩ u1).setCell ⟨b, 2, none⟩ u2) :=
  ((h.setCell hb _).setCell hb _).setCell hb _

set_option maxRecDepth 100000 in
set_option maxHeartbeats 1000000 in
theorem rStore_any (M : Int) (vs vt : Value) (L : List (Int × Int)) (tr : List Int) (f : Int → Int) (a x : Int) (w : World) (hM : 14 ≤ M ∧ M ≤ 22) (hS : SlotsOwn w vs L) (hl : L.length < 100000) (hT : WordsOwn w vt tr) (hf : Agree f L) (ha : W64 a) :
    Calls Tryz.prog 36 #[.agg #[.int .i64 M, vs, vt], .int .u64 a, .int .u64 x] w fun e w' => ∃ vs', e = .returned (.tuple #[.agg #[.int .i64 M, vs', vt], .int .i64 (errS M a)]) ∧ SlotsOwn w' vs' (storeL M L a x) ∧ NewOr w vs vs' ∧ Below w.heap.size w w' := by
  obtain ⟨A, c, rfl, _⟩ := hS.form
  obtain ⟨A', c', rfl⟩ := own_len hT
  have HS0 := Lib.hid hS
  have HT0 := Lib.hid hT
  have HX := Lib.hid (boxed_start w (.int .i64 M) (.slice A L.length c) (.slice A' tr.length c') (.int .i64 0) (.slice none 0 0) (.slice none 0 0) 45 45)
  clear hS hT
  by_cases h1 : errS M a = 0
  · have E := Lib.hid (show storeL M L a x = setL L a x from if_pos h1)
    go_enter Tryz.func36, Tryz.ntmps36
    go_wp2_with (first | (go_at_call 81; refine (rPeek_any M _ _ L f a _ hM (slots_keep HS0.out HX.out.below) (by omega) hf ha).mono ?_; rintro e w1 ⟨rfl, hb⟩; have HB1 := Lib.hid (HX.out.step hb); clear hb; obtain ⟨c0, c1, c2, f0, f1, f2⟩ := HB1.out.box) | (go_at_call 82; refine (rsetS_any M _ _ L tr a x _ (slots_keep HS0.out HB1.out.below) hl (own_below HT0.out HB1.out.below)).mono ?_; rintro e w2 ⟨vs', rfl, hs2, hn2, hb⟩; obtain ⟨A2, cc, rfl, _⟩ := hs2.form; have HS2 := Lib.hid hs2; have HN2 := Lib.hid hn2; have HB2 := Lib.hid (HB1.out.step hb); clear hb hs2 hn2; obtain ⟨d0, d1, d2, g0, g1, g2⟩ := HB2.out.res))
    refine bodyPost_ret (v := .tuple #[.agg #[.int .i64 M, .slice A2 (setL L a x).length cc, .slice A' tr.length c'], .int .i64 0]) ?_ rfl ⟨_, by rw [h1], ?_, Or.inr ?_, ?_⟩
    · rw [results_cell_tmp rfl]; go_simp
    · rw [E.out]
      have hne : (Value.slice A2 (setL L a x).length cc).ownBlock ≠ some (w.heap.size + 1) := fun e => by have h3 := HN2.out _ e; have h4 := HB1.out.size; omega
      exact slots_new (w := w) (slots_new (w := w) (slots_new (w := w) HS2.out hne _ _) hne _ _) hne _ _
    · intro i hi; have h3 := HN2.out i hi; have h4 := HB1.out.size; omega
    · exact res3 (by omega) HB2.out.below _ _ _
  · have E := Lib.hid (show storeL M L a x = L from if_neg h1)
    have b1 : (errS M a != 0) = true := by simpa using h1
    clear h1
    go_enter Tryz.func36, Tryz.ntmps36
    go_wp2_with (first | (go_at_call 81; refine (rPeek_any M _ _ L f a _ hM (slots_keep HS0.out HX.out.below) (by omega) hf ha).mono ?_; rintro e w1 ⟨rfl, hb⟩; have HB1 := Lib.hid (HX.out.step hb); clear hb; obtain ⟨c0, c1, c2, f0, f1, f2⟩ := HB1.out.box; obtain ⟨d0, d1, d2, g0, g1, g2⟩ := HB1.out.res))
    refine bodyPost_ret (v := .tuple #[.agg #[.int .i64 M, .slice A L.length c, .slice A' tr.length c'], .int .i64 (errS M a)]) ?_ rfl ⟨_, rfl, ?_, Or.inl rfl, ?_⟩
    · rw [results_cell_tmp rfl]; go_simp
    · rw [E.out]; exact slots_keep HS0.out (res3 (by omega) HB1.out.below _ _ _)
    · exact res3 (by omega) HB1.out.below _ _ _

end Go.Proofs.YtopmmlcjlopmaaaGreatDoor
