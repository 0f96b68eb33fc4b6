/- Several texts of ours in one: Nb, Tp, Cb. -/
import Derived.Test.YtddbjbdhbeijjaaDoorGMmCaNa
import Derived.Test.YtddbjbdhbeijjaaDoorGEaEbGa
import Derived.Test.YtddbjbdhbeijjaaDoorGKpGbMc
import Derived.Test.YtddbjbdhbeijjaaDoorGRsRjBx
import Derived.Test.YtddbjbdhbeijjaaDoorRows
import Derived.ProofKit
import Derived.LaidMore
import Derived.Lib.LaidTab
import Derived.OpenShut
import Derived.Stop.Joined
import Derived.Test.YtddbjbdhbeijjaaDoorGVmRN
import Derived.DeepKeys4
import Derived.WalkSpells
/- Package group: the table of bits; bit, frame, mapped, Has. -/
namespace Go.Proofs.YtddbjbdhbeijjaaDoor
set_option linter.unusedVariables false
set_option linter.unusedSimpArgs false
open Go.ChangeShapes Go.WideShapes Go.ChangeAt Go.RowKit Go.Joins

/-- the table of bits, as it is laid -/
def PagesT (w : World) : Prop :=
  w.cell? ⟨0, 0, none⟩ = some (.int .u8 1) ∧ w.cell? ⟨0, 1, none⟩ = some (.int .u8 2) ∧ w.cell? ⟨0, 2, none⟩ = some (.int .u8 4) ∧ w.cell? ⟨0, 3, none⟩ = some (.int .u8 8) ∧ w.cell? ⟨0, 4, none⟩ = some (.int .u8 16) ∧ w.cell? ⟨0, 5, none⟩ = some (.int .u8 32) ∧ w.cell? ⟨0, 6, none⟩ = some (.int .u8 64) ∧ w.cell? ⟨0, 7, none⟩ = some (.int .u8 128)
theorem pages_lt {w : World} (h : PagesT w) : 0 < w.heap.size := World.block_lt_of_cell? _ _ h.1
theorem pages_keep {w w' : World} {n : Nat} (h : PagesT w) (hb : Below n w w') (hn : w.heap.size ≤ n) : PagesT w' := by
  have hz := pages_lt h
  have hb' : Below w.heap.size w w' := hb.mono hn
  obtain ⟨h0, h1, h2, h3, h4, h5, h6, h7⟩ := h
  exact ⟨(hb'.cell hz).trans h0, (hb'.cell (p := ⟨_, 1, none⟩) hz).trans h1, (hb'.cell (p := ⟨_, 2, none⟩) hz).trans h2, (hb'.cell (p := ⟨_, 3, none⟩) hz).trans h3, (hb'.cell (p := ⟨_, 4, none⟩) hz).trans h4, (hb'.cell (p := ⟨_, 5, none⟩) hz).trans h5, (hb'.cell (p := ⟨_, 6, none⟩) hz).trans h6, (hb'.cell (p := ⟨_, 7, none⟩) hz).trans h7⟩
theorem pages_below {w w' : World} (h : PagesT w) (hb : Below w.heap.size w w') : PagesT w' := pages_keep h hb (Nat.le_refl _)

theorem gbit_any (i : Int) (w : World) (hp : PagesT w) :
    Calls Tryd.prog 45 #[.int .i64 i] w fun e w' => e = .returned (.int .u8 (bit8 i)) ∧ w = w' := by
  obtain ⟨h0, h1, h2, h3, h4, h5, h6, h7⟩ := hp
  by_cases c0 : i < 0
  · have e : bit8 i = 0 := by unfold bit8; rw [if_neg (by omega)]
    rw [e]
    go_enter Tryd.func45, Tryd.ntmps45
    go_wp2
    go_ret
    exact ⟨rfl, rfl⟩
  · by_cases c7 : 8 ≤ i
    · have e : bit8 i = 0 := by unfold bit8; rw [if_neg (by omega)]
      rw [e]
      go_enter Tryd.func45, Tryd.ntmps45
      go_wp2
      go_ret
      exact ⟨rfl, rfl⟩
    · obtain rfl | rfl | rfl | rfl | rfl | rfl | rfl | rfl : i = 0 ∨ i = 1 ∨ i = 2 ∨ i = 3 ∨ i = 4 ∨ i = 5 ∨ i = 6 ∨ i = 7 := by omega
      all_goals
        clear c0 c7
        go_enter Tryd.func45, Tryd.ntmps45
        go_wp2
        go_ret
        exact ⟨rfl, rfl⟩

theorem gframe_any (f i : Int) (w : World) :
    Calls Tryd.prog 46 #[.int .u64 f, .int .i64 i] w fun e w' => e = .returned (.int .u64 (frmF f i)) ∧ w = w' := by
  have e := Lib.hid (frm_code f i)
  go_enter Tryd.func46, Tryd.ntmps46
  go_wp2
  go_ret
  exact ⟨ret_int e.out, rfl⟩

/-- what was seen -/
structure Sn where
  x0 : Int
  x1 : Int
  x2 : Int
  x3 : Int
  x4 : Int
  x5 : Int
  x6 : Int
  x7 : Int
  a : Int
  W : Bool
  U : Bool
  Y : Bool
  b : Int
  n : Bool
abbrev Sn.X (s : Sn) : List Int := [s.x0, s.x1, s.x2, s.x3, s.x4, s.x5, s.x6, s.x7]
abbrev seenC (s : Sn) : Array Value := #[.int .u64 s.x0, .int .u64 s.x1, .int .u64 s.x2, .int .u64 s.x3, .int .u64 s.x4, .int .u64 s.x5, .int .u64 s.x6, .int .u64 s.x7, .int .i64 s.a, .bool s.W, .bool s.U, .bool s.Y, .int .i64 s.b, .bool s.n]
theorem Blk.seen {w : World} {b : Nat} {s : Sn} {t : TypeId} (h : Blk w b (seenC s) t) : w.cell? ⟨b, 0, none⟩ = some (.int .u64 s.x0) ∧ w.cell? ⟨b, 1, none⟩ = some (.int .u64 s.x1) ∧ w.cell? ⟨b, 2, none⟩ = some (.int .u64 s.x2) ∧ w.cell? ⟨b, 3, none⟩ = some (.int .u64 s.x3) ∧ w.cell? ⟨b, 4, none⟩ = some (.int .u64 s.x4) ∧ w.cell? ⟨b, 5, none⟩ = some (.int .u64 s.x5) ∧ w.cell? ⟨b, 6, none⟩ = some (.int .u64 s.x6) ∧ w.cell? ⟨b, 7, none⟩ = some (.int .u64 s.x7) ∧ w.cell? ⟨b, 8, none⟩ = some (.int .i64 s.a) ∧ w.cell? ⟨b, 9, none⟩ = some (.bool s.W) ∧ w.cell? ⟨b, 10, none⟩ = some (.bool s.U) ∧ w.cell? ⟨b, 11, none⟩ = some (.bool s.Y) ∧ w.cell? ⟨b, 12, none⟩ = some (.int .i64 s.b) ∧ w.cell? ⟨b, 13, none⟩ = some (.bool s.n) :=
  ⟨(cell_of_block h 0).trans rfl, (cell_of_block h 1).trans rfl, (cell_of_block h 2).trans rfl, (cell_of_block h 3).trans rfl, (cell_of_block h 4).trans rfl, (cell_of_block h 5).trans rfl, (cell_of_block h 6).trans rfl, (cell_of_block h 7).trans rfl, (cell_of_block h 8).trans rfl, (cell_of_block h 9).trans rfl, (cell_of_block h 10).trans rfl, (cell_of_block h 11).trans rfl, (cell_of_block h 12).trans rfl, (cell_of_block h 13).trans rfl⟩
structure OkS (s : Sn) : Prop where
  h0 : W64 s.x0
  h1 : W64 s.x1
  h2 : W64 s.x2
  h3 : W64 s.x3
  h4 : W64 s.x4
  h5 : W64 s.x5
  h6 : W64 s.x6
  h7 : W64 s.x7
  hb : I64 s.b
  ha : I64 s.a
theorem OkS.at_ {s : Sn} (h : OkS s) (i : Int) : W64 (thW s.X i) := by
  unfold thW
  obtain ⟨h0, h1, h2, h3, h4, h5, h6, h7, _, _⟩ := h
  match hk : i.toNat with
  | 0 => exact h0
  | 1 => exact h1
  | 2 => exact h2
  | 3 => exact h3
  | 4 => exact h4
  | 5 => exact h5
  | 6 => exact h6
  | 7 => exact h7
  | k + 8 => exact w64_zero

/-- a line, by value -/
abbrev lineC (l : Ln) : Array Value := #[.int .u64 l.1, .bool l.2.1, .bool l.2.2.1, .bool l.2.2.2.1, .bool l.2.2.2.2.1, .int .u8 l.2.2.2.2.2]
abbrev lineV (l : Ln) : Value := .agg (lineC l)

theorem at_yes {l : Ln} {i : Int} (h : hasG l i = true) : atG l i = frmF l.1 i := by unfold atG; rw [h]; rfl
theorem at_no {l : Ln} {i : Int} (h : hasG l i = false) : atG l i = 0 := by unfold atG; rw [h]; rfl
theorem ghas_any (l : Ln) (i : Int) (w : World) (hp : PagesT w) (hl : OkL l) :
    Calls Tryd.prog 19 #[lineV l, .int .i64 i] w fun e w' => e = .returned (.tuple #[.int .u64 (atG l i), .bool (hasG l i)]) ∧ Below w.heap.size w w' := by
  have e := has_and hl i
  have hp1 := pages_below hp (below_alloc1 w (.cells (lineC l) 35))
  cases h : hasG l i
  · rw [at_no h]
    rw [show hasM l.2.2.2.2.2 i = false from h] at e
    clear h
    go_enter Tryd.func19, Tryd.ntmps19
    go_wp2
    go_quiet (first | (go_at_call 45; exact quietOf (gbit_any _ _ hp1)))
    go_wp2
    go_ret2
    exact ⟨rfl, below_drewN (below_alloc1 _ _) _⟩
  · rw [at_yes h]
    rw [show hasM l.2.2.2.2.2 i = true from h] at e
    clear h
    go_enter Tryd.func19, Tryd.ntmps19
    go_wp2
    go_quiet (first | (go_at_call 45; exact quietOf (gbit_any _ _ hp1)))
    go_wp2_with (go_at_call 46; refine (gframe_any _ _ _).mono ?_; rintro e w' ⟨rfl, rfl⟩)
    go_ret2
    exact ⟨rfl, below_drewN (below_alloc1 _ _) _⟩
end Go.Proofs.YtddbjbdhbeijjaaDoor
/- Layer 12's table of bits: from the row's condition to the eight cells that the walks ask; the world that the program's own initialiser leaves meets it. -/
namespace Go.Proofs.YtddbjbdhbeijjaaDoor
set_option linter.unusedVariables false
set_option linter.unusedSimpArgs false
open Go.ChangeShapes Go.WideShapes Go.ChangeAt Go.RowKit

theorem gPages : Tryd.prog.globalNamed "dormer/group.pages" = some 0 := by kernel_rfl
theorem tPages : (Tryd.prog.globals[0]?).map (·.type) = some 107 := by kernel_rfl

end Go.Proofs.YtddbjbdhbeijjaaDoor
/- A map with struct keys, as a function from keys to lines. -/
namespace Go.Proofs.YtddbjbdhbeijjaaDoor
set_option linter.unusedVariables false
set_option linter.unusedSimpArgs false
open Go.ChangeShapes Go.WideShapes Go.ChangeAt Go.RowKit
open Go.Maps (Keyed)
open Go.ChangeMaps (setBlock heap_setBlock_same heap_setBlock_other)

def kv (k : Ky) : Value := .agg #[.int .i64 k.1, .int .i64 k.2.1, .int .u64 k.2.2]
def lv (l : Ln) : Value := .agg #[.int .u64 l.1, .bool l.2.1, .bool l.2.2.1, .bool l.2.2.2.1, .bool l.2.2.2.2.1, .int .u8 l.2.2.2.2.2]
/-- what a key can be -/
def OkK (k : Ky) : Prop := I64 k.1 ∧ I64 k.2.1 ∧ W64 k.2.2

theorem kv_inj {k k' : Ky} (h : kv k = kv k') : k = k' := by
  unfold kv at h
  simp at h
  exact Prod.ext h.1 (Prod.ext h.2.1 h.2.2)
theorem laidOutC : laidOutB Tryd.prog = true := by kernel_rfl
theorem keyedK : Keyed Tryd.prog 88 :=
  Maps.Keyed.of_law (deep_law_laid laidOutC (m := 3) (by omega) (of_decide_eq_true (by kernel_rfl)) (by kernel_rfl) (by kernel_rfl))
theorem zeroLine (w : World) : (zeroValue 35).run Tryd.prog w = .ok (lv zL) w := by kernel_rfl

theorem keyOf_kv {k : Ky} (h : OkK k) : ∃ l, keyOf Tryd.prog 88 (kv k) = some l := by
  obtain ⟨p, q, t⟩ := k
  obtain ⟨⟨p0, p1⟩, ⟨q0, q1⟩, ⟨t0, t1⟩⟩ := h
  have hk : Tryd.prog.keyType 88 = true := by kernel_rfl
  have c3 : Tryd.prog.cellsOf 88 = 3 := by kernel_rfl
  have c1 : Tryd.prog.cellsOf 3 = 1 := by kernel_rfl
  have c2 : Tryd.prog.cellsOf 31 = 1 := by kernel_rfl
  have hf : ∀ x y z : Value, (Value.agg #[x, y, z]).formed Tryd.prog 88 = true := fun _ _ _ => by
    simp [Value.formed, Tryd.underlying88, c3]
  have wp : (Lit.int .i64 p).wf = true := WalkArith.wf_i64 ⟨p0, p1⟩
  have wq : (Lit.int .i64 q).wf = true := WalkArith.wf_i64 ⟨q0, q1⟩
  have wt : (Lit.int .u64 t).wf = true := WalkArith.wf_u64 ⟨t0, by have : t < 18446744073709551616 := t1; omega⟩
  have hn : Tryd.prog.types.size = 132 := by kernel_rfl
  have e : ∀ d, Tryd.prog.keyLits (d + 2) 88 [.int .i64 p, .int .i64 q, .int .u64 t] = some [.int .i64 p, .int .i64 q, .int .u64 t] := fun d => by
    simp [Program.keyLits, Tryd.underlying88, Tryd.underlying3, Tryd.underlying31, c1, c2, c3, wp, wq, wt]
  have e2 : Tryd.prog.keyLits (Tryd.prog.types.size + 1) 88 [.int .i64 p, .int .i64 q, .int .u64 t] = some [.int .i64 p, .int .i64 q, .int .u64 t] := by
    obtain ⟨d, hd⟩ : ∃ d : Nat, 132 + 1 = d + 2 := ⟨132 - 1, by omega⟩
    rw [hn, hd]; exact e d
  refine ⟨.string (keyBytes [.int .i64 p, .int .i64 q, .int .u64 t]), ?_⟩
  show keyOf Tryd.prog 88 (.agg #[.int .i64 p, .int .i64 q, .int .u64 t]) = _
  unfold keyOf
  rw [Tryd.underlying88]
  show (if (Tryd.prog.keyType 88 && _) = true then Option.map _ (Tryd.prog.keyLits (Tryd.prog.types.size + 1) 88 [.int .i64 p, .int .i64 q, .int .u64 t]) else none) = _
  rw [hk, hf, e2]
  rfl

/-- which entries stand for the function g -/
def EntIs (es : List MapEntry) (g : Ky → Option Ln) : Prop :=
  (∀ e ∈ es, ∃ k l, OkK k ∧ e.key = kv k ∧ e.val = lv l ∧ g k = some l) ∧ es.Pairwise (fun a b => a.key ≠ b.key) ∧ ∀ k l, g k = some l → ∃ e ∈ es, e.key = kv k ∧ e.val = lv l

/-- block b is a map that holds g -/
def MapAt (w : World) (b : Nat) (g : Ky → Option Ln) : Prop := ∃ es clock, w.heap[b]? = some (.map es clock) ∧ EntIs es.toList g

section
variable {w w' : World} {b : Nat} {g : Ky → Option Ln}

theorem MapAt.lt (h : MapAt w b g) : b < w.heap.size := by
  obtain ⟨es, clock, hb, _⟩ := h
  exact lt_of_block hb
theorem MapAt.same (h : MapAt w b g) (he : w'.heap[b]? = w.heap[b]?) : MapAt w' b g := by
  obtain ⟨es, clock, hb, r⟩ := h
  exact ⟨es, clock, he.trans hb, r⟩
theorem MapAt.made (w : World) : MapAt (w.alloc (.map #[] 0)) w.heap.size (fun _ => none) :=
  ⟨#[], 0, Deep.blk_alloc_new _ _, by simp [EntIs]⟩

theorem EntIs.keys {es : List MapEntry} (h : EntIs es g) : ∀ e ∈ es, ∃ l, keyOf Tryd.prog 88 e.key = some l := fun e he => by
  obtain ⟨k, l, hk, h1, _⟩ := h.1 e he
  rw [h1]
  exact keyOf_kv hk
theorem EntIs.off {es : List MapEntry} (h : EntIs es g) {k : Ky} (hn : ∀ e ∈ es, e.key ≠ kv k) : g k = none := by
  cases hg : g k with
  | none => rfl
  | some l =>
    obtain ⟨e, he, h1, _⟩ := h.2.2 k l hg
    exact absurd h1 (hn e he)
theorem EntIs.on {es : List MapEntry} (h : EntIs es g) {k : Ky} {e : MapEntry} (he : e ∈ es) (hk : e.key = kv k) : ∃ l, e.val = lv l ∧ g k = some l := by
  obtain ⟨k', l, _, h1, h2, h3⟩ := h.1 e he
  have : k = k' := kv_inj (hk.symm.trans h1)
  subst this
  exact ⟨l, h2, h3⟩

theorem MapAt.look (h : MapAt w b g) {k : Ky} (hk : OkK k) :
    (Instr.lookup 92 (.map (some b)) (kv k) true).run Tryd.prog w = .ok (.tuple #[lv ((g k).getD zL), .bool (g k).isSome]) w := by
  obtain ⟨es, clock, hb, hE⟩ := h
  obtain ⟨lit, hl⟩ := keyOf_kv hk
  rcases keyedK.find w hl es.toList hE.keys with ⟨h1, h2⟩ | ⟨j, e0, h1, h2, h3⟩
  · rw [hE.off h2]
    simp [Instr.lookup, run_underlying Tryd.underlying92, MapKept.run_getObj_map hb, keyedK.check w _ hl, h1, zeroLine, Result.andThen]
    rfl
  · obtain ⟨l, e1, e2⟩ := hE.on (List.mem_of_getElem? h2) h3
    rw [e2]
    simp [Instr.lookup, run_underlying Tryd.underlying92, MapKept.run_getObj_map hb, keyedK.check w _ hl, h1, e1, Result.andThen]

theorem turn_setBlock (w : World) (b : Nat) (o : Obj) : Turn (fun i => i = b) w (setBlock w b o) :=
  ⟨rfl, rfl, rfl, by simp [setBlock], fun i _ hi => by unfold setBlock; simp [Array.getElem?_setIfInBounds, Ne.symm hi]⟩

theorem EntIs.push {es : List MapEntry} (h : EntIs es g) {k : Ky} (hk : OkK k) (l : Ln) (clock : Nat) (hn : ∀ e ∈ es, e.key ≠ kv k) : EntIs (es ++ [⟨kv k, lv l, clock⟩]) (updG g k (some l)) := by
  refine ⟨fun e he => ?_, ?_, fun k' l' hg => ?_⟩
  · rcases List.mem_append.1 he with he1 | he
    · obtain ⟨k', l', h1, h2, h3, h4⟩ := h.1 e he1
      refine ⟨k', l', h1, h2, h3, ?_⟩
      unfold updG
      rw [if_neg]
      · exact h4
      · rintro rfl; exact hn e he1 h2
    · simp at he
      subst he
      exact ⟨k, l, hk, rfl, rfl, if_pos rfl⟩
  · refine List.pairwise_append.2 ⟨h.2.1, by simp, fun a ha b hb => ?_⟩
    simp at hb
    subst hb
    exact hn a ha
  · unfold updG at hg
    split at hg
    · rename_i e
      subst e
      simp at hg
      subst hg
      exact ⟨_, List.mem_append.2 (Or.inr (List.mem_singleton.2 rfl)), rfl, rfl⟩
    · obtain ⟨e, he, r⟩ := h.2.2 k' l' hg
      exact ⟨e, List.mem_append.2 (Or.inl he), r⟩

theorem key_apart {es : List MapEntry} (hp : es.Pairwise (fun a b => a.key ≠ b.key)) {i j : Nat} {a c : MapEntry} (hi : es[i]? = some a) (hj : es[j]? = some c) (hne : i ≠ j) : a.key ≠ c.key := by
  obtain ⟨hi', rfl⟩ := List.getElem?_eq_some_iff.1 hi
  obtain ⟨hj', rfl⟩ := List.getElem?_eq_some_iff.1 hj
  rw [List.pairwise_iff_getElem] at hp
  rcases Nat.lt_or_ge i j with h | h
  · exact hp i j hi' hj' h
  · exact (hp j i hj' hi' (by omega)).symm

theorem EntIs.set {es : List MapEntry} (h : EntIs es g) {k : Ky} (hk : OkK k) (l : Ln) {j : Nat} {e0 : MapEntry} (hj : es[j]? = some e0) (h0 : e0.key = kv k) : EntIs (es.set j { e0 with key := kv k, val := lv l }) (updG g k (some l)) := by
  have hjl : j < es.length := (List.getElem?_eq_some_iff.1 hj).1
  have who : ∀ i x, (es.set j { e0 with key := kv k, val := lv l })[i]? = some x → (i = j ∧ x = { e0 with key := kv k, val := lv l }) ∨ (i ≠ j ∧ es[i]? = some x) := fun i x hx => by
    by_cases e : i = j
    · subst e
      rw [List.getElem?_set_self hjl] at hx
      exact Or.inl ⟨rfl, (Option.some.inj hx).symm⟩
    · rw [List.getElem?_set_ne (Ne.symm e)] at hx
      exact Or.inr ⟨e, hx⟩
  refine ⟨fun e he => ?_, ?_, fun k' l' hg => ?_⟩
  · obtain ⟨i, hi⟩ := List.mem_iff_getElem?.1 he
    rcases who i e hi with ⟨_, rfl⟩ | ⟨hne, hx⟩
    · exact ⟨k, l, hk, rfl, rfl, if_pos rfl⟩
    · obtain ⟨k', l', h1, h2, h3, h4⟩ := h.1 e (List.mem_of_getElem? hx)
      refine ⟨k', l', h1, h2, h3, ?_⟩
      unfold updG
      rw [if_neg]
      · exact h4
      · rintro rfl
        exact key_apart h.2.1 hx hj hne (h2.trans h0.symm)
  · rw [List.pairwise_iff_getElem]
    intro i m hi hm him
    have hi' := List.getElem?_eq_getElem hi
    have hm' := List.getElem?_eq_getElem hm
    rcases who i _ hi' with ⟨e1, x1⟩ | ⟨e1, x1⟩
    · rcases who m _ hm' with ⟨e2, _⟩ | ⟨e2, x2⟩
      · omega
      · rw [x1]
        have := key_apart h.2.1 hj x2 (by omega)
        rw [h0] at this
        exact this
    · rcases who m _ hm' with ⟨e2, x2⟩ | ⟨e2, x2⟩
      · rw [x2]
        have := key_apart h.2.1 x1 hj (by omega)
        rw [h0] at this
        exact this
      · exact key_apart h.2.1 x1 x2 (by omega)
  · unfold updG at hg
    split at hg
    · rename_i e
      subst e
      simp at hg
      subst hg
      exact ⟨_, List.mem_of_getElem? (List.getElem?_set_self hjl), rfl, rfl⟩
    · rename_i hne
      obtain ⟨e, he, h1, h2⟩ := h.2.2 k' l' hg
      obtain ⟨i, hi⟩ := List.mem_iff_getElem?.1 he
      have hij : i ≠ j := by
        rintro rfl
        rw [hj] at hi
        simp at hi
        subst hi
        exact hne (kv_inj (h1.symm.trans h0))
      exact ⟨e, List.mem_of_getElem? (by rw [List.getElem?_set_ne (Ne.symm hij)]; exact hi), h1, h2⟩

theorem EntIs.erase {es : List MapEntry} (h : EntIs es g) {k : Ky} {j : Nat} {e0 : MapEntry} (hj : es[j]? = some e0) (h0 : e0.key = kv k) : EntIs (es.eraseIdx j) (updG g k none) := by
  refine ⟨fun e he => ?_, h.2.1.sublist (List.eraseIdx_sublist _ _), fun k' l' hg => ?_⟩
  · obtain ⟨i, hne, hi⟩ := List.mem_eraseIdx_iff_getElem?.1 he
    obtain ⟨k', l', h1, h2, h3, h4⟩ := h.1 e (List.mem_of_getElem? hi)
    refine ⟨k', l', h1, h2, h3, ?_⟩
    unfold updG
    rw [if_neg]
    · exact h4
    · rintro rfl
      exact key_apart h.2.1 hi hj hne (h2.trans h0.symm)
  · unfold updG at hg
    split at hg
    · cases hg
    · rename_i hne
      obtain ⟨e, he, h1, h2⟩ := h.2.2 k' l' hg
      obtain ⟨i, hi⟩ := List.mem_iff_getElem?.1 he
      refine ⟨e, List.mem_eraseIdx_iff_getElem?.2 ⟨i, ?_, hi⟩, h1, h2⟩
      rintro rfl
      rw [hj] at hi
      simp at hi
      subst hi
      exact hne (kv_inj (h1.symm.trans h0))

theorem MapAt.put (h : MapAt w b g) {k : Ky} (hk : OkK k) (l : Ln) :
    ∃ w', (Instr.mapUpdate 92 (.map (some b)) (kv k) (lv l)).run Tryd.prog w = .ok () w' ∧ MapAt w' b (updG g k (some l)) ∧ Turn (fun i => i = b) w w' ∧ w'.heap.size = w.heap.size := by
  obtain ⟨es, clock, hb, hE⟩ := h
  obtain ⟨lit, hl⟩ := keyOf_kv hk
  rcases keyedK.find w hl es.toList hE.keys with ⟨h1, h2⟩ | ⟨j, e0, h1, h2, h3⟩
  · refine ⟨setBlock w b (.map (es.push ⟨kv k, lv l, clock⟩) (clock + 1)), ?_, ⟨_, _, heap_setBlock_same hb _, ?_⟩, turn_setBlock _ _ _, by simp [setBlock]⟩
    · simp [Instr.mapUpdate, run_underlying Tryd.underlying92, MapKept.run_getObj_map hb, keyedK.check w false hl, h1, MapKept.run_setObj_map _ hb, Result.andThen, setBlock]
    · rw [Array.toList_push]
      exact hE.push hk l clock h2
  · have hj : es[j]? = some e0 := by simpa using h2
    refine ⟨setBlock w b (.map (es.modify j (fun e' => { e' with key := kv k, val := lv l })) clock), ?_, ⟨_, _, heap_setBlock_same hb _, ?_⟩, turn_setBlock _ _ _, by simp [setBlock]⟩
    · simp [Instr.mapUpdate, run_underlying Tryd.underlying92, MapKept.run_getObj_map hb, keyedK.check w false hl, h1, hj, h3, keyedK.stays w hl, MapKept.run_setObj_map _ hb, Result.andThen, setBlock]
    · rw [Array.toList_modify, ChangeMaps.modify_eq_set _ _ _ _ h2]
      exact hE.set hk l h2 h3

theorem MapAt.del (h : MapAt w b g) {k : Ky} (hk : OkK k) (ty : TypeId) :
    ∃ w', (Builtin.delete_ #[92, 88] ty #[.map (some b), kv k]).run Tryd.prog w = .ok (.tuple #[]) w' ∧ MapAt w' b (updG g k none) ∧ Turn (fun i => i = b) w w' ∧ w'.heap.size = w.heap.size := by
  obtain ⟨es, clock, hb, hE⟩ := h
  obtain ⟨lit, hl⟩ := keyOf_kv hk
  rcases keyedK.find w hl es.toList hE.keys with ⟨h1, h2⟩ | ⟨j, e0, h1, h2, h3⟩
  · refine ⟨setBlock w b (.map es clock), ?_, ⟨_, _, heap_setBlock_same hb _, ?_⟩, turn_setBlock _ _ _, by simp [setBlock]⟩
    · simp [Builtin.delete_, run_underlying Tryd.underlying92, MapKept.run_getObj_map hb, keyedK.check w _ hl, h1, MapKept.run_setObj_map _ hb, Result.andThen, setBlock]
    · have : updG g k none = g := by
        funext k'
        unfold updG
        split
        · rename_i e; rw [e]; exact (hE.off h2).symm
        · rfl
      rw [this]; exact hE
  · refine ⟨setBlock w b (.map (es.eraseIdxIfInBounds j) clock), ?_, ⟨_, _, heap_setBlock_same hb _, ?_⟩, turn_setBlock _ _ _, by simp [setBlock]⟩
    · simp [Builtin.delete_, run_underlying Tryd.underlying92, MapKept.run_getObj_map hb, keyedK.check w _ hl, h1, MapKept.run_setObj_map _ hb, Result.andThen, setBlock]
    · have hjs : j < es.size := by
        have := (List.getElem?_eq_some_iff.1 h2).1
        simpa using this
      unfold Array.eraseIdxIfInBounds
      rw [dif_pos hjs, Array.toList_eraseIdx]
      exact hE.erase h2 h3

theorem MapAt.clear (h : MapAt w b g) (ty : TypeId) :
    ∃ w', (Builtin.clear_ #[92] ty #[.map (some b)]).run Tryd.prog w = .ok (.tuple #[]) w' ∧ MapAt w' b (fun _ => none) ∧ Turn (fun i => i = b) w w' ∧ w'.heap.size = w.heap.size := by
  obtain ⟨es, clock, hb, hE⟩ := h
  refine ⟨setBlock w b (.map #[] clock), ?_, ⟨_, _, heap_setBlock_same hb _, by simp [EntIs]⟩, turn_setBlock _ _ _, by simp [setBlock]⟩
  simp [Builtin.clear_, run_underlying Tryd.underlying92, MapKept.run_getObj_map hb, MapKept.run_setObj_map _ hb, Result.andThen, setBlock]
end
end Go.Proofs.YtddbjbdhbeijjaaDoor
