/- Several texts of ours in one: R, N, Cb. -/
import Derived.Test.YtefllfoilkbboaaGBvABy
import Derived.LoopTactic
import Derived.Lib.Hide
import Derived.Test.YtefllfoilkbboaaGWdMmCa
import Derived.DeepKeys4
import Derived.WalkSpells
/- Contracts of package dormerref01: each answers as package field does. -/
namespace Go.Proofs.Ytefllfoilkbboaa
set_option linter.unusedVariables false
set_option linter.unusedSimpArgs false
open Go.ChangeShapes Go.WideShapes Go.ChangeAt Go.RowKit


end Go.Proofs.Ytefllfoilkbboaa
/- What the calls of package field answer where there is no field; numbers that came in. -/
namespace Go.Proofs.Ytefllfoilkbboaa
set_option linter.unusedVariables false
set_option linter.unusedSimpArgs false
open Go.ChangeShapes Go.WideShapes Go.ChangeAt Go.RowKit

theorem w64_of {a : Int} (h : (Lit.int .u64 a).wf = true) : W64 a := by
  have := bounds_u64 h; unfold W64; omega
theorem i64_of {a : Int} (h : (Lit.int .i64 a).wf = true) : I64 a := bounds_i64 h

end Go.Proofs.Ytefllfoilkbboaa
/- A map with struct keys, as a function from keys to lines. -/
namespace Go.Proofs.Ytefllfoilkbboaa
set_option linter.unusedVariables false
set_option linter.unusedSimpArgs false
open Go.ChangeShapes Go.WideShapes Go.ChangeAt Go.RowKit
open Go.Maps (Keyed)
open Go.ChangeMaps (setBlock heap_setBlock_same heap_setBlock_other)

def kv (k : Ky) : Value := .agg #[.int .i64 k.1, .int .i64 k.2.1, .int .u64 k.2.2]
def lv (l : Ln) : Value := .agg #[.int .u64 l.1, .bool l.2.1, .bool l.2.2.1, .bool l.2.2.2.1, .bool l.2.2.2.2.1, .int .u8 l.2.2.2.2.2]
/-- what a key can be -/
def OkK (k : Ky) : Prop := I64 k.1 ∧ I64 k.2.1 ∧ W64 k.2.2

theorem kv_inj {k k' : Ky} (h : kv k = kv k') : k = k' := by
  unfold kv at h
  simp at h
  exact Prod.ext h.1 (Prod.ext h.2.1 h.2.2)
theorem laidOutC : laidOutB Try.prog = true := by kernel_rfl
theorem keyedK : Keyed Try.prog 34 :=
  Maps.Keyed.of_law (deep_law_laid laidOutC (m := 3) (by omega) (of_decide_eq_true (by kernel_rfl)) (by kernel_rfl) (by kernel_rfl))
theorem zeroLine (w : World) : (zeroValue 38).run Try.prog w = .ok (lv zL) w := by kernel_rfl

theorem keyOf_kv {k : Ky} (h : OkK k) : ∃ l, keyOf Try.prog 34 (kv k) = some l := by
  obtain ⟨p, q, t⟩ := k
  obtain ⟨⟨p0, p1⟩, ⟨q0, q1⟩, ⟨t0, t1⟩⟩ := h
  have hk : Try.prog.keyType 34 = true := by kernel_rfl
  have c3 : Try.prog.cellsOf 34 = 3 := by kernel_rfl
  have c1 : Try.prog.cellsOf 3 = 1 := by kernel_rfl
  have c2 : Try.prog.cellsOf 32 = 1 := by kernel_rfl
  have hf : ∀ x y z : Value, (Value.agg #[x, y, z]).formed Try.prog 34 = true := fun _ _ _ => by
    simp [Value.formed, Try.underlying34, c3]
  have wp : (Lit.int .i64 p).wf = true := WalkArith.wf_i64 ⟨p0, p1⟩
  have wq : (Lit.int .i64 q).wf = true := WalkArith.wf_i64 ⟨q0, q1⟩
  have wt : (Lit.int .u64 t).wf = true := WalkArith.wf_u64 ⟨t0, by have : t < 18446744073709551616 := t1; omega⟩
  have hn : Try.prog.types.size = 93 := by kernel_rfl
  have e : ∀ d, Try.prog.keyLits (d + 2) 34 [.int .i64 p, .int .i64 q, .int .u64 t] = some [.int .i64 p, .int .i64 q, .int .u64 t] := fun d => by
    simp [Program.keyLits, Try.underlying34, Try.underlying3, Try.underlying32, c1, c2, c3, wp, wq, wt]
  have e2 : Try.prog.keyLits (Try.prog.types.size + 1) 34 [.int .i64 p, .int .i64 q, .int .u64 t] = some [.int .i64 p, .int .i64 q, .int .u64 t] := by
    rw [hn]; exact e (93 - 1)
  refine ⟨.string (keyBytes [.int .i64 p, .int .i64 q, .int .u64 t]), ?_⟩
  show keyOf Try.prog 34 (.agg #[.int .i64 p, .int .i64 q, .int .u64 t]) = _
  unfold keyOf
  rw [Try.underlying34]
  show (if (Try.prog.keyType 34 && _) = true then Option.map _ (Try.prog.keyLits (Try.prog.types.size + 1) 34 [.int .i64 p, .int .i64 q, .int .u64 t]) else none) = _
  rw [hk, hf, e2]
  rfl

/-- which entries stand for the function g -/
def EntIs (es : List MapEntry) (g : Ky → Option Ln) : Prop :=
  (∀ e ∈ es, ∃ k l, OkK k ∧ e.key = kv k ∧ e.val = lv l ∧ g k = some l) ∧ es.Pairwise (fun a b => a.key ≠ b.key) ∧ ∀ k l, g k = some l → ∃ e ∈ es, e.key = kv k ∧ e.val = lv l

/-- block b is a map that holds g -/
def MapAt (w : World) (b : Nat) (g : Ky → Option Ln) : Prop := ∃ es clock, w.heap[b]? = some (.map es clock) ∧ EntIs es.toList g

section
variable {w w' : World} {b : Nat} {g : Ky → Option Ln}

theorem MapAt.lt (h : MapAt w b g) : b < w.heap.size := by
  obtain ⟨es, clock, hb, _⟩ := h
  exact lt_of_block hb
theorem MapAt.same (h : MapAt w b g) (he : w'.heap[b]? = w.heap[b]?) : MapAt w' b g := by
  obtain ⟨es, clock, hb, r⟩ := h
  exact ⟨es, clock, he.trans hb, r⟩
theorem MapAt.made (w : World) : MapAt (w.alloc (.map #[] 0)) w.heap.size (fun _ => none) :=
  ⟨#[], 0, Deep.blk_alloc_new _ _, by simp [EntIs]⟩

theorem EntIs.keys {es : List MapEntry} (h : EntIs es g) : ∀ e ∈ es, ∃ l, keyOf Try.prog 34 e.key = some l := fun e he => by
  obtain ⟨k, l, hk, h1, _⟩ := h.1 e he
  rw [h1]
  exact keyOf_kv hk
theorem EntIs.off {es : List MapEntry} (h : EntIs es g) {k : Ky} (hn : ∀ e ∈ es, e.key ≠ kv k) : g k = none := by
  cases hg : g k with
  | none => rfl
  | some l =>
    obtain ⟨e, he, h1, _⟩ := h.2.2 k l hg
    exact absurd h1 (hn e he)
theorem EntIs.on {es : List MapEntry} (h : EntIs es g) {k : Ky} {e : MapEntry} (he : e ∈ es) (hk : e.key = kv k) : ∃ l, e.val = lv l ∧ g k = some l := by
  obtain ⟨k', l, _, h1, h2, h3⟩ := h.1 e he
  have : k = k' := kv_inj (hk.symm.trans h1)
  subst this
  exact ⟨l, h2, h3⟩

theorem MapAt.look (h : MapAt w b g) {k : Ky} (hk : OkK k) :
    (Instr.lookup 66 (.map (some b)) (kv k) true).run Try.prog w = .ok (.tuple #[lv ((g k).getD zL), .bool (g k).isSome]) w := by
  obtain ⟨es, clock, hb, hE⟩ := h
  obtain ⟨lit, hl⟩ := keyOf_kv hk
  rcases keyedK.find w hl es.toList hE.keys with ⟨h1, h2⟩ | ⟨j, e0, h1, h2, h3⟩
  · rw [hE.off h2]
    simp [Instr.lookup, run_underlying Try.underlying66, MapKept.run_getObj_map hb, keyedK.check w _ hl, h1, zeroLine, Result.andThen]
    rfl
  · obtain ⟨l, e1, e2⟩ := hE.on (List.mem_of_getElem? h2) h3
    rw [e2]
    simp [Instr.lookup, run_underlying Try.underlying66, MapKept.run_getObj_map hb, keyedK.check w _ hl, h1, e1, Result.andThen]

theorem turn_setBlock (w : World) (b : Nat) (o : Obj) : Turn (fun i => i = b) w (setBlock w b o) :=
  ⟨rfl, rfl, rfl, by simp [setBlock], fun i _ hi => by unfold setBlock; simp [Array.getElem?_setIfInBounds, Ne.symm hi]⟩

theorem EntIs.push {es : List MapEntry} (h : EntIs es g) {k : Ky} (hk : OkK k) (l : Ln) (clock : Nat) (hn : ∀ e ∈ es, e.key ≠ kv k) : EntIs (es ++ [⟨kv k, lv l, clock⟩]) (updG g k (some l)) := by
  refine ⟨fun e he => ?_, ?_, fun k' l' hg => ?_⟩
  · rcases List.mem_append.1 he with he1 | he
    · obtain ⟨k', l', h1, h2, h3, h4⟩ := h.1 e he1
      refine ⟨k', l', h1, h2, h3, ?_⟩
      unfold updG
      rw [if_neg]
      · exact h4
      · rintro rfl; exact hn e he1 h2
    · simp at he
      subst he
      exact ⟨k, l, hk, rfl, rfl, if_pos rfl⟩
  · refine List.pairwise_append.2 ⟨h.2.1, by simp, fun a ha b hb => ?_⟩
    simp at hb
    subst hb
    exact hn a ha
  · unfold updG at hg
    split at hg
    · rename_i e
      subst e
      simp at hg
      subst hg
      exact ⟨_, List.mem_append.2 (Or.inr (List.mem_singleton.2 rfl)), rfl, rfl⟩
    · obtain ⟨e, he, r⟩ := h.2.2 k' l' hg
      exact ⟨e, List.mem_append.2 (Or.inl he), r⟩

theorem key_apart {es : List MapEntry} (hp : es.Pairwise (fun a b => a.key ≠ b.key)) {i j : Nat} {a c : MapEntry} (hi : es[i]? = some a) (hj : es[j]? = some c) (hne : i ≠ j) : a.key ≠ c.key := by
  obtain ⟨hi', rfl⟩ := List.getElem?_eq_some_iff.1 hi
  obtain ⟨hj', rfl⟩ := List.getElem?_eq_some_iff.1 hj
  rw [List.pairwise_iff_getElem] at hp
  rcases Nat.lt_or_ge i j with h | h
  · exact hp i j hi' hj' h
  · exact (hp j i hj' hi' (by omega)).symm

theorem EntIs.set {es : List MapEntry} (h : EntIs es g) {k : Ky} (hk : OkK k) (l : Ln) {j : Nat} {e0 : MapEntry} (hj : es[j]? = some e0) (h0 : e0.key = kv k) : EntIs (es.set j { e0 with key := kv k, val := lv l }) (updG g k (some l)) := by
  have hjl : j < es.length := (List.getElem?_eq_some_iff.1 hj).1
  have who : ∀ i x, (es.set j { e0 with key := kv k, val := lv l })[i]? = some x → (i = j ∧ x = { e0 with key := kv k, val := lv l }) ∨ (i ≠ j ∧ es[i]? = some x) := fun i x hx => by
    by_cases e : i = j
    · subst e
      rw [List.getElem?_set_self hjl] at hx
      exact Or.inl ⟨rfl, (Option.some.inj hx).symm⟩
    · rw [List.getElem?_set_ne (Ne.symm e)] at hx
      exact Or.inr ⟨e, hx⟩
  refine ⟨fun e he => ?_, ?_, fun k' l' hg => ?_⟩
  · obtain ⟨i, hi⟩ := List.mem_iff_getElem?.1 he
    rcases who i e hi with ⟨_, rfl⟩ | ⟨hne, hx⟩
    · exact ⟨k, l, hk, rfl, rfl, if_pos rfl⟩
    · obtain ⟨k', l', h1, h2, h3, h4⟩ := h.1 e (List.mem_of_getElem? hx)
      refine ⟨k', l', h1, h2, h3, ?_⟩
      unfold updG
      rw [if_neg]
      · exact h4
      · rintro rfl
        exact key_apart h.2.1 hx hj hne (h2.trans h0.symm)
  · rw [List.pairwise_iff_getElem]
    intro i m hi hm him
    have hi' := List.getElem?_eq_getElem hi
    have hm' := List.getElem?_eq_getElem hm
    rcases who i _ hi' with ⟨e1, x1⟩ | ⟨e1, x1⟩
    · rcases who m _ hm' with ⟨e2, _⟩ | ⟨e2, x2⟩
      · omega
      · rw [x1]
        have := key_apart h.2.1 hj x2 (by omega)
        rw [h0] at this
        exact this
    · rcases who m _ hm' with ⟨e2, x2⟩ | ⟨e2, x2⟩
      · rw [x2]
        have := key_apart h.2.1 x1 hj (by omega)
        rw [h0] at this
        exact this
      · exact key_apart h.2.1 x1 x2 (by omega)
  · unfold updG at hg
    split at hg
    · rename_i e
      subst e
      simp at hg
      subst hg
      exact ⟨_, List.mem_of_getElem? (List.getElem?_set_self hjl), rfl, rfl⟩
    · rename_i hne
      obtain ⟨e, he, h1, h2⟩ := h.2.2 k' l' hg
      obtain ⟨i, hi⟩ := List.mem_iff_getElem?.1 he
      have hij : i ≠ j := by
        rintro rfl
        rw [hj] at hi
        simp at hi
        subst hi
        exact hne (kv_inj (h1.symm.trans h0))
      exact ⟨e, List.mem_of_getElem? (by rw [List.getElem?_set_ne (Ne.symm hij)]; exact hi), h1, h2⟩

theorem EntIs.erase {es : List MapEntry} (h : EntIs es g) {k : Ky} {j : Nat} {e0 : MapEntry} (hj : es[j]? = some e0) (h0 : e0.key = kv k) : EntIs (es.eraseIdx j) (updG g k none) := by
  refine ⟨fun e he => ?_, h.2.1.sublist (List.eraseIdx_sublist _ _), fun k' l' hg => ?_⟩
  · obtain ⟨i, hne, hi⟩ := List.mem_eraseIdx_iff_getElem?.1 he
    obtain ⟨k', l', h1, h2, h3, h4⟩ := h.1 e (List.mem_of_getElem? hi)
    refine ⟨k', l', h1, h2, h3, ?_⟩
    unfold updG
    rw [if_neg]
    · exact h4
    · rintro rfl
      exact key_apart h.2.1 hi hj hne (h2.trans h0.symm)
  · unfold updG at hg
    split at hg
    · cases hg
    · rename_i hne
      obtain ⟨e, he, h1, h2⟩ := h.2.2 k' l' hg
      obtain ⟨i, hi⟩ := List.mem_iff_getElem?.1 he
      refine ⟨e, List.mem_eraseIdx_iff_getElem?.2 ⟨i, ?_, hi⟩, h1, h2⟩
      rintro rfl
      rw [hj] at hi
      simp at hi
      subst hi
      exact hne (kv_inj (h1.symm.trans h0))

theorem MapAt.put (h : MapAt w b g) {k : Ky} (hk : OkK k) (l : Ln) :
    ∃ w', (Instr.mapUpdate 66 (.map (some b)) (kv k) (lv l)).run Try.prog w = .ok () w' ∧ MapAt w' b (updG g k (some l)) ∧ Turn (fun i => i = b) w w' ∧ w'.heap.size = w.heap.size := by
  obtain ⟨es, clock, hb, hE⟩ := h
  obtain ⟨lit, hl⟩ := keyOf_kv hk
  rcases keyedK.find w hl es.toList hE.keys with ⟨h1, h2⟩ | ⟨j, e0, h1, h2, h3⟩
  · refine ⟨setBlock w b (.map (es.push ⟨kv k, lv l, clock⟩) (clock + 1)), ?_, ⟨_, _, heap_setBlock_same hb _, ?_⟩, turn_setBlock _ _ _, by simp [setBlock]⟩
    · simp [Instr.mapUpdate, run_underlying Try.underlying66, MapKept.run_getObj_map hb, keyedK.check w false hl, h1, MapKept.run_setObj_map _ hb, Result.andThen, setBlock]
    · rw [Array.toList_push]
      exact hE.push hk l clock h2
  · have hj : es[j]? = some e0 := by simpa using h2
    refine ⟨setBlock w b (.map (es.modify j (fun e' => { e' with key := kv k, val := lv l })) clock), ?_, ⟨_, _, heap_setBlock_same hb _, ?_⟩, turn_setBlock _ _ _, by simp [setBlock]⟩
    · simp [Instr.mapUpdate, run_underlying Try.underlying66, MapKept.run_getObj_map hb, keyedK.check w false hl, h1, hj, h3, keyedK.stays w hl, MapKept.run_setObj_map _ hb, Result.andThen, setBlock]
    · rw [Array.toList_modify, ChangeMaps.modify_eq_set _ _ _ _ h2]
      exact hE.set hk l h2 h3

theorem MapAt.del (h : MapAt w b g) {k : Ky} (hk : OkK k) (ty : TypeId) :
    ∃ w', (Builtin.delete_ #[66, 34] ty #[.map (some b), kv k]).run Try.prog w = .ok (.tuple #[]) w' ∧ MapAt w' b (updG g k none) ∧ Turn (fun i => i = b) w w' ∧ w'.heap.size = w.heap.size := by
  obtain ⟨es, clock, hb, hE⟩ := h
  obtain ⟨lit, hl⟩ := keyOf_kv hk
  rcases keyedK.find w hl es.toList hE.keys with ⟨h1, h2⟩ | ⟨j, e0, h1, h2, h3⟩
  · refine ⟨setBlock w b (.map es clock), ?_, ⟨_, _, heap_setBlock_same hb _, ?_⟩, turn_setBlock _ _ _, by simp [setBlock]⟩
    · simp [Builtin.delete_, run_underlying Try.underlying66, MapKept.run_getObj_map hb, keyedK.check w _ hl, h1, MapKept.run_setObj_map _ hb, Result.andThen, setBlock]
    · have : updG g k none = g := by
        funext k'
        unfold updG
        split
        · rename_i e; rw [e]; exact (hE.off h2).symm
        · rfl
      rw [this]; exact hE
  · refine ⟨setBlock w b (.map (es.eraseIdxIfInBounds j) clock), ?_, ⟨_, _, heap_setBlock_same hb _, ?_⟩, turn_setBlock _ _ _, by simp [setBlock]⟩
    · simp [Builtin.delete_, run_underlying Try.underlying66, MapKept.run_getObj_map hb, keyedK.check w _ hl, h1, MapKept.run_setObj_map _ hb, Result.andThen, setBlock]
    · have hjs : j < es.size := by
        have := (List.getElem?_eq_some_iff.1 h2).1
        simpa using this
      unfold Array.eraseIdxIfInBounds
      rw [dif_pos hjs, Array.toList_eraseIdx]
      exact hE.erase h2 h3

theorem MapAt.clear (h : MapAt w b g) (ty : TypeId) :
    ∃ w', (Builtin.clear_ #[66] ty #[.map (some b)]).run Try.prog w = .ok (.tuple #[]) w' ∧ MapAt w' b (fun _ => none) ∧ Turn (fun i => i = b) w w' ∧ w'.heap.size = w.heap.size := by
  obtain ⟨es, clock, hb, hE⟩ := h
  refine ⟨setBlock w b (.map #[] clock), ?_, ⟨_, _, heap_setBlock_same hb _, by simp [EntIs]⟩, turn_setBlock _ _ _, by simp [setBlock]⟩
  simp [Builtin.clear_, run_underlying Try.underlying66, MapKept.run_getObj_map hb, MapKept.run_setObj_map _ hb, Result.andThen, setBlock]
end
end Go.Proofs.Ytefllfoilkbboaa
