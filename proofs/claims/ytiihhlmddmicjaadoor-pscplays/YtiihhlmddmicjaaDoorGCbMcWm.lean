/- Several texts of ours in one: Cb, Mc, Wm. -/
import Derived.Test.YtiihhlmddmicjaaDoorGWdMmCa
import Derived.Test.YtiihhlmddmicjaaDoorGVmRN
import Derived.DeepKeys4
import Derived.WalkSpells
import Derived.Lib.SliceRun
import Derived.LoopTactic
import Derived.Lib.SmallJoins
/- A map with struct keys, as a function from keys to lines. -/
namespace Go.Proofs.YtiihhlmddmicjaaDoor
set_option linter.unusedVariables false
set_option linter.unusedSimpArgs false
open Go.ChangeShapes Go.WideShapes Go.ChangeAt Go.RowKit
open Go.Maps (Keyed)
open Go.ChangeMaps (setBlock heap_setBlock_same heap_setBlock_other)

def kv (k : Ky) : Value := .agg #[.int .i64 k.1, .int .i64 k.2.1, .int .u64 k.2.2]
def lv (l : Ln) : Value := .agg #[.int .u64 l.1, .bool l.2.1, .bool l.2.2.1, .bool l.2.2.2.1, .bool l.2.2.2.2.1, .int .u8 l.2.2.2.2.2]
/-- what a key can be -/
def OkK (k : Ky) : Prop := I64 k.1 ∧ I64 k.2.1 ∧ W64 k.2.2

theorem kv_inj {k k' : Ky} (h : kv k = kv k') : k = k' := by
  unfold kv at h
  simp at h
  exact Prod.ext h.1 (Prod.ext h.2.1 h.2.2)
theorem laidOutC : laidOutB Tryd.prog = true := by kernel_rfl
theorem keyedK : Keyed Tryd.prog 102 :=
  Maps.Keyed.of_law (deep_law_laid laidOutC (m := 3) (by omega) (of_decide_eq_true (by kernel_rfl)) (by kernel_rfl) (by kernel_rfl))
theorem zeroLine (w : World) : (zeroValue 98).run Tryd.prog w = .ok (lv zL) w := by kernel_rfl

theorem keyOf_kv {k : Ky} (h : OkK k) : ∃ l, keyOf Tryd.prog 102 (kv k) = some l := by
  obtain ⟨p, q, t⟩ := k
  obtain ⟨⟨p0, p1⟩, ⟨q0, q1⟩, ⟨t0, t1⟩⟩ := h
  have hk : Tryd.prog.keyType 102 = true := by kernel_rfl
  have c3 : Tryd.prog.cellsOf 102 = 3 := by kernel_rfl
  have c1 : Tryd.prog.cellsOf 3 = 1 := by kernel_rfl
  have c2 : Tryd.prog.cellsOf 34 = 1 := by kernel_rfl
  have hf : ∀ x y z : Value, (Value.agg #[x, y, z]).formed Tryd.prog 102 = true := fun _ _ _ => by
    simp [Value.formed, Tryd.underlying102, c3]
  have wp : (Lit.int .i64 p).wf = true := WalkArith.wf_i64 ⟨p0, p1⟩
  have wq : (Lit.int .i64 q).wf = true := WalkArith.wf_i64 ⟨q0, q1⟩
  have wt : (Lit.int .u64 t).wf = true := WalkArith.wf_u64 ⟨t0, by have : t < 18446744073709551616 := t1; omega⟩
  have hn : Tryd.prog.types.size = 177 := by kernel_rfl
  have e : ∀ d, Tryd.prog.keyLits (d + 2) 102 [.int .i64 p, .int .i64 q, .int .u64 t] = some [.int .i64 p, .int .i64 q, .int .u64 t] := fun d => by
    simp [Program.keyLits, Tryd.underlying102, Tryd.underlying3, Tryd.underlying34, c1, c2, c3, wp, wq, wt]
  have e2 : Tryd.prog.keyLits (Tryd.prog.types.size + 1) 102 [.int .i64 p, .int .i64 q, .int .u64 t] = some [.int .i64 p, .int .i64 q, .int .u64 t] := by
    obtain ⟨d, hd⟩ : ∃ d : Nat, 177 + 1 = d + 2 := ⟨177 - 1, by omega⟩
    rw [hn, hd]; exact e d
  refine ⟨.string (keyBytes [.int .i64 p, .int .i64 q, .int .u64 t]), ?_⟩
  show keyOf Tryd.prog 102 (.agg #[.int .i64 p, .int .i64 q, .int .u64 t]) = _
  unfold keyOf
  rw [Tryd.underlying102]
  show (if (Tryd.prog.keyType 102 && _) = true then Option.map _ (Tryd.prog.keyLits (Tryd.prog.types.size + 1) 102 [.int .i64 p, .int .i64 q, .int .u64 t]) else none) = _
  rw [hk, hf, e2]
  rfl

/-- which entries stand for the function g -/
def EntIs (es : List MapEntry) (g : Ky → Option Ln) : Prop :=
  (∀ e ∈ es, ∃ k l, OkK k ∧ e.key = kv k ∧ e.val = lv l ∧ g k = some l) ∧ es.Pairwise (fun a b => a.key ≠ b.key) ∧ ∀ k l, g k = some l → ∃ e ∈ es, e.key = kv k ∧ e.val = lv l

/-- block b is a map that holds g -/
def MapAt (w : World) (b : Nat) (g : Ky → Option Ln) : Prop := ∃ es clock, w.heap[b]? = some (.map es clock) ∧ EntIs es.toList g

section
variable {w w' : World} {b : Nat} {g : Ky → Option Ln}

theorem MapAt.lt (h : MapAt w b g) : b < w.heap.size := by
  obtain ⟨es, clock, hb, _⟩ := h
  exact lt_of_block hb
theorem MapAt.same (h : MapAt w b g) (he : w'.heap[b]? = w.heap[b]?) : MapAt w' b g := by
  obtain ⟨es, clock, hb, r⟩ := h
  exact ⟨es, clock, he.trans hb, r⟩
theorem MapAt.made (w : World) : MapAt (w.alloc (.map #[] 0)) w.heap.size (fun _ => none) :=
  ⟨#[], 0, Deep.blk_alloc_new _ _, by simp [EntIs]⟩

theorem EntIs.keys {es : List MapEntry} (h : EntIs es g) : ∀ e ∈ es, ∃ l, keyOf Tryd.prog 102 e.key = some l := fun e he => by
  obtain ⟨k, l, hk, h1, _⟩ := h.1 e he
  rw [h1]
  exact keyOf_kv hk
theorem EntIs.off {es : List MapEntry} (h : EntIs es g) {k : Ky} (hn : ∀ e ∈ es, e.key ≠ kv k) : g k = none := by
  cases hg : g k with
  | none => rfl
  | some l =>
    obtain ⟨e, he, h1, _⟩ := h.2.2 k l hg
    exact absurd h1 (hn e he)
theorem EntIs.on {es : List MapEntry} (h : EntIs es g) {k : Ky} {e : MapEntry} (he : e ∈ es) (hk : e.key = kv k) : ∃ l, e.val = lv l ∧ g k = some l := by
  obtain ⟨k', l, _, h1, h2, h3⟩ := h.1 e he
  have : k = k' := kv_inj (hk.symm.trans h1)
  subst this
  exact ⟨l, h2, h3⟩

theorem MapAt.look (h : MapAt w b g) {k : Ky} (hk : OkK k) :
    (Instr.lookup 131 (.map (some b)) (kv k) true).run Tryd.prog w = .ok (.tuple #[lv ((g k).getD zL), .bool (g k).isSome]) w := by
  obtain ⟨es, clock, hb, hE⟩ := h
  obtain ⟨lit, hl⟩ := keyOf_kv hk
  rcases keyedK.find w hl es.toList hE.keys with ⟨h1, h2⟩ | ⟨j, e0, h1, h2, h3⟩
  · rw [hE.off h2]
    simp [Instr.lookup, run_underlying Tryd.underlying131, MapKept.run_getObj_map hb, keyedK.check w _ hl, h1, zeroLine, Result.andThen]
    rfl
  · obtain ⟨l, e1, e2⟩ := hE.on (List.mem_of_getElem? h2) h3
    rw [e2]
    simp [Instr.lookup, run_underlying Tryd.underlying131, MapKept.run_getObj_map hb, keyedK.check w _ hl, h1, e1, Result.andThen]

theorem turn_setBlock (w : World) (b : Nat) (o : Obj) : Turn (fun i => i = b) w (setBlock w b o) :=
  ⟨rfl, rfl, rfl, by simp [setBlock], fun i _ hi => by unfold setBlock; simp [Array.getElem?_setIfInBounds, Ne.symm hi]⟩

theorem EntIs.push {es : List MapEntry} (h : EntIs es g) {k : Ky} (hk : OkK k) (l : Ln) (clock : Nat) (hn : ∀ e ∈ es, e.key ≠ kv k) : EntIs (es ++ [⟨kv k, lv l, clock⟩]) (updG g k (some l)) := by
  refine ⟨fun e he => ?_, ?_, fun k' l' hg => ?_⟩
  · rcases List.mem_append.1 he with he1 | he
    · obtain ⟨k', l', h1, h2, h3, h4⟩ := h.1 e he1
      refine ⟨k', l', h1, h2, h3, ?_⟩
      unfold updG
      rw [if_neg]
      · exact h4
      · rintro rfl; exact hn e he1 h2
    · simp at he
      subst he
      exact ⟨k, l, hk, rfl, rfl, if_pos rfl⟩
  · refine List.pairwise_append.2 ⟨h.2.1, by simp, fun a ha b hb => ?_⟩
    simp at hb
    subst hb
    exact hn a ha
  · unfold updG at hg
    split at hg
    · rename_i e
      subst e
      simp at hg
      subst hg
      exact ⟨_, List.mem_append.2 (Or.inr (List.mem_singleton.2 rfl)), rfl, rfl⟩
    · obtain ⟨e, he, r⟩ := h.2.2 k' l' hg
      exact ⟨e, List.mem_append.2 (Or.inl he), r⟩

theorem key_apart {es : List MapEntry} (hp : es.Pairwise (fun a b => a.key ≠ b.key)) {i j : Nat} {a c : MapEntry} (hi : es[i]? = some a) (hj : es[j]? = some c) (hne : i ≠ j) : a.key ≠ c.key := by
  obtain ⟨hi', rfl⟩ := List.getElem?_eq_some_iff.1 hi
  obtain ⟨hj', rfl⟩ := List.getElem?_eq_some_iff.1 hj
  rw [List.pairwise_iff_getElem] at hp
  rcases Nat.lt_or_ge i j with h | h
  · exact hp i j hi' hj' h
  · exact (hp j i hj' hi' (by omega)).symm

theorem EntIs.set {es : List MapEntry} (h : EntIs es g) {k : Ky} (hk : OkK k) (l : Ln) {j : Nat} {e0 : MapEntry} (hj : es[j]? = some e0) (h0 : e0.key = kv k) : EntIs (es.set j { e0 with key := kv k, val := lv l }) (updG g k (some l)) := by
  have hjl : j < es.length := (List.getElem?_eq_some_iff.1 hj).1
  have who : ∀ i x, (es.set j { e0 with key := kv k, val := lv l })[i]? = some x → (i = j ∧ x = { e0 with key := kv k, val := lv l }) ∨ (i ≠ j ∧ es[i]? = some x) := fun i x hx => by
    by_cases e : i = j
    · subst e
      rw [List.getElem?_set_self hjl] at hx
      exact Or.inl ⟨rfl, (Option.some.inj hx).symm⟩
    · rw [List.getElem?_set_ne (Ne.symm e)] at hx
      exact Or.inr ⟨e, hx⟩
  refine ⟨fun e he => ?_, ?_, fun k' l' hg => ?_⟩
  · obtain ⟨i, hi⟩ := List.mem_iff_getElem?.1 he
    rcases who i e hi with ⟨_, rfl⟩ | ⟨hne, hx⟩
    · exact ⟨k, l, hk, rfl, rfl, if_pos rfl⟩
    · obtain ⟨k', l', h1, h2, h3, h4⟩ := h.1 e (List.mem_of_getElem? hx)
      refine ⟨k', l', h1, h2, h3, ?_⟩
      unfold updG
      rw [if_neg]
      · exact h4
      · rintro rfl
        exact key_apart h.2.1 hx hj hne (h2.trans h0.symm)
  · rw [List.pairwise_iff_getElem]
    intro i m hi hm him
    have hi' := List.getElem?_eq_getElem hi
    have hm' := List.getElem?_eq_getElem hm
    rcases who i _ hi' with ⟨e1, x1⟩ | ⟨e1, x1⟩
    · rcases who m _ hm' with ⟨e2, _⟩ | ⟨e2, x2⟩
      · omega
      · rw [x1]
        have := key_apart h.2.1 hj x2 (by omega)
        rw [h0] at this
        exact this
    · rcases who m _ hm' with ⟨e2, x2⟩ | ⟨e2, x2⟩
      · rw [x2]
        have := key_apart h.2.1 x1 hj (by omega)
        rw [h0] at this
        exact this
      · exact key_apart h.2.1 x1 x2 (by omega)
  · unfold updG at hg
    split at hg
    · rename_i e
      subst e
      simp at hg
      subst hg
      exact ⟨_, List.mem_of_getElem? (List.getElem?_set_self hjl), rfl, rfl⟩
    · rename_i hne
      obtain ⟨e, he, h1, h2⟩ := h.2.2 k' l' hg
      obtain ⟨i, hi⟩ := List.mem_iff_getElem?.1 he
      have hij : i ≠ j := by
        rintro rfl
        rw [hj] at hi
        simp at hi
        subst hi
        exact hne (kv_inj (h1.symm.trans h0))
      exact ⟨e, List.mem_of_getElem? (by rw [List.getElem?_set_ne (Ne.symm hij)]; exact hi), h1, h2⟩

theorem EntIs.erase {es : List MapEntry} (h : EntIs es g) {k : Ky} {j : Nat} {e0 : MapEntry} (hj : es[j]? = some e0) (h0 : e0.key = kv k) : EntIs (es.eraseIdx j) (updG g k none) := by
  refine ⟨fun e he => ?_, h.2.1.sublist (List.eraseIdx_sublist _ _), fun k' l' hg => ?_⟩
  · obtain ⟨i, hne, hi⟩ := List.mem_eraseIdx_iff_getElem?.1 he
    obtain ⟨k', l', h1, h2, h3, h4⟩ := h.1 e (List.mem_of_getElem? hi)
    refine ⟨k', l', h1, h2, h3, ?_⟩
    unfold updG
    rw [if_neg]
    · exact h4
    · rintro rfl
      exact key_apart h.2.1 hi hj hne (h2.trans h0.symm)
  · unfold updG at hg
    split at hg
    · cases hg
    · rename_i hne
      obtain ⟨e, he, h1, h2⟩ := h.2.2 k' l' hg
      obtain ⟨i, hi⟩ := List.mem_iff_getElem?.1 he
      refine ⟨e, List.mem_eraseIdx_iff_getElem?.2 ⟨i, ?_, hi⟩, h1, h2⟩
      rintro rfl
      rw [hj] at hi
      simp at hi
      subst hi
      exact hne (kv_inj (h1.symm.trans h0))

theorem MapAt.put (h : MapAt w b g) {k : Ky} (hk : OkK k) (l : Ln) :
    ∃ w', (Instr.mapUpdate 131 (.map (some b)) (kv k) (lv l)).run Tryd.prog w = .ok () w' ∧ MapAt w' b (updG g k (some l)) ∧ Turn (fun i => i = b) w w' ∧ w'.heap.size = w.heap.size := by
  obtain ⟨es, clock, hb, hE⟩ := h
  obtain ⟨lit, hl⟩ := keyOf_kv hk
  rcases keyedK.find w hl es.toList hE.keys with ⟨h1, h2⟩ | ⟨j, e0, h1, h2, h3⟩
  · refine ⟨setBlock w b (.map (es.push ⟨kv k, lv l, clock⟩) (clock + 1)), ?_, ⟨_, _, heap_setBlock_same hb _, ?_⟩, turn_setBlock _ _ _, by simp [setBlock]⟩
    · simp [Instr.mapUpdate, run_underlying Tryd.underlying131, MapKept.run_getObj_map hb, keyedK.check w false hl, h1, MapKept.run_setObj_map _ hb, Result.andThen, setBlock]
    · rw [Array.toList_push]
      exact hE.push hk l clock h2
  · have hj : es[j]? = some e0 := by simpa using h2
    refine ⟨setBlock w b (.map (es.modify j (fun e' => { e' with key := kv k, val := lv l })) clock), ?_, ⟨_, _, heap_setBlock_same hb _, ?_⟩, turn_setBlock _ _ _, by simp [setBlock]⟩
    · simp [Instr.mapUpdate, run_underlying Tryd.underlying131, MapKept.run_getObj_map hb, keyedK.check w false hl, h1, hj, h3, keyedK.stays w hl, MapKept.run_setObj_map _ hb, Result.andThen, setBlock]
    · rw [Array.toList_modify, ChangeMaps.modify_eq_set _ _ _ _ h2]
      exact hE.set hk l h2 h3

theorem MapAt.del (h : MapAt w b g) {k : Ky} (hk : OkK k) (ty : TypeId) :
    ∃ w', (Builtin.delete_ #[131, 102] ty #[.map (some b), kv k]).run Tryd.prog w = .ok (.tuple #[]) w' ∧ MapAt w' b (updG g k none) ∧ Turn (fun i => i = b) w w' ∧ w'.heap.size = w.heap.size := by
  obtain ⟨es, clock, hb, hE⟩ := h
  obtain ⟨lit, hl⟩ := keyOf_kv hk
  rcases keyedK.find w hl es.toList hE.keys with ⟨h1, h2⟩ | ⟨j, e0, h1, h2, h3⟩
  · refine ⟨setBlock w b (.map es clock), ?_, ⟨_, _, heap_setBlock_same hb _, ?_⟩, turn_setBlock _ _ _, by simp [setBlock]⟩
    · simp [Builtin.delete_, run_underlying Tryd.underlying131, MapKept.run_getObj_map hb, keyedK.check w _ hl, h1, MapKept.run_setObj_map _ hb, Result.andThen, setBlock]
    · have : updG g k none = g := by
        funext k'
        unfold updG
        split
        · rename_i e; rw [e]; exact (hE.off h2).symm
        · rfl
      rw [this]; exact hE
  · refine ⟨setBlock w b (.map (es.eraseIdxIfInBounds j) clock), ?_, ⟨_, _, heap_setBlock_same hb _, ?_⟩, turn_setBlock _ _ _, by simp [setBlock]⟩
    · simp [Builtin.delete_, run_underlying Tryd.underlying131, MapKept.run_getObj_map hb, keyedK.check w _ hl, h1, MapKept.run_setObj_map _ hb, Result.andThen, setBlock]
    · have hjs : j < es.size := by
        have := (List.getElem?_eq_some_iff.1 h2).1
        simpa using this
      unfold Array.eraseIdxIfInBounds
      rw [dif_pos hjs, Array.toList_eraseIdx]
      exact hE.erase h2 h3

theorem MapAt.clear (h : MapAt w b g) (ty : TypeId) :
    ∃ w', (Builtin.clear_ #[131] ty #[.map (some b)]).run Tryd.prog w = .ok (.tuple #[]) w' ∧ MapAt w' b (fun _ => none) ∧ Turn (fun i => i = b) w w' ∧ w'.heap.size = w.heap.size := by
  obtain ⟨es, clock, hb, hE⟩ := h
  refine ⟨setBlock w b (.map #[] clock), ?_, ⟨_, _, heap_setBlock_same hb _, by simp [EntIs]⟩, turn_setBlock _ _ _, by simp [setBlock]⟩
  simp [Builtin.clear_, run_underlying Tryd.underlying131, MapKept.run_getObj_map hb, MapKept.run_setObj_map _ hb, Result.andThen, setBlock]
end
end Go.Proofs.YtiihhlmddmicjaaDoor
/- Contracts of package mem, over a memory as it lies in the world. -/
namespace Go.Proofs.YtiihhlmddmicjaaDoor
set_option linter.unusedVariables false
set_option linter.unusedSimpArgs false
open Go.ChangeShapes Go.WideShapes Go.ChangeAt Go.RowKit
open Go.Maps (Keyed IsMap)

theorem law64 : Keyed Tryd.prog 34 := Maps.int_keyed Tryd.underlying34
theorem zeroPtr (w : World) : (zeroValue 158).run Tryd.prog w = .ok (.pointer none) w := by kernel_rfl
theorem wf64 {k : Int} (h : W64 k) : (Lit.int .u64 k).wf = true := by
  obtain ⟨h0, h1⟩ := h
  exact WalkArith.wf_u64 ⟨h0, by omega⟩
theorem key64 {k : Int} (h : W64 k) : keyOf Tryd.prog 34 (.int .u64 k) = some (.int .u64 k) := Maps.keyOf_int_mk Tryd.underlying34 (wf64 h)

section
variable {w : World} {m : Nat} {M : Int} {f : Int → Int} {tr : List Int} {n mb : Nat} {v : Value} {D : Dw}

theorem Mm.look_no (h : Mm w m M f tr n mb v D) {k : Int} (hw : W64 k) (hk : pageOf D k = .nil) :
    (Instr.lookup 144 (.map (some mb)) (.int .u64 k) false).run Tryd.prog w = .ok (.pointer none) w := by
  obtain ⟨v', ps, hrun, hv⟩ := h.pages.lookup law64 Tryd.underlying144 (zeroPtr w) (show ptrElem (.pointer none) = some (.nil, []) from rfl) (key64 hw)
  rw [show D.atKey (.int .u64 k) .nil = .nil from hk] at hv
  rw [hrun, ptrElem_nil hv]

theorem Mm.look_yes (h : Mm w m M f tr n mb v D) {k : Int} (hw : W64 k) {b : Nat} (hk : pageOf D k = .lit (.int .u64 b)) :
    (Instr.lookup 144 (.map (some mb)) (.int .u64 k) false).run Tryd.prog w = .ok (.pointer (some ⟨b, 0, none⟩)) w := by
  obtain ⟨v', ps, hrun, hv⟩ := h.pages.lookup law64 Tryd.underlying144 (zeroPtr w) (show ptrElem (.pointer none) = some (.nil, []) from rfl) (key64 hw)
  rw [show D.atKey (.int .u64 k) .nil = .lit (.int .u64 b) from hk] at hv
  rw [hrun, ptrElem_at hv]
end

/-- how many bytes a memory of M bits has -/
def sizeM (M : Int) : Int := 2 ^ M.toNat

theorem sizeM_bd {M : Int} (h : 14 ≤ M ∧ M ≤ 22) : 16384 ≤ sizeM M ∧ sizeM M ≤ 4194304 ∧ sizeM M % 4096 = 0 := by
  obtain ⟨h0, h1⟩ := h
  have : M = 14 ∨ M = 15 ∨ M = 16 ∨ M = 17 ∨ M = 18 ∨ M = 19 ∨ M = 20 ∨ M = 21 ∨ M = 22 := by omega
  rcases this with rfl | rfl | rfl | rfl | rfl | rfl | rfl | rfl | rfl <;> decide

theorem mm_new (w : World) (M : Int) (h : 14 ≤ M ∧ M ≤ 22) : Mm ((w.alloc (.map #[] 0)).alloc (.cells #[.int .i64 M, .map (some w.heap.size), .slice none 0 0] 147)) (w.heap.size + 1) M (fun _ => 0) [] 0 w.heap.size (.slice none 0 0) (.map []) := by
  have e1 : (w.alloc (.map #[] 0)).heap.size = w.heap.size + 1 := by simp
  refine ⟨h, ?_, (World.ownsMap_made w Tryd.prog 34 ptrElem).alloc _, fun k => Or.inl ⟨rfl, fun _ _ => rfl⟩, ?_, ?_, World.ownsRow_nil _ _ _ _, Nat.le_refl _, fun _ => ⟨by decide, by decide⟩⟩
  · have := Deep.blk_alloc_new (w.alloc (.map #[] 0)) (.cells #[.int .i64 M, .map (some w.heap.size), .slice none 0 0] 147)
    rwa [e1] at this
  · intro k k' b hb
    cases hb
  · intro kl hkl
    cases hkl

theorem newMem_any (M : Int) (w : World) (h : 14 ≤ M ∧ M ≤ 22) :
    Calls Tryd.prog 44 #[.int .i64 M] w fun e w' => e = .returned (.pointer (some ⟨w.heap.size + 1, 0, none⟩)) ∧ Mem w' (From w.heap.size) (w.heap.size + 1) M (fun _ => 0) [] 0 ∧ Below w.heap.size w w' := by
  have hN := Lib.hid (mm_new w M h)
  obtain ⟨h0, h1⟩ := h
  have hmm := @run_makeMap Tryd.prog
  go_enter Tryd.func44, Tryd.ntmps44
  go_wp2
  go_ret
  refine ⟨by simp, ⟨_, _, _, hN.out, ?_⟩, ((Below.refl _ w).alloc (Nat.le_refl _) _).alloc (by simp) _⟩
  rintro i (rfl | rfl | hv | ⟨k, hk⟩)
  · exact Nat.le_succ _
  · exact Nat.le_refl _
  · simp [Value.ownBlock] at hv
  · cases hk

set_option maxRecDepth 100000 in
theorem msize_any {w : World} {m : Nat} {M : Int} {f : Int → Int} {tr : List Int} {n mb : Nat} {v : Value} {D : Dw} (h : Mm w m M f tr n mb v D) :
    Calls Tryd.prog 92 #[.pointer (some ⟨m, 0, none⟩)] w fun e w' => e = .returned (.int .u64 (sizeM M)) ∧ w = w' := by
  obtain ⟨c0, c1, c2, _⟩ := h.cells
  obtain ⟨h0, h1⟩ := h.bits
  have : M = 14 ∨ M = 15 ∨ M = 16 ∨ M = 17 ∨ M = 18 ∨ M = 19 ∨ M = 20 ∨ M = 21 ∨ M = 22 := by omega
  have qM : ∀ (w : World) (r : Option Nat), (binOp .eql 144 (.map r) (.map none)).run Tryd.prog w = .ok (.bool r.isNone) w := fun w r => run_eql_map_nil w _ _ _ r Tryd.underlying144
  clear h c2
  rcases this with rfl | rfl | rfl | rfl | rfl | rfl | rfl | rfl | rfl
  all_goals
    go_enter Tryd.func92, Tryd.ntmps92
    go_wp2
    go_ret
    exact ⟨rfl, rfl⟩


/-- why there is no slot at a -/
def errS (M a : Int) : Int := if sizeM M ≤ a then 2 else if a % 8 = 0 then 0 else 3

theorem slotError_any {w : World} {m : Nat} {M : Int} {f : Int → Int} {tr : List Int} {n mb : Nat} {v : Value} {D : Dw} (h : Mm w m M f tr n mb v D) (a : Int) (ha : 0 ≤ a) :
    Calls Tryd.prog 77 #[.pointer (some ⟨m, 0, none⟩), .int .u64 a] w fun e w' => e = .returned (.int .i64 (errS M a)) ∧ w = w' := by
  by_cases h1 : sizeM M ≤ a
  · rw [show errS M a = 2 from if_pos h1]
    go_enter Tryd.func77, Tryd.ntmps77
    go_wp2_with (go_at_call 92; refine (msize_any h).mono ?_; rintro e w' ⟨rfl, rfl⟩)
    go_ret
    exact ⟨rfl, rfl⟩
  · by_cases h2 : a % 8 = 0
    · rw [show errS M a = 0 by unfold errS; rw [if_neg h1, if_pos h2]]
      have h1' : a < sizeM M := by omega
      clear h1
      go_enter Tryd.func77, Tryd.ntmps77
      go_wp2_with (go_at_call 92; refine (msize_any h).mono ?_; rintro e w' ⟨rfl, rfl⟩)
      go_ret
      exact ⟨rfl, rfl⟩
    · rw [show errS M a = 3 by unfold errS; rw [if_neg h1, if_neg h2]]
      have h1' : a < sizeM M := by omega
      clear h1
      go_enter Tryd.func77, Tryd.ntmps77
      go_wp2_with (go_at_call 92; refine (msize_any h).mono ?_; rintro e w' ⟨rfl, rfl⟩)
      go_ret
      exact ⟨rfl, rfl⟩

theorem wrap_in {a : Int} (h0 : 0 ≤ a) (h1 : a < 18446744073709551616) : IntKind.u64.wrap a = a := by
  show a % 18446744073709551616 = a
  omega

/-- an address's page k, and the place r of its slot there, as the program reckons them -/
structure Splits (a k q : Int) (r : Nat) : Prop where
  k0 : 0 ≤ k
  kw : W64 k
  r5 : r < 512
  slot : a / 8 = k * 512 + r
  page : a / 4096 = k
  t1 : a.tdiv 4096 = k
  t2 : IntKind.u64.wrap k = k
  t3 : a.tmod 4096 = q
  t4 : IntKind.u64.wrap q = q
  t5 : q.tdiv 8 = r
  t6 : IntKind.u64.wrap (r : Int) = r
  q0 : 0 ≤ q
  q1 : q < 4096

theorem addr_split {a : Int} (ha : W64 a) : ∃ (k q : Int) (r : Nat), Splits a k q r := by
  obtain ⟨h0, h1⟩ := ha
  refine ⟨a / 4096, a % 4096, (a % 4096 / 8).toNat, by omega, ⟨by omega, by omega⟩, by omega, by omega, rfl, Int.tdiv_eq_ediv_of_nonneg h0, wrap_in (by omega) (by omega), Int.tmod_eq_emod_of_nonneg h0, wrap_in (by omega) (by omega), ?_, wrap_in (by omega) (by omega), by omega, by omega⟩
  rw [Int.tdiv_eq_ediv_of_nonneg (by omega)]
  omega

set_option maxRecDepth 100000 in
theorem mread_any {w : World} {m : Nat} {M : Int} {f : Int → Int} {tr : List Int} {n mb : Nat} {v : Value} {D : Dw} (h : Mm w m M f tr n mb v D) (a : Int) (ha : W64 a) :
    Calls Tryd.prog 94 #[.pointer (some ⟨m, 0, none⟩), .int .u64 a] w fun e w' => e = .returned (.int .u64 (f (a / 8))) ∧ w = w' := by
  obtain ⟨k, q, r, k0, hkw, hr5, hs, hk, t1, t2, t3, t4, t5, t6, q0, q1⟩ := addr_split ha
  obtain ⟨c0, c1, c2, _⟩ := h.cells
  rw [hs]
  have a0 := ha.1
  clear hs
  rcases h.page k with ⟨hn, hz⟩ | ⟨b, hb, hrow⟩
  · have hl := h.look_no hkw hn
    rw [hz r hr5]
    clear h c0 c2 hz ha hkw
    go_enter Tryd.func94, Tryd.ntmps94
    go_wp2
    go_ret
    exact ⟨rfl, rfl⟩
  · have hl := h.look_yes hkw hb
    have hc := hrow.cell hr5
    clear h c0 c2 hrow ha hkw
    go_enter Tryd.func94, Tryd.ntmps94
    go_wp2
    go_ret
    exact ⟨rfl, rfl⟩

theorem own_put_page {m mb : Nat} {v : Value} {D : Dw} (hD : IsMap D) {k : Int} {B : Nat} {i : Nat} (h : Own m mb v (D.put (.int .u64 k) (.lit (.int .u64 B))) i) : Own m mb v D i ∨ i = B := by
  rcases h with h | h | h | ⟨k', hk⟩
  · exact Or.inl (Or.inl h)
  · exact Or.inl (Or.inr (Or.inl h))
  · exact Or.inl (Or.inr (Or.inr (Or.inl h)))
  · by_cases e : k' = k
    · subst e
      rw [pageOf_same hD] at hk
      simp at hk
      right; omega
    · rw [pageOf_other e] at hk
      exact Or.inl (Or.inr (Or.inr (Or.inr ⟨k', hk⟩)))

set_option maxRecDepth 100000 in
theorem mwrite_any {w : World} {F : Nat → Prop} {m : Nat} {M : Int} {f : Int → Int} {tr : List Int} {n : Nat} (h : Mem w F m M f tr n) (hn : n < 1000000) (a x : Int) (ha : W64 a) (ha1 : a < sizeM M) (hx : W64 x) :
    Calls Tryd.prog 78 #[.pointer (some ⟨m, 0, none⟩), .int .u64 a, .int .u64 x] w fun e w' => e = .returned (.tuple #[]) ∧ Mem w' (Since F w) m M (updF f (a / 8) x) tr (n + 1) ∧ Turn F w w' := by
  obtain ⟨mb, v, D, h, hF⟩ := h
  obtain ⟨k, q, r, k0, hkw, hr5, hs, hk, t1, t2, t3, t4, t5, t6, q0, q1⟩ := addr_split ha
  obtain ⟨s0, s1, s2⟩ := sizeM_bd h.bits
  have hk1 : k * 4096 < sizeM M := by omega
  obtain ⟨c0, c1, c2, _⟩ := h.cells
  rw [hs]
  have HK := Lib.hid hk1
  have HX := Lib.hid hx
  clear hs hk1 hx s0 s1 s2 ha1 ha
  rcases h.page k with ⟨hn', hz⟩ | ⟨b, hb, hrow⟩
  · have hl := h.look_no hkw hn'
    have hkey := Lib.hid (key64 hkw)
    have HH := Lib.hid h
    have HN := Lib.hid hn'
    have hlt := Lib.hid (h.own_lt (i := m) (Or.inl rfl))
    have c1' : (w.alloc (.cells Tryd.zeroCells160 160)).cell? ⟨m, 1, none⟩ = some (.map (some mb)) := by
      rw [← c1]; exact World.cell?_of_block (Below.heap_alloc _ _ _ hlt.out)
    clear h hz hkw hn' c0 c2
    go_enter Tryd.func78, Tryd.ntmps78
    go_wp2_with (at_mapUpdate; refine wpList_mapUpdate_own _ rfl _ _ _ 144 rfl 34 158 law64 Tryd.underlying144 ptrElem mb n D rfl (World.ownsMap.alloc HH.out.pages _) (by unfold maxLen; omega) _ _ _ rfl rfl hkey.out _ [] (ptrElem_mk _) ?_; intro w1 hown1 hgrow1; have hp1 := Lib.hid (HH.out.made HN.out k0 HK.out hown1 hgrow1); have hq1 := Lib.hid (pageOf_same HH.out.pages.isMap k (.lit (.int .u64 w.heap.size))); have hT1 := Lib.hid hgrow1; clear hown1 hgrow1; have hrow' := hp1.out.page_row hq1.out; have hcell := hrow'.cell hr5; have hfz := hrow'.frozen r; clear hrow')
    go_end0
    refine ⟨rfl, ⟨mb, v, _, hp1.out.put hq1.out hr5 HX.out, fun i hi => ?_⟩, ?_⟩
    · rcases own_put_page HH.out.pages.isMap hi with hi | rfl
      · exact Or.inl (hF i hi)
      · exact Or.inr (Nat.le_refl _)
    · exact ((Turn.alloc F w _).trans (Turn.grown hT1.out (fun i hi => by cases hi; exact Or.inl (hF mb (Or.inr (Or.inl rfl)))))).trans (Turn.setCell _ _ _ _ (Or.inr (Nat.le_refl _)))
  · have hl := h.look_yes hkw hb
    have hc := hrow.cell hr5
    have hfz := hrow.frozen r
    have HH := Lib.hid h
    have HB := Lib.hid hb
    clear h c0 c2 hrow hkw hb
    go_enter Tryd.func78, Tryd.ntmps78
    go_wp2
    go_end0
    exact ⟨rfl, ⟨mb, v, D, (HH.out.put HB.out hr5 HX.out).more (Nat.le_succ _), fun i hi => Or.inl (hF i hi)⟩, Turn.setCell _ _ _ _ (hF b (Or.inr (Or.inr (Or.inr ⟨k, HB.out⟩))))⟩

end Go.Proofs.YtiihhlmddmicjaaDoor
/- Contracts of package word: the calls that make or read memory. -/
namespace Go.Proofs.YtiihhlmddmicjaaDoor
set_option linter.unusedVariables false
set_option linter.unusedSimpArgs false
open Go.ChangeShapes Go.WideShapes Go.ChangeAt Go.RowKit Go.Joins

/-- block g holds the cells cs, of bytes, none frozen -/
def Row8 (w : World) (g : Nat) (cs : Array Value) : Prop := w.heap[g]? = some (.cells cs 5 (0, 0))

end Go.Proofs.YtiihhlmddmicjaaDoor
