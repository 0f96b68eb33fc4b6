/- Several texts of ours in one: By, Wd, Mm. -/
import Derived.Test.YtopmmlcjlopmaaaGreatDoorGBvAM
import Derived.Lib.Hide
import Derived.WalkKit
import Derived.ProofKit
import Derived.Below
import Derived.OneCell
import Derived.Maps.OwnSet
import Derived.Maps.AppendAt
import Derived.Deep.OwnRows
/- Plain mathematics: words of 64 bits told by their bytes. Nothing of the program. -/
namespace Go.Proofs.YtopmmlcjlopmaaaGreatDoor
set_option linter.unusedVariables false
set_option linter.unusedSimpArgs false

/- ### a list of bytes as a word -/
end Go.Proofs.YtopmmlcjlopmaaaGreatDoor
/- Contracts of package word: the calls that make no memory. -/
namespace Go.Proofs.YtopmmlcjlopmaaaGreatDoor
set_option linter.unusedVariables false
set_option linter.unusedSimpArgs false
open Go.ChangeShapes Go.WideShapes Go.ChangeAt Go.RowKit

end Go.Proofs.YtopmmlcjlopmaaaGreatDoor
/- A memory of package mem as it lies in the world: what it is, what turns, and what stays. -/
namespace Go.Proofs.YtopmmlcjlopmaaaGreatDoor
set_option linter.unusedVariables false
set_option linter.unusedSimpArgs false
open Go.ChangeShapes Go.WideShapes Go.ChangeAt Go.RowKit
open Go.Maps (Keyed IsMap)

/-- how a pointer to a page reads in the map: by its block's number -/
def ptrElem : Value → Option (DataW Unit × List MemPlace)
  | .pointer none => some (.nil, [])
  | .pointer (some ⟨b, 0, none⟩) => some (.lit (.int .u64 b), [])
  | _ => none

theorem ptrElem_nil {v : Value} {ps : List MemPlace} (h : ptrElem v = some (.nil, ps)) : v = .pointer none := by
  unfold ptrElem at h
  split at h
  · rfl
  · simp at h
  · cases h

theorem ptrElem_at {v : Value} {b : Nat} {ps : List MemPlace} (h : ptrElem v = some (.lit (.int .u64 b), ps)) : v = .pointer (some ⟨b, 0, none⟩) := by
  unfold ptrElem at h
  split at h
  · simp at h
  · rename_i b'
    simp at h
    have e : b' = b := by omega
    rw [e]
  · cases h

theorem ptrElem_mk (b : Nat) : ptrElem (.pointer (some ⟨b, 0, none⟩)) = some (.lit (.int .u64 b), []) := rfl

abbrev Dw := DataW Unit

/-- which page has the number k -/
def pageOf (D : Dw) (k : Int) : Dw := D.atKey (.int .u64 k) .nil

theorem pageOf_same {D : Dw} (h : IsMap D) (k : Int) (d : Dw) : pageOf (D.put (.int .u64 k) d) k = d := Maps.atKey_put_same h (show WideAt.IsKeyLit (.int .u64 k) from trivial) d _
theorem pageOf_other {D : Dw} {k k' : Int} (h : k' ≠ k) (d : Dw) : pageOf (D.put (.int .u64 k) d) k' = pageOf D k' := Maps.atKey_put_other (by simpa using h) d _

/-- block m of w is a memory of M bits with the words f and the trace tr; mb: its map's block, v: its trace's slice, D: which pages there are -/
structure Mm (w : World) (m : Nat) (M : Int) (f : Int → Int) (tr : List Int) (n : Nat) (mb : Nat) (v : Value) (D : Dw) : Prop where
  bits : 14 ≤ M ∧ M ≤ 22
  here : w.heap[m]? = some (.cells #[.int .i64 M, .map (some mb), v] 107 (0, 0))
  pages : w.ownsMap Tryz.prog 23 ptrElem mb n D
  page : ∀ k : Int, (pageOf D k = .nil ∧ ∀ i : Nat, i < 512 → f (k * 512 + i) = 0) ∨ ∃ b : Nat, pageOf D k = .lit (.int .u64 b) ∧ w.rowIs b 110 512 (fun i => .int .u64 (f (k * 512 + i)))
  inj : ∀ (k k' : Int) (b : Nat), pageOf D k = .lit (.int .u64 b) → pageOf D k' = .lit (.int .u64 b) → k = k'
  full : ∀ kl, Maps.has D kl = true → ∃ (k : Int) (b : Nat), kl = .int .u64 k ∧ pageOf D k = .lit (.int .u64 b) ∧ 0 ≤ k ∧ k * 4096 < 2 ^ M.toNat
  trace : w.ownsRow 0 23 1 v tr.length (tr.map (Value.int .u64))
  few : tr.length ≤ n
  words : ∀ s, W64 (f s)

/-- the blocks that such a memory goes through -/
def Own (m mb : Nat) (v : Value) (D : Dw) (i : Nat) : Prop := i = m ∨ i = mb ∨ v.ownBlock = some i ∨ ∃ k, pageOf D k = .lit (.int .u64 (i : Nat))

def Mem (w : World) (F : Nat → Prop) (m : Nat) (M : Int) (f : Int → Int) (tr : List Int) (n : Nat) : Prop := ∃ mb v D, Mm w m M f tr n mb v D ∧ ∀ i, Own m mb v D i → F i

/-- w' is w but for the blocks of F and new ones -/
structure Turn (F : Nat → Prop) (w w' : World) : Prop where
  os : w'.os = w.os
  tape : w'.tape = w.tape
  output : w'.output = w.output
  size : w.heap.size ≤ w'.heap.size
  block : ∀ i, i < w.heap.size → ¬ F i → w'.heap[i]? = w.heap[i]?

/-- the blocks from B on -/
def From (B : Nat) : Nat → Prop := fun i => B ≤ i

/-- F, and what is new behind w -/
def Since (F : Nat → Prop) (w : World) (i : Nat) : Prop := F i ∨ w.heap.size ≤ i

theorem Turn.refl (F : Nat → Prop) (w : World) : Turn F w w := ⟨rfl, rfl, rfl, Nat.le_refl _, fun _ _ _ => rfl⟩
theorem Turn.trans {F : Nat → Prop} {a b c : World} (h : Turn F a b) (k : Turn (Since F a) b c) : Turn F a c :=
  ⟨k.os.trans h.os, k.tape.trans h.tape, k.output.trans h.output, Nat.le_trans h.size k.size, fun i hi hF => (k.block i (Nat.lt_of_lt_of_le hi h.size) (fun hs => by rcases hs with hs | hs; exact hF hs; omega)).trans (h.block i hi hF)⟩
theorem Turn.mono {F G : Nat → Prop} {a b : World} (h : Turn F a b) (hG : ∀ i, i < a.heap.size → F i → G i) : Turn G a b := ⟨h.os, h.tape, h.output, h.size, fun i hi hg => h.block i hi (fun hf => hg (hG i hi hf))⟩
theorem Turn.below {F : Nat → Prop} {a b : World} {B : Nat} (h : Turn F a b) (hF : ∀ i, F i → B ≤ i) (hB : B ≤ a.heap.size) : Below B a b :=
  ⟨h.os, h.tape, h.output, h.size, fun k hk => h.block k (by omega) (fun hf => by have := hF k hf; omega)⟩
theorem Turn.of_below {a b : World} {B : Nat} (h : Below B a b) : Turn (fun i => B ≤ i) a b := ⟨h.os, h.tape, h.output, h.size, fun i _ hn => h.block i (by omega)⟩
theorem Turn.of_kept {a b : World} (F : Nat → Prop) (h : Below a.heap.size a b) : Turn F a b := ⟨h.os, h.tape, h.output, h.size, fun i hi _ => h.block i hi⟩
theorem Turn.grown {F : Nat → Prop} {a b : World} {row : Option Nat} (h : a.grownBy b row) (hr : ∀ i, row = some i → F i) : Turn F a b := ⟨h.os, h.tape, h.output, h.size, fun i hi hn => h.block i hi (fun e => hn (hr i e.symm))⟩
theorem Turn.setCell (F : Nat → Prop) (a : World) (p : Addr) (u : Value) (hp : F p.block) : Turn F a (a.setCell p u) :=
  ⟨rfl, rfl, rfl, by simp [World.setCell], fun i _ hn => Below.heap_setCell _ _ _ _ (fun e => hn (e ▸ hp))⟩
theorem Turn.alloc (F : Nat → Prop) (a : World) (o : Obj) : Turn F a (a.alloc o) := Turn.grown (World.grownBy_alloc a o none) (by simp)

section
variable {w w' : World} {m : Nat} {M : Int} {f : Int → Int} {tr : List Int} {n mb : Nat} {v : Value} {D : Dw}

theorem Mm.own_lt (h : Mm w m M f tr n mb v D) {i : Nat} (hi : Own m mb v D i) : i < w.heap.size := by
  rcases hi with rfl | rfl | hv | ⟨k, hk⟩
  · exact lt_of_block h.here
  · exact h.pages.lt
  · exact (h.trace.lt i hv).2
  · rcases h.page k with ⟨hn, _⟩ | ⟨b, hb, hr⟩
    · rw [hn] at hk; cases hk
    · rw [hb] at hk
      simp at hk
      have e : b = i := by omega
      exact e ▸ hr.lt

/-- what its blocks hold is all that it is -/
theorem Mm.same (h : Mm w m M f tr n mb v D) (he : ∀ i, Own m mb v D i → w'.heap[i]? = w.heap[i]?) : Mm w' m M f tr n mb v D := by
  refine ⟨h.bits, (he m (Or.inl rfl)).trans h.here, ?_, ?_, h.inj, h.full, ?_, h.few, h.words⟩
  · obtain ⟨es, clock, hb, r⟩ := h.pages
    exact ⟨es, clock, (he mb (Or.inr (Or.inl rfl))).trans hb, r⟩
  · intro k
    rcases h.page k with hn | ⟨b, hb, hr⟩
    · exact Or.inl hn
    · exact Or.inr ⟨b, hb, hr.of_block (he b (Or.inr (Or.inr (Or.inr ⟨k, hb⟩))))⟩
  · refine ⟨h.trace.1, ?_⟩
    rcases h.trace.2 with hn | ⟨g, cap, cur, hv, hb, hg, r⟩
    · exact Or.inl hn
    · exact Or.inr ⟨g, cap, cur, hv, hb, (he g (Or.inr (Or.inr (Or.inl (by rw [hv]; rfl))))).trans hg, r⟩

theorem Mm.more (h : Mm w m M f tr n mb v D) {n' : Nat} (hn : n ≤ n') : Mm w m M f tr n' mb v D :=
  ⟨h.bits, h.here, h.pages.mono hn, h.page, h.inj, h.full, h.trace, Nat.le_trans h.few hn, h.words⟩

/-- a block that is a page is neither the memory's own, nor its map, nor its trace -/
theorem Mm.page_apart (h : Mm w m M f tr n mb v D) {k : Int} {b : Nat} (hb : pageOf D k = .lit (.int .u64 b)) : b ≠ m ∧ b ≠ mb ∧ v.ownBlock ≠ some b := by
  rcases h.page k with ⟨hn, _⟩ | ⟨b', hb', hr⟩
  · rw [hn] at hb; cases hb
  · rw [hb'] at hb
    simp at hb
    have e : b' = b := by omega
    subst e
    obtain ⟨c, hc, _⟩ := hr
    refine ⟨fun e => ?_, fun e => ?_, fun e => ?_⟩
    · rw [e, h.here] at hc; simp at hc
    · obtain ⟨es, clock, hm, _⟩ := h.pages
      rw [e, hm] at hc; simp at hc
    · rcases h.trace.2 with ⟨hn, _⟩ | ⟨g, cap, cur, hv, _, hg, _⟩
      · rw [hn] at e; simp [Value.ownBlock] at e
      · rw [hv] at e
        simp [Value.ownBlock] at e
        rw [← e, hg] at hc; simp at hc

theorem Mm.page_row (h : Mm w m M f tr n mb v D) {k : Int} {b : Nat} (hb : pageOf D k = .lit (.int .u64 b)) : w.rowIs b 110 512 (fun i => .int .u64 (f (k * 512 + i))) := by
  rcases h.page k with ⟨hn, _⟩ | ⟨b', hb', hr⟩
  · rw [hn] at hb; cases hb
  · rw [hb'] at hb
    simp at hb
    have e : b' = b := by omega
    exact e ▸ hr

theorem Mm.apart (h : Mm w m M f tr n mb v D) : m ≠ mb ∧ v.ownBlock ≠ some m ∧ v.ownBlock ≠ some mb := by
  refine ⟨fun e => ?_, fun e => ?_, fun e => ?_⟩
  · obtain ⟨es, clock, hm, _⟩ := h.pages
    rw [← e, h.here] at hm; simp at hm
  · rcases h.trace.2 with ⟨hn, _⟩ | ⟨g, cap, cur, hv, _, hg, _⟩
    · rw [hn] at e; simp [Value.ownBlock] at e
    · rw [hv] at e
      simp [Value.ownBlock] at e
      rw [e, h.here] at hg; simp at hg
  · obtain ⟨es, clock, hm, _⟩ := h.pages
    rcases h.trace.2 with ⟨hn, _⟩ | ⟨g, cap, cur, hv, _, hg, _⟩
    · rw [hn] at e; simp [Value.ownBlock] at e
    · rw [hv] at e
      simp [Value.ownBlock] at e
      rw [e, hm] at hg; simp at hg

/-- the words with x at s -/
def updF (f : Int → Int) (s x : Int) : Int → Int := fun j => if j = s then x else f j

/-- a word of a page that is there is written -/
theorem Mm.put (h : Mm w m M f tr n mb v D) {k : Int} {b : Nat} (hb : pageOf D k = .lit (.int .u64 b)) {r : Nat} (hr : r < 512) {x : Int} (hx : W64 x) :
    Mm (w.setCell ⟨b, r, none⟩ (.int .u64 x)) m M (updF f (k * 512 + r) x) tr n mb v D := by
  obtain ⟨a1, a2, a3⟩ := h.page_apart hb
  have keep : ∀ i, i ≠ b → (w.setCell ⟨b, r, none⟩ (.int .u64 x)).heap[i]? = w.heap[i]? := fun i hi => Below.heap_setCell _ _ _ _ hi
  refine ⟨h.bits, (keep m a1.symm).trans h.here, ?_, ?_, h.inj, h.full, ownsRow_setCell_other h.trace a3 _, h.few, ?_⟩
  · exact h.pages.setCell (fun e => a2 e.symm) _
  · intro k'
    rcases h.page k' with ⟨hn, hz⟩ | ⟨b', hb', hr'⟩
    · refine Or.inl ⟨hn, fun i hi => ?_⟩
      have : k' ≠ k := fun e => by rw [e, hb] at hn; cases hn
      unfold updF
      rw [if_neg (by omega)]
      exact hz i hi
    · refine Or.inr ⟨b', hb', ?_⟩
      by_cases e : k' = k
      · subst e
        have e2 : b' = b := by rw [hb'] at hb; simp at hb; omega
        subst e2
        refine (hr'.set r (.int .u64 x)).congr (fun i hi => ?_)
        unfold updF
        by_cases e3 : i = r
        · subst e3; simp
        · rw [if_neg e3, if_neg (by omega)]
      · have hne : b' ≠ b := fun e2 => e (h.inj k' k b (e2 ▸ hb') hb)
        refine (hr'.setOther (a := ⟨b, r, none⟩) hne _).congr (fun i hi => ?_)
        unfold updF
        rw [if_neg (by omega)]
  · intro s
    unfold updF
    split
    · exact hx
    · exact h.words s

theorem zeros_eq : Tryz.zeroCells110 = Array.replicate 512 (.int .u64 0) := by kernel_rfl

/-- a page is made -/
theorem Mm.made (h : Mm w m M f tr n mb v D) {k : Int} (hk : pageOf D k = .nil) (k0 : 0 ≤ k) (k1 : k * 4096 < 2 ^ M.toNat)
    (hmap : w'.ownsMap Tryz.prog 23 ptrElem mb (n + 1) (D.put (.int .u64 k) (.lit (.int .u64 w.heap.size)))) (hg : (w.alloc (.cells Tryz.zeroCells110 110)).grownBy w' (some mb)) :
    Mm w' m M f tr (n + 1) mb v (D.put (.int .u64 k) (.lit (.int .u64 w.heap.size))) := by
  have hD := h.pages.isMap
  obtain ⟨a1, a2, a3⟩ := h.apart
  have keep : ∀ i, i < w.heap.size → i ≠ mb → w'.heap[i]? = w.heap[i]? := fun i hi hne =>
    (hg.block i (by simp; omega) (by simpa using hne)).trans (Below.heap_alloc _ _ _ hi)
  have hnew : w'.rowIs w.heap.size 110 512 (fun i => .int .u64 (f (k * 512 + i))) := by
    have r0 : (w.alloc (.cells Tryz.zeroCells110 110)).rowIs w.heap.size 110 512 (fun _ => .int .u64 0) :=
      ⟨_, Deep.blk_alloc_new _ _, by rw [zeros_eq]; simp, fun i hi => by rw [zeros_eq]; simp [hi]⟩
    have hne : w.heap.size ≠ mb := by have := h.pages.lt; omega
    refine (r0.of_block (hg.block _ (by simp) (by simpa using hne))).congr (fun i hi => ?_)
    rcases h.page k with ⟨_, hz⟩ | ⟨b, hb, _⟩
    · rw [hz i hi]
    · rw [hk] at hb; cases hb
  refine ⟨h.bits, (keep m (h.own_lt (Or.inl rfl)) a1).trans h.here, hmap, ?_, ?_, ?_, ?_, Nat.le_succ_of_le h.few, h.words⟩
  · intro k'
    by_cases e : k' = k
    · subst e
      exact Or.inr ⟨w.heap.size, pageOf_same hD _ _, hnew⟩
    · rw [pageOf_other e]
      rcases h.page k' with hn | ⟨b, hb, hr⟩
      · exact Or.inl hn
      · exact Or.inr ⟨b, hb, hr.of_block (keep b hr.lt (h.page_apart hb).2.1)⟩
  · intro k1 k2 b h1 h2
    have old : ∀ k', pageOf D k' = .lit (.int .u64 b) → b < w.heap.size := fun k' hk' => h.own_lt (Or.inr (Or.inr (Or.inr ⟨k', hk'⟩)))
    by_cases e1 : k1 = k
    · by_cases e2 : k2 = k
      · rw [e1, e2]
      · rw [e1, pageOf_same hD] at h1
        rw [pageOf_other e2] at h2
        have := old _ h2
        simp at h1
        have e : w.heap.size = b := by omega
        omega
    · rw [pageOf_other e1] at h1
      by_cases e2 : k2 = k
      · rw [e2, pageOf_same hD] at h2
        have := old _ h1
        simp at h2
        have e : w.heap.size = b := by omega
        omega
      · rw [pageOf_other e2] at h2
        exact h.inj _ _ _ h1 h2
  · intro kl hkl
    by_cases e : kl = .int .u64 k
    · subst e
      exact ⟨k, w.heap.size, rfl, pageOf_same hD _ _, k0, k1⟩
    · rw [Maps.has_put_other e] at hkl
      obtain ⟨k', b, rfl, hb, r⟩ := h.full kl hkl
      exact ⟨k', b, rfl, by rw [pageOf_other (by simpa using e)]; exact hb, r⟩
  · exact (h.trace.alloc _).kept hg (Or.inr a3)

/-- the trace is another one -/
theorem Mm.retrace (h : Mm w m M f tr n mb v D) {tr' : List Int} {v' : Value} (hl : tr'.length ≤ n) (hs : w'.heap.size ≥ w.heap.size)
    (keep : ∀ i, i < w.heap.size → i ≠ m → v.ownBlock ≠ some i → w'.heap[i]? = w.heap[i]?) (hm : w'.heap[m]? = some (.cells #[.int .i64 M, .map (some mb), v'] 107 (0, 0)))
    (ht : w'.ownsRow 0 23 1 v' tr'.length (tr'.map (Value.int .u64))) : Mm w' m M f tr' n mb v' D := by
  obtain ⟨a1, a2, a3⟩ := h.apart
  refine ⟨h.bits, hm, ?_, ?_, h.inj, h.full, ht, hl, h.words⟩
  · have hlt := h.pages.lt
    obtain ⟨es, clock, hb, r⟩ := h.pages
    exact ⟨es, clock, (keep mb hlt a1.symm a3).trans hb, r⟩
  · intro k
    rcases h.page k with hn | ⟨b, hb, hr⟩
    · exact Or.inl hn
    · obtain ⟨b1, b2, b3⟩ := h.page_apart hb
      exact Or.inr ⟨b, hb, hr.of_block (keep b hr.lt b1 b3)⟩

theorem Mm.cells (h : Mm w m M f tr n mb v D) : w.cell? ⟨m, 0, none⟩ = some (.int .i64 M) ∧ w.cell? ⟨m, 1, none⟩ = some (.map (some mb)) ∧ w.cell? ⟨m, 2, none⟩ = some v ∧ w.frozen? ⟨m, 2, none⟩ = false := by
  simp [World.cell?, World.frozen?, h.here]

end

end Go.Proofs.YtopmmlcjlopmaaaGreatDoor
