/- Several texts of ours in one: Wd, Mm, Ca. -/
import Derived.Test.YtiihhlmddmicjaaDoorGBvAM
import Derived.Test.YtiihhlmddmicjaaDoorGVjTdBy
import Derived.Lib.Hide
import Derived.WalkKit
import Derived.ProofKit
import Derived.Below
import Derived.OneCell
import Derived.Maps.OwnSet
import Derived.Maps.AppendAt
import Derived.Deep.OwnRows
/- Contracts of package word: the calls that make no memory. -/
namespace Go.Proofs.YtiihhlmddmicjaaDoor
set_option linter.unusedVariables false
set_option linter.unusedSimpArgs false
open Go.ChangeShapes Go.WideShapes Go.ChangeAt Go.RowKit

end Go.Proofs.YtiihhlmddmicjaaDoor
/- A memory of package mem as it lies in the world: what it is, what turns, and what stays. -/
namespace Go.Proofs.YtiihhlmddmicjaaDoor
set_option linter.unusedVariables false
set_option linter.unusedSimpArgs false
open Go.ChangeShapes Go.WideShapes Go.ChangeAt Go.RowKit
open Go.Maps (Keyed IsMap)

/-- how a pointer to a page reads in the map: by its block's number -/
def ptrElem : Value → Option (DataW Unit × List MemPlace)
  | .pointer none => some (.nil, [])
  | .pointer (some ⟨b, 0, none⟩) => some (.lit (.int .u64 b), [])
  | _ => none

theorem ptrElem_nil {v : Value} {ps : List MemPlace} (h : ptrElem v = some (.nil, ps)) : v = .pointer none := by
  unfold ptrElem at h
  split at h
  · rfl
  · simp at h
  · cases h

theorem ptrElem_at {v : Value} {b : Nat} {ps : List MemPlace} (h : ptrElem v = some (.lit (.int .u64 b), ps)) : v = .pointer (some ⟨b, 0, none⟩) := by
  unfold ptrElem at h
  split at h
  · simp at h
  · rename_i b'
    simp at h
    have e : b' = b := by omega
    rw [e]
  · cases h

theorem ptrElem_mk (b : Nat) : ptrElem (.pointer (some ⟨b, 0, none⟩)) = some (.lit (.int .u64 b), []) := rfl

abbrev Dw := DataW Unit

/-- which page has the number k -/
def pageOf (D : Dw) (k : Int) : Dw := D.atKey (.int .u64 k) .nil

theorem pageOf_same {D : Dw} (h : IsMap D) (k : Int) (d : Dw) : pageOf (D.put (.int .u64 k) d) k = d := Maps.atKey_put_same h (show WideAt.IsKeyLit (.int .u64 k) from trivial) d _
theorem pageOf_other {D : Dw} {k k' : Int} (h : k' ≠ k) (d : Dw) : pageOf (D.put (.int .u64 k) d) k' = pageOf D k' := Maps.atKey_put_other (by simpa using h) d _

/-- block m of w is a memory of M bits with the words f and the trace tr; mb: its map's block, v: its trace's slice, D: which pages there are -/
structure Mm (w : World) (m : Nat) (M : Int) (f : Int → Int) (tr : List Int) (n : Nat) (mb : Nat) (v : Value) (D : Dw) : Prop where
  bits : 14 ≤ M ∧ M ≤ 22
  here : w.heap[m]? = some (.cells #[.int .i64 M, .map (some mb), v] 147 (0, 0))
  pages : w.ownsMap Tryd.prog 34 ptrElem mb n D
  page : ∀ k : Int, (pageOf D k = .nil ∧ ∀ i : Nat, i < 512 → f (k * 512 + i) = 0) ∨ ∃ b : Nat, pageOf D k = .lit (.int .u64 b) ∧ w.rowIs b 160 512 (fun i => .int .u64 (f (k * 512 + i)))
  inj : ∀ (k k' : Int) (b : Nat), pageOf D k = .lit (.int .u64 b) → pageOf D k' = .lit (.int .u64 b) → k = k'
  full : ∀ kl, Maps.has D kl = true → ∃ (k : Int) (b : Nat), kl = .int .u64 k ∧ pageOf D k = .lit (.int .u64 b) ∧ 0 ≤ k ∧ k * 4096 < 2 ^ M.toNat
  trace : w.ownsRow 0 34 1 v tr.length (tr.map (Value.int .u64))
  few : tr.length ≤ n
  words : ∀ s, W64 (f s)

/-- the blocks that such a memory goes through -/
def Own (m mb : Nat) (v : Value) (D : Dw) (i : Nat) : Prop := i = m ∨ i = mb ∨ v.ownBlock = some i ∨ ∃ k, pageOf D k = .lit (.int .u64 (i : Nat))

def Mem (w : World) (F : Nat → Prop) (m : Nat) (M : Int) (f : Int → Int) (tr : List Int) (n : Nat) : Prop := ∃ mb v D, Mm w m M f tr n mb v D ∧ ∀ i, Own m mb v D i → F i

/-- w' is w but for the blocks of F and new ones -/
structure Turn (F : Nat → Prop) (w w' : World) : Prop where
  os : w'.os = w.os
  tape : w'.tape = w.tape
  output : w'.output = w.output
  size : w.heap.size ≤ w'.heap.size
  block : ∀ i, i < w.heap.size → ¬ F i → w'.heap[i]? = w.heap[i]?

/-- the blocks from B on -/
def From (B : Nat) : Nat → Prop := fun i => B ≤ i

/-- F, and what is new behind w -/
def Since (F : Nat → Prop) (w : World) (i : Nat) : Prop := F i ∨ w.heap.size ≤ i

theorem Turn.refl (F : Nat → Prop) (w : World) : Turn F w w := ⟨rfl, rfl, rfl, Nat.le_refl _, fun _ _ _ => rfl⟩
theorem Turn.trans {F : Nat → Prop} {a b c : World} (h : Turn F a b) (k : Turn (Since F a) b c) : Turn F a c :=
  ⟨k.os.trans h.os, k.tape.trans h.tape, k.output.trans h.output, Nat.le_trans h.size k.size, fun i hi hF => (k.block i (Nat.lt_of_lt_of_le hi h.size) (fun hs => by rcases hs with hs | hs; exact hF hs; omega)).trans (h.block i hi hF)⟩
theorem Turn.mono {F G : Nat → Prop} {a b : World} (h : Turn F a b) (hG : ∀ i, i < a.heap.size → F i → G i) : Turn G a b := ⟨h.os, h.tape, h.output, h.size, fun i hi hg => h.block i hi (fun hf => hg (hG i hi hf))⟩
theorem Turn.below {F : Nat → Prop} {a b : World} {B : Nat} (h : Turn F a b) (hF : ∀ i, F i → B ≤ i) (hB : B ≤ a.heap.size) : Below B a b :=
  ⟨h.os, h.tape, h.output, h.size, fun k hk => h.block k (by omega) (fun hf => by have := hF k hf; omega)⟩
theorem Turn.of_below {a b : World} {B : Nat} (h : Below B a b) : Turn (fun i => B ≤ i) a b := ⟨h.os, h.tape, h.output, h.size, fun i _ hn => h.block i (by omega)⟩
theorem Turn.of_kept {a b : World} (F : Nat → Prop) (h : Below a.heap.size a b) : Turn F a b := ⟨h.os, h.tape, h.output, h.size, fun i hi _ => h.block i hi⟩
theorem Turn.grown {F : Nat → Prop} {a b : World} {row : Option Nat} (h : a.grownBy b row) (hr : ∀ i, row = some i → F i) : Turn F a b := ⟨h.os, h.tape, h.output, h.size, fun i hi hn => h.block i hi (fun e => hn (hr i e.symm))⟩
theorem Turn.setCell (F : Nat → Prop) (a : World) (p : Addr) (u : Value) (hp : F p.block) : Turn F a (a.setCell p u) :=
  ⟨rfl, rfl, rfl, by simp [World.setCell], fun i _ hn => Below.heap_setCell _ _ _ _ (fun e => hn (e ▸ hp))⟩
theorem Turn.alloc (F : Nat → Prop) (a : World) (o : Obj) : Turn F a (a.alloc o) := Turn.grown (World.grownBy_alloc a o none) (by simp)

section
variable {w w' : World} {m : Nat} {M : Int} {f : Int → Int} {tr : List Int} {n mb : Nat} {v : Value} {D : Dw}

theorem Mm.own_lt (h : Mm w m M f tr n mb v D) {i : Nat} (hi : Own m mb v D i) : i < w.heap.size := by
  rcases hi with rfl | rfl | hv | ⟨k, hk⟩
  · exact lt_of_block h.here
  · exact h.pages.lt
  · exact (h.trace.lt i hv).2
  · rcases h.page k with ⟨hn, _⟩ | ⟨b, hb, hr⟩
    · rw [hn] at hk; cases hk
    · rw [hb] at hk
      simp at hk
      have e : b = i := by omega
      exact e ▸ hr.lt

/-- what its blocks hold is all that it is -/
theorem Mm.same (h : Mm w m M f tr n mb v D) (he : ∀ i, Own m mb v D i → w'.heap[i]? = w.heap[i]?) : Mm w' m M f tr n mb v D := by
  refine ⟨h.bits, (he m (Or.inl rfl)).trans h.here, ?_, ?_, h.inj, h.full, ?_, h.few, h.words⟩
  · obtain ⟨es, clock, hb, r⟩ := h.pages
    exact ⟨es, clock, (he mb (Or.inr (Or.inl rfl))).trans hb, r⟩
  · intro k
    rcases h.page k with hn | ⟨b, hb, hr⟩
    · exact Or.inl hn
    · exact Or.inr ⟨b, hb, hr.of_block (he b (Or.inr (Or.inr (Or.inr ⟨k, hb⟩))))⟩
  · refine ⟨h.trace.1, ?_⟩
    rcases h.trace.2 with hn | ⟨g, cap, cur, hv, hb, hg, r⟩
    · exact Or.inl hn
    · exact Or.inr ⟨g, cap, cur, hv, hb, (he g (Or.inr (Or.inr (Or.inl (by rw [hv]; rfl))))).trans hg, r⟩

theorem Mm.more (h : Mm w m M f tr n mb v D) {n' : Nat} (hn : n ≤ n') : Mm w m M f tr n' mb v D :=
  ⟨h.bits, h.here, h.pages.mono hn, h.page, h.inj, h.full, h.trace, Nat.le_trans h.few hn, h.words⟩

/-- a block that is a page is neither the memory's own, nor its map, nor its trace -/
theorem Mm.page_apart (h : Mm w m M f tr n mb v D) {k : Int} {b : Nat} (hb : pageOf D k = .lit (.int .u64 b)) : b ≠ m ∧ b ≠ mb ∧ v.ownBlock ≠ some b := by
  rcases h.page k with ⟨hn, _⟩ | ⟨b', hb', hr⟩
  · rw [hn] at hb; cases hb
  · rw [hb'] at hb
    simp at hb
    have e : b' = b := by omega
    subst e
    obtain ⟨c, hc, _⟩ := hr
    refine ⟨fun e => ?_, fun e => ?_, fun e => ?_⟩
    · rw [e, h.here] at hc; simp at hc
    · obtain ⟨es, clock, hm, _⟩ := h.pages
      rw [e, hm] at hc; simp at hc
    · rcases h.trace.2 with ⟨hn, _⟩ | ⟨g, cap, cur, hv, _, hg, _⟩
      · rw [hn] at e; simp [Value.ownBlock] at e
      · rw [hv] at e
        simp [Value.ownBlock] at e
        rw [← e, hg] at hc; simp at hc

theorem Mm.page_row (h : Mm w m M f tr n mb v D) {k : Int} {b : Nat} (hb : pageOf D k = .lit (.int .u64 b)) : w.rowIs b 160 512 (fun i => .int .u64 (f (k * 512 + i))) := by
  rcases h.page k with ⟨hn, _⟩ | ⟨b', hb', hr⟩
  · rw [hn] at hb; cases hb
  · rw [hb'] at hb
    simp at hb
    have e : b' = b := by omega
    exact e ▸ hr

theorem Mm.apart (h : Mm w m M f tr n mb v D) : m ≠ mb ∧ v.ownBlock ≠ some m ∧ v.ownBlock ≠ some mb := by
  refine ⟨fun e => ?_, fun e => ?_, fun e => ?_⟩
  · obtain ⟨es, clock, hm, _⟩ := h.pages
    rw [← e, h.here] at hm; simp at hm
  · rcases h.trace.2 with ⟨hn, _⟩ | ⟨g, cap, cur, hv, _, hg, _⟩
    · rw [hn] at e; simp [Value.ownBlock] at e
    · rw [hv] at e
      simp [Value.ownBlock] at e
      rw [e, h.here] at hg; simp at hg
  · obtain ⟨es, clock, hm, _⟩ := h.pages
    rcases h.trace.2 with ⟨hn, _⟩ | ⟨g, cap, cur, hv, _, hg, _⟩
    · rw [hn] at e; simp [Value.ownBlock] at e
    · rw [hv] at e
      simp [Value.ownBlock] at e
      rw [e, hm] at hg; simp at hg

/-- the words with x at s -/
def updF (f : Int → Int) (s x : Int) : Int → Int := fun j => if j = s then x else f j

/-- a word of a page that is there is written -/
theorem Mm.put (h : Mm w m M f tr n mb v D) {k : Int} {b : Nat} (hb : pageOf D k = .lit (.int .u64 b)) {r : Nat} (hr : r < 512) {x : Int} (hx : W64 x) :
    Mm (w.setCell ⟨b, r, none⟩ (.int .u64 x)) m M (updF f (k * 512 + r) x) tr n mb v D := by
  obtain ⟨a1, a2, a3⟩ := h.page_apart hb
  have keep : ∀ i, i ≠ b → (w.setCell ⟨b, r, none⟩ (.int .u64 x)).heap[i]? = w.heap[i]? := fun i hi => Below.heap_setCell _ _ _ _ hi
  refine ⟨h.bits, (keep m a1.symm).trans h.here, ?_, ?_, h.inj, h.full, ownsRow_setCell_other h.trace a3 _, h.few, ?_⟩
  · exact h.pages.setCell (fun e => a2 e.symm) _
  · intro k'
    rcases h.page k' with ⟨hn, hz⟩ | ⟨b', hb', hr'⟩
    · refine Or.inl ⟨hn, fun i hi => ?_⟩
      have : k' ≠ k := fun e => by rw [e, hb] at hn; cases hn
      unfold updF
      rw [if_neg (by omega)]
      exact hz i hi
    · refine Or.inr ⟨b', hb', ?_⟩
      by_cases e : k' = k
      · subst e
        have e2 : b' = b := by rw [hb'] at hb; simp at hb; omega
        subst e2
        refine (hr'.set r (.int .u64 x)).congr (fun i hi => ?_)
        unfold updF
        by_cases e3 : i = r
        · subst e3; simp
        · rw [if_neg e3, if_neg (by omega)]
      · have hne : b' ≠ b := fun e2 => e (h.inj k' k b (e2 ▸ hb') hb)
        refine (hr'.setOther (a := ⟨b, r, none⟩) hne _).congr (fun i hi => ?_)
        unfold updF
        rw [if_neg (by omega)]
  · intro s
    unfold updF
    split
    · exact hx
    · exact h.words s

theorem zeros_eq : Tryd.zeroCells160 = Array.replicate 512 (.int .u64 0) := by kernel_rfl

/-- a page is made -/
theorem Mm.made (h : Mm w m M f tr n mb v D) {k : Int} (hk : pageOf D k = .nil) (k0 : 0 ≤ k) (k1 : k * 4096 < 2 ^ M.toNat)
    (hmap : w'.ownsMap Tryd.prog 34 ptrElem mb (n + 1) (D.put (.int .u64 k) (.lit (.int .u64 w.heap.size)))) (hg : (w.alloc (.cells Tryd.zeroCells160 160)).grownBy w' (some mb)) :
    Mm w' m M f tr (n + 1) mb v (D.put (.int .u64 k) (.lit (.int .u64 w.heap.size))) := by
  have hD := h.pages.isMap
  obtain ⟨a1, a2, a3⟩ := h.apart
  have keep : ∀ i, i < w.heap.size → i ≠ mb → w'.heap[i]? = w.heap[i]? := fun i hi hne =>
    (hg.block i (by simp; omega) (by simpa using hne)).trans (Below.heap_alloc _ _ _ hi)
  have hnew : w'.rowIs w.heap.size 160 512 (fun i => .int .u64 (f (k * 512 + i))) := by
    have r0 : (w.alloc (.cells Tryd.zeroCells160 160)).rowIs w.heap.size 160 512 (fun _ => .int .u64 0) :=
      ⟨_, Deep.blk_alloc_new _ _, by rw [zeros_eq]; simp, fun i hi => by rw [zeros_eq]; simp [hi]⟩
    have hne : w.heap.size ≠ mb := by have := h.pages.lt; omega
    refine (r0.of_block (hg.block _ (by simp) (by simpa using hne))).congr (fun i hi => ?_)
    rcases h.page k with ⟨_, hz⟩ | ⟨b, hb, _⟩
    · rw [hz i hi]
    · rw [hk] at hb; cases hb
  refine ⟨h.bits, (keep m (h.own_lt (Or.inl rfl)) a1).trans h.here, hmap, ?_, ?_, ?_, ?_, Nat.le_succ_of_le h.few, h.words⟩
  · intro k'
    by_cases e : k' = k
    · subst e
      exact Or.inr ⟨w.heap.size, pageOf_same hD _ _, hnew⟩
    · rw [pageOf_other e]
      rcases h.page k' with hn | ⟨b, hb, hr⟩
      · exact Or.inl hn
      · exact Or.inr ⟨b, hb, hr.of_block (keep b hr.lt (h.page_apart hb).2.1)⟩
  · intro k1 k2 b h1 h2
    have old : ∀ k', pageOf D k' = .lit (.int .u64 b) → b < w.heap.size := fun k' hk' => h.own_lt (Or.inr (Or.inr (Or.inr ⟨k', hk'⟩)))
    by_cases e1 : k1 = k
    · by_cases e2 : k2 = k
      · rw [e1, e2]
      · rw [e1, pageOf_same hD] at h1
        rw [pageOf_other e2] at h2
        have := old _ h2
        simp at h1
        have e : w.heap.size = b := by omega
        omega
    · rw [pageOf_other e1] at h1
      by_cases e2 : k2 = k
      · rw [e2, pageOf_same hD] at h2
        have := old _ h1
        simp at h2
        have e : w.heap.size = b := by omega
        omega
      · rw [pageOf_other e2] at h2
        exact h.inj _ _ _ h1 h2
  · intro kl hkl
    by_cases e : kl = .int .u64 k
    · subst e
      exact ⟨k, w.heap.size, rfl, pageOf_same hD _ _, k0, k1⟩
    · rw [Maps.has_put_other e] at hkl
      obtain ⟨k', b, rfl, hb, r⟩ := h.full kl hkl
      exact ⟨k', b, rfl, by rw [pageOf_other (by simpa using e)]; exact hb, r⟩
  · exact (h.trace.alloc _).kept hg (Or.inr a3)

/-- the trace is another one -/
theorem Mm.retrace (h : Mm w m M f tr n mb v D) {tr' : List Int} {v' : Value} (hl : tr'.length ≤ n) (hs : w'.heap.size ≥ w.heap.size)
    (keep : ∀ i, i < w.heap.size → i ≠ m → v.ownBlock ≠ some i → w'.heap[i]? = w.heap[i]?) (hm : w'.heap[m]? = some (.cells #[.int .i64 M, .map (some mb), v'] 147 (0, 0)))
    (ht : w'.ownsRow 0 34 1 v' tr'.length (tr'.map (Value.int .u64))) : Mm w' m M f tr' n mb v' D := by
  obtain ⟨a1, a2, a3⟩ := h.apart
  refine ⟨h.bits, hm, ?_, ?_, h.inj, h.full, ht, hl, h.words⟩
  · have hlt := h.pages.lt
    obtain ⟨es, clock, hb, r⟩ := h.pages
    exact ⟨es, clock, (keep mb hlt a1.symm a3).trans hb, r⟩
  · intro k
    rcases h.page k with hn | ⟨b, hb, hr⟩
    · exact Or.inl hn
    · obtain ⟨b1, b2, b3⟩ := h.page_apart hb
      exact Or.inr ⟨b, hb, hr.of_block (keep b hr.lt b1 b3)⟩

theorem Mm.cells (h : Mm w m M f tr n mb v D) : w.cell? ⟨m, 0, none⟩ = some (.int .i64 M) ∧ w.cell? ⟨m, 1, none⟩ = some (.map (some mb)) ∧ w.cell? ⟨m, 2, none⟩ = some v ∧ w.frozen? ⟨m, 2, none⟩ = false := by
  simp [World.cell?, World.frozen?, h.here]

end

end Go.Proofs.YtiihhlmddmicjaaDoor
/- A cache's lines, as a list of keys and lines: what is done to them. Nothing of the program. -/
namespace Go.Proofs.YtiihhlmddmicjaaDoor
set_option linter.unusedVariables false
set_option linter.unusedSimpArgs false
open Go.ChangeShapes Go.WideShapes Go.ChangeAt Go.RowKit

/-- a key: Pcid, Level, Tag -/
abbrev Ky := Int × Int × Int
/-- a line: Frame, W, U, X, Dirty, Mask -/
abbrev Ln := Int × Bool × Bool × Bool × Bool × Int
abbrev Pr := Ky × Ln

def zK : Ky := (0, 0, 0)
def zL : Ln := (0, false, false, false, false, 0)
def zP : Pr := (zK, zL)

def keysK (L : List Pr) : List Ky := L.map (·.1)
/-- the place of a key -/
def idxF (ks : List Ky) (k : Ky) : Option Nat := ks.findIdx? (fun x => decide (x = k))
def posF (o : Option Nat) : Int := match o with | some i => i | none => -1
def getK (L : List Pr) (k : Ky) : Option Ln := (L.find? (fun x => decide (x.1 = k))).map (·.2)
/-- the place that a number picks of n -/
def pickF (a : Int) (n : Nat) : Nat := (a % (n : Int)).toNat
def evK (L : List Pr) (a : Int) : List Pr := if L.length = 0 then L else L.eraseIdx (pickF a L.length)
def cutO (L : List Pr) (o : Option Nat) : List Pr := match o with | some i => L.eraseIdx i | none => L
def dropK (L : List Pr) (k : Ky) : List Pr := cutO L (idxF (keysK L) k)
def ofK (L : List Pr) (p : Int) : List Pr := L.filter (fun x => decide (x.1.1 ≠ p))
def putK (R : Nat) (L : List Pr) (k : Ky) (l : Ln) (a : Int) : List Pr :=
  match idxF (keysK L) k with
  | some i => L.set i (k, l)
  | none => if R = 0 then L else (if R ≤ L.length then evK L a else L) ++ [(k, l)]
def updG (g : Ky → Option Ln) (k : Ky) (o : Option Ln) : Ky → Option Ln := fun k' => if k' = k then o else g k'

theorem keysK_len (L : List Pr) : (keysK L).length = L.length := by simp [keysK]
theorem keysK_getD (L : List Pr) (i : Nat) : (keysK L).getD i zK = (L.getD i zP).1 := by
  unfold keysK
  simp only [List.getD, List.getElem?_map]
  cases L[i]? <;> rfl

theorem idxF_none {ks : List Ky} {k : Ky} (h : ∀ i, i < ks.length → ks.getD i zK ≠ k) : idxF ks k = none := by
  unfold idxF
  rw [List.findIdx?_eq_none_iff]
  intro x hx
  obtain ⟨i, hi, rfl⟩ := List.mem_iff_getElem.1 hx
  have := h i hi
  rw [List.getD, List.getElem?_eq_getElem hi] at this
  simpa using this
theorem idxF_some {ks : List Ky} {k : Ky} {i : Nat} (hi : i < ks.length) (h : ks.getD i zK = k) (hlt : ∀ j, j < i → ks.getD j zK ≠ k) : idxF ks k = some i := by
  unfold idxF
  rw [List.findIdx?_eq_some_iff_getElem]
  refine ⟨hi, ?_, fun j hj => ?_⟩
  · rw [List.getD, List.getElem?_eq_getElem hi] at h
    simpa using h
  · have := hlt j hj
    rw [List.getD, List.getElem?_eq_getElem (by omega)] at this
    simpa using this
theorem idxF_of {ks : List Ky} {k : Ky} {i : Nat} (h : idxF ks k = some i) : i < ks.length ∧ ks.getD i zK = k := by
  unfold idxF at h
  rw [List.findIdx?_eq_some_iff_getElem] at h
  obtain ⟨hi, h1, _⟩ := h
  refine ⟨hi, ?_⟩
  rw [List.getD, List.getElem?_eq_getElem hi]
  simpa using h1
theorem idxF_no {ks : List Ky} {k : Ky} (h : idxF ks k = none) : k ∉ ks := by
  unfold idxF at h
  rw [List.findIdx?_eq_none_iff] at h
  intro hk
  simpa using h k hk
theorem getK_iff {L : List Pr} (hn : (keysK L).Nodup) {k : Ky} {l : Ln} : getK L k = some l ↔ (k, l) ∈ L := by
  unfold getK
  induction L with
  | nil => simp
  | cons x L ih =>
    have hn' : x.1 ∉ keysK L ∧ (keysK L).Nodup := by simpa [keysK] using hn
    simp only [List.find?_cons]
    by_cases e : x.1 = k
    · subst e
      simp only [decide_true, Option.map_some, Option.some.injEq, List.mem_cons]
      constructor
      · rintro rfl; exact Or.inl rfl
      · rintro (h | h)
        · rw [← h]
        · exact absurd (List.mem_map.2 ⟨_, h, rfl⟩) hn'.1
    · simp only [decide_eq_false e, List.mem_cons]
      rw [ih hn'.2]
      constructor
      · exact Or.inr
      · rintro (h | h)
        · exact absurd (by rw [← h]) e
        · exact h
theorem getK_none {L : List Pr} {k : Ky} : getK L k = none ↔ k ∉ keysK L := by
  unfold getK keysK
  simp only [Option.map_eq_none_iff, List.find?_eq_none, decide_eq_true_eq, List.mem_map, not_exists, not_and]
theorem getK_idx (L : List Pr) (k : Ky) : getK L k = (idxF (keysK L) k).map (fun i => (L.getD i zP).2) := by
  induction L with
  | nil => rfl
  | cons x L ih =>
    unfold getK idxF keysK at *
    simp only [List.find?_cons, List.map_cons, List.findIdx?_cons]
    by_cases e : x.1 = k
    · simp [e]
    · simp only [decide_eq_false e]
      rw [ih]
      simp
      cases (L.findIdx? ((fun x => decide (x = k)) ∘ fun x => x.1)) <;> rfl

theorem ext_of_iff {g g' : Ky → Option Ln} (h : ∀ k l, g k = some l ↔ g' k = some l) : g = g' := by
  funext k
  apply Option.ext
  intro l
  exact h k l

theorem nodupK_erase {L : List Pr} (hn : (keysK L).Nodup) (i : Nat) : (keysK (L.eraseIdx i)).Nodup := by
  unfold keysK at *
  exact hn.sublist ((List.eraseIdx_sublist L i).map _)
theorem keysK_set {L : List Pr} {i : Nat} {k : Ky} (h : (keysK L).getD i zK = k) (l : Ln) : keysK (L.set i (k, l)) = keysK L := by
  unfold keysK at *
  rw [List.map_set]
  apply List.ext_getElem (by simp)
  intro j h1 h2
  by_cases e : i = j
  · subst e
    rw [List.getD, List.getElem?_eq_getElem h2] at h
    simp at h ⊢
    exact h.symm
  · rw [List.getElem_set_ne e]
theorem keysK_erase (L : List Pr) (i : Nat) : keysK (L.eraseIdx i) = (keysK L).eraseIdx i := by
  unfold keysK
  induction L generalizing i with
  | nil => rfl
  | cons x L ih => cases i <;> simp [ih]
theorem keysK_append (L K : List Pr) : keysK (L ++ K) = keysK L ++ keysK K := by simp [keysK]

theorem mem_erase_iff {L : List Pr} (hn : (keysK L).Nodup) {i : Nat} (hi : i < L.length) (x : Pr) : x ∈ L.eraseIdx i ↔ x ∈ L ∧ x.1 ≠ (L.getD i zP).1 := by
  rw [List.mem_eraseIdx_iff_getElem]
  have hg : L.getD i zP = L[i] := by rw [List.getD, List.getElem?_eq_getElem hi]; rfl
  rw [hg]
  constructor
  · rintro ⟨j, hj, hne, rfl⟩
    refine ⟨List.getElem_mem _, fun e => hne ?_⟩
    have h1 := List.getElem_inj (xs := keysK L) (i := j) (j := i) (h₀ := by rw [keysK_len]; exact hj) (h₁ := by rw [keysK_len]; exact hi) hn
    exact h1.1 (by simpa [keysK] using e)
  · rintro ⟨hx, hne⟩
    obtain ⟨j, hj, rfl⟩ := List.mem_iff_getElem.1 hx
    exact ⟨j, hj, fun e => hne (by subst e; rfl), rfl⟩

theorem getK_erase {L : List Pr} (hn : (keysK L).Nodup) {i : Nat} (hi : i < L.length) : getK (L.eraseIdx i) = updG (getK L) (L.getD i zP).1 none := by
  apply ext_of_iff
  intro k l
  rw [getK_iff (nodupK_erase hn i), mem_erase_iff hn hi]
  unfold updG
  by_cases e : k = (L.getD i zP).1
  · simp [e]
  · rw [if_neg e, getK_iff hn]
    exact ⟨fun h => h.1, fun h => ⟨h, e⟩⟩
theorem getK_set {L : List Pr} (hn : (keysK L).Nodup) {i : Nat} {k : Ky} (hi : i < L.length) (hk : (keysK L).getD i zK = k) (l : Ln) : getK (L.set i (k, l)) = updG (getK L) k (some l) := by
  apply ext_of_iff
  intro k' l'
  have hn' : (keysK (L.set i (k, l))).Nodup := by rw [keysK_set hk]; exact hn
  rw [getK_iff hn']
  unfold updG
  by_cases e : k' = k
  · subst e
    rw [if_pos rfl]
    have hm : (k', l) ∈ L.set i (k', l) := List.mem_iff_getElem.2 ⟨i, by simpa using hi, by simp⟩
    constructor
    · intro h
      have h1 := (getK_iff hn').2 h
      have h2 := (getK_iff hn').2 hm
      rw [h1] at h2; exact h2.symm ▸ rfl
    · intro h
      rw [Option.some.injEq] at h
      subst h; exact hm
  · rw [if_neg e, getK_iff hn]
    constructor
    · intro h
      obtain ⟨j, hj, hx⟩ := List.mem_iff_getElem.1 h
      have hj' : j < L.length := by simpa using hj
      by_cases e2 : i = j
      · subst e2
        simp at hx
        exact absurd hx.1.symm e
      · rw [List.getElem_set_ne e2] at hx
        exact hx ▸ List.getElem_mem hj'
    · intro h
      obtain ⟨j, hj, hx⟩ := List.mem_iff_getElem.1 h
      refine List.mem_iff_getElem.2 ⟨j, by simpa using hj, ?_⟩
      have e2 : i ≠ j := by
        rintro rfl
        rw [keysK_getD, List.getD, List.getElem?_eq_getElem hj, hx] at hk
        exact e (by simpa using hk)
      rw [List.getElem_set_ne e2]; exact hx
theorem getK_push {L : List Pr} {k : Ky} (hk : k ∉ keysK L) (l : Ln) : getK (L ++ [(k, l)]) = updG (getK L) k (some l) := by
  funext k'
  unfold updG
  by_cases e : k' = k
  · subst e
    rw [if_pos rfl]
    have := getK_none.2 hk
    unfold getK at *
    rw [List.find?_append]
    rw [Option.map_eq_none_iff] at this
    simp [this]
  · rw [if_neg e]
    unfold getK
    rw [List.find?_append]
    rw [List.find?_cons, show decide ((k, l).1 = k') = false from decide_eq_false fun h => e h.symm]
    simp
theorem nodup_push {L : List Pr} (hn : (keysK L).Nodup) {k : Ky} (hk : k ∉ keysK L) (l : Ln) : (keysK (L ++ [(k, l)])).Nodup := by
  rw [keysK_append]
  refine List.nodup_append.2 ⟨hn, by simp [keysK], ?_⟩
  intro a ha b hb
  simp [keysK] at hb
  subst hb
  exact fun e => hk (e ▸ ha)

theorem pickF_lt (a : Int) {n : Nat} (h : 0 < n) : pickF a n < n := by
  unfold pickF
  have h1 := Int.emod_nonneg a (b := (n : Int)) (by omega)
  have h2 := Int.emod_lt_of_pos a (b := (n : Int)) (by omega)
  omega

theorem evK_len (L : List Pr) (a : Int) : (evK L a).length = L.length - 1 := by
  unfold evK
  split
  · omega
  · rw [List.length_eraseIdx_of_lt (pickF_lt a (by omega))]
theorem evK_sub (L : List Pr) (a : Int) : (evK L a).Sublist L := by
  unfold evK
  split
  · exact List.Sublist.refl _
  · exact List.eraseIdx_sublist _ _
theorem putK_len {R : Nat} {L : List Pr} (h : L.length ≤ R) (k : Ky) (l : Ln) (a : Int) : (putK R L k l a).length ≤ R := by
  unfold putK
  split
  · simpa using h
  · split
    · exact h
    · rw [List.length_append]
      split
      · rw [evK_len]; simp; omega
      · simp; omega
end Go.Proofs.YtiihhlmddmicjaaDoor
