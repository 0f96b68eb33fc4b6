/- Several texts of ours in one: Wd, Mm, Mc. -/
import Derived.Test.YtlpjbmlkpmhdlaaDoorGBvAM
import Derived.Test.YtlpjbmlkpmhdlaaDoorGVjTdBy
import Derived.Lib.Hide
import Derived.WalkKit
import Derived.ProofKit
import Derived.Below
import Derived.OneCell
import Derived.Maps.OwnSet
import Derived.Maps.AppendAt
import Derived.Deep.OwnRows
import Derived.Test.YtlpjbmlkpmhdlaaDoorGVmRN
import Derived.WalkSpells
import Derived.Lib.SliceRun
/- Contracts of package word: the calls that make no memory. -/
namespace Go.Proofs.YtlpjbmlkpmhdlaaDoor
set_option linter.unusedVariables false
set_option linter.unusedSimpArgs false
open Go.ChangeShapes Go.WideShapes Go.ChangeAt Go.RowKit

theorem i64_bits {n : Int} (h0 : 1 ≤ n) (h1 : n ≤ 8) : I64 (8 * n) := by unfold I64; omega

theorem wrap_byte {x : Int} (hx : W64 x) (i : Int) : IntKind.u8.wrap (cutF x i 1) = byteF x i := by
  obtain ⟨h0, h1⟩ := byte_lt x i hx
  rw [IntKind.wrap_u8]
  exact Int.emod_eq_of_lt h0 h1

end Go.Proofs.YtlpjbmlkpmhdlaaDoor
/- A memory of package mem as it lies in the world: what it is, what turns, and what stays. -/
namespace Go.Proofs.YtlpjbmlkpmhdlaaDoor
set_option linter.unusedVariables false
set_option linter.unusedSimpArgs false
open Go.ChangeShapes Go.WideShapes Go.ChangeAt Go.RowKit
open Go.Maps (Keyed IsMap)

/-- how a pointer to a page reads in the map: by its block's number -/
def ptrElem : Value → Option (DataW Unit × List MemPlace)
  | .pointer none => some (.nil, [])
  | .pointer (some ⟨b, 0, none⟩) => some (.lit (.int .u64 b), [])
  | _ => none

theorem ptrElem_nil {v : Value} {ps : List MemPlace} (h : ptrElem v = some (.nil, ps)) : v = .pointer none := by
  unfold ptrElem at h
  split at h
  · rfl
  · simp at h
  · cases h

theorem ptrElem_at {v : Value} {b : Nat} {ps : List MemPlace} (h : ptrElem v = some (.lit (.int .u64 b), ps)) : v = .pointer (some ⟨b, 0, none⟩) := by
  unfold ptrElem at h
  split at h
  · simp at h
  · rename_i b'
    simp at h
    have e : b' = b := by omega
    rw [e]
  · cases h

theorem ptrElem_mk (b : Nat) : ptrElem (.pointer (some ⟨b, 0, none⟩)) = some (.lit (.int .u64 b), []) := rfl

abbrev Dw := DataW Unit

/-- which page has the number k -/
def pageOf (D : Dw) (k : Int) : Dw := D.atKey (.int .u64 k) .nil

theorem pageOf_same {D : Dw} (h : IsMap D) (k : Int) (d : Dw) : pageOf (D.put (.int .u64 k) d) k = d := Maps.atKey_put_same h (show WideAt.IsKeyLit (.int .u64 k) from trivial) d _
theorem pageOf_other {D : Dw} {k k' : Int} (h : k' ≠ k) (d : Dw) : pageOf (D.put (.int .u64 k) d) k' = pageOf D k' := Maps.atKey_put_other (by simpa using h) d _

/-- block m of w is a memory of M bits with the words f and the trace tr; mb: its map's block, v: its trace's slice, D: which pages there are -/
structure Mm (w : World) (m : Nat) (M : Int) (f : Int → Int) (tr : List Int) (n : Nat) (mb : Nat) (v : Value) (D : Dw) : Prop where
  bits : 14 ≤ M ∧ M ≤ 22
  here : w.heap[m]? = some (.cells #[.int .i64 M, .map (some mb), v] 110 (0, 0))
  pages : w.ownsMap Tryd.prog 23 ptrElem mb n D
  page : ∀ k : Int, (pageOf D k = .nil ∧ ∀ i : Nat, i < 512 → f (k * 512 + i) = 0) ∨ ∃ b : Nat, pageOf D k = .lit (.int .u64 b) ∧ w.rowIs b 113 512 (fun i => .int .u64 (f (k * 512 + i)))
  inj : ∀ (k k' : Int) (b : Nat), pageOf D k = .lit (.int .u64 b) → pageOf D k' = .lit (.int .u64 b) → k = k'
  full : ∀ kl, Maps.has D kl = true → ∃ (k : Int) (b : Nat), kl = .int .u64 k ∧ pageOf D k = .lit (.int .u64 b) ∧ 0 ≤ k ∧ k * 4096 < 2 ^ M.toNat
  trace : w.ownsRow 0 23 1 v tr.length (tr.map (Value.int .u64))
  few : tr.length ≤ n
  words : ∀ s, W64 (f s)

/-- the blocks that such a memory goes through -/
def Own (m mb : Nat) (v : Value) (D : Dw) (i : Nat) : Prop := i = m ∨ i = mb ∨ v.ownBlock = some i ∨ ∃ k, pageOf D k = .lit (.int .u64 (i : Nat))

def Mem (w : World) (F : Nat → Prop) (m : Nat) (M : Int) (f : Int → Int) (tr : List Int) (n : Nat) : Prop := ∃ mb v D, Mm w m M f tr n mb v D ∧ ∀ i, Own m mb v D i → F i

/-- w' is w but for the blocks of F and new ones -/
structure Turn (F : Nat → Prop) (w w' : World) : Prop where
  os : w'.os = w.os
  tape : w'.tape = w.tape
  output : w'.output = w.output
  size : w.heap.size ≤ w'.heap.size
  block : ∀ i, i < w.heap.size → ¬ F i → w'.heap[i]? = w.heap[i]?

/-- the blocks from B on -/
def From (B : Nat) : Nat → Prop := fun i => B ≤ i

/-- F, and what is new behind w -/
def Since (F : Nat → Prop) (w : World) (i : Nat) : Prop := F i ∨ w.heap.size ≤ i

theorem Turn.refl (F : Nat → Prop) (w : World) : Turn F w w := ⟨rfl, rfl, rfl, Nat.le_refl _, fun _ _ _ => rfl⟩
theorem Turn.trans {F : Nat → Prop} {a b c : World} (h : Turn F a b) (k : Turn (Since F a) b c) : Turn F a c :=
  ⟨k.os.trans h.os, k.tape.trans h.tape, k.output.trans h.output, Nat.le_trans h.size k.size, fun i hi hF => (k.block i (Nat.lt_of_lt_of_le hi h.size) (fun hs => by rcases hs with hs | hs; exact hF hs; omega)).trans (h.block i hi hF)⟩
theorem Turn.mono {F G : Nat → Prop} {a b : World} (h : Turn F a b) (hG : ∀ i, i < a.heap.size → F i → G i) : Turn G a b := ⟨h.os, h.tape, h.output, h.size, fun i hi hg => h.block i hi (fun hf => hg (hG i hi hf))⟩
theorem Turn.below {F : Nat → Prop} {a b : World} {B : Nat} (h : Turn F a b) (hF : ∀ i, F i → B ≤ i) (hB : B ≤ a.heap.size) : Below B a b :=
  ⟨h.os, h.tape, h.output, h.size, fun k hk => h.block k (by omega) (fun hf => by have := hF k hf; omega)⟩
theorem Turn.of_below {a b : World} {B : Nat} (h : Below B a b) : Turn (fun i => B ≤ i) a b := ⟨h.os, h.tape, h.output, h.size, fun i _ hn => h.block i (by omega)⟩
theorem Turn.of_kept {a b : World} (F : Nat → Prop) (h : Below a.heap.size a b) : Turn F a b := ⟨h.os, h.tape, h.output, h.size, fun i hi _ => h.block i hi⟩
theorem Turn.grown {F : Nat → Prop} {a b : World} {row : Option Nat} (h : a.grownBy b row) (hr : ∀ i, row = some i → F i) : Turn F a b := ⟨h.os, h.tape, h.output, h.size, fun i hi hn => h.block i hi (fun e => hn (hr i e.symm))⟩
theorem Turn.setCell (F : Nat → Prop) (a : World) (p : Addr) (u : Value) (hp : F p.block) : Turn F a (a.setCell p u) :=
  ⟨rfl, rfl, rfl, by simp [World.setCell], fun i _ hn => Below.heap_setCell _ _ _ _ (fun e => hn (e ▸ hp))⟩
theorem Turn.alloc (F : Nat → Prop) (a : World) (o : Obj) : Turn F a (a.alloc o) := Turn.grown (World.grownBy_alloc a o none) (by simp)

theorem since_mono {F : Nat → Prop} {a b : World} (hs : a.heap.size ≤ b.heap.size) {i : Nat} (h : Since F b i) : Since F a i := h.imp id (fun h => Nat.le_trans hs h)
theorem since_since {F : Nat → Prop} {a b : World} (hs : a.heap.size ≤ b.heap.size) {i : Nat} (h : Since (Since F a) b i) : Since F a i := by
  rcases h with h | h
  · exact h
  · exact Or.inr (Nat.le_trans hs h)

section
variable {w w' : World} {m : Nat} {M : Int} {f : Int → Int} {tr : List Int} {n mb : Nat} {v : Value} {D : Dw}

theorem Mm.own_lt (h : Mm w m M f tr n mb v D) {i : Nat} (hi : Own m mb v D i) : i < w.heap.size := by
  rcases hi with rfl | rfl | hv | ⟨k, hk⟩
  · exact lt_of_block h.here
  · exact h.pages.lt
  · exact (h.trace.lt i hv).2
  · rcases h.page k with ⟨hn, _⟩ | ⟨b, hb, hr⟩
    · rw [hn] at hk; cases hk
    · rw [hb] at hk
      simp at hk
      have e : b = i := by omega
      exact e ▸ hr.lt

/-- what its blocks hold is all that it is -/
theorem Mm.same (h : Mm w m M f tr n mb v D) (he : ∀ i, Own m mb v D i → w'.heap[i]? = w.heap[i]?) : Mm w' m M f tr n mb v D := by
  refine ⟨h.bits, (he m (Or.inl rfl)).trans h.here, ?_, ?_, h.inj, h.full, ?_, h.few, h.words⟩
  · obtain ⟨es, clock, hb, r⟩ := h.pages
    exact ⟨es, clock, (he mb (Or.inr (Or.inl rfl))).trans hb, r⟩
  · intro k
    rcases h.page k with hn | ⟨b, hb, hr⟩
    · exact Or.inl hn
    · exact Or.inr ⟨b, hb, hr.of_block (he b (Or.inr (Or.inr (Or.inr ⟨k, hb⟩))))⟩
  · refine ⟨h.trace.1, ?_⟩
    rcases h.trace.2 with hn | ⟨g, cap, cur, hv, hb, hg, r⟩
    · exact Or.inl hn
    · exact Or.inr ⟨g, cap, cur, hv, hb, (he g (Or.inr (Or.inr (Or.inl (by rw [hv]; rfl))))).trans hg, r⟩

theorem Mm.more (h : Mm w m M f tr n mb v D) {n' : Nat} (hn : n ≤ n') : Mm w m M f tr n' mb v D :=
  ⟨h.bits, h.here, h.pages.mono hn, h.page, h.inj, h.full, h.trace, Nat.le_trans h.few hn, h.words⟩

/-- a block that is a page is neither the memory's own, nor its map, nor its trace -/
theorem Mm.page_apart (h : Mm w m M f tr n mb v D) {k : Int} {b : Nat} (hb : pageOf D k = .lit (.int .u64 b)) : b ≠ m ∧ b ≠ mb ∧ v.ownBlock ≠ some b := by
  rcases h.page k with ⟨hn, _⟩ | ⟨b', hb', hr⟩
  · rw [hn] at hb; cases hb
  · rw [hb'] at hb
    simp at hb
    have e : b' = b := by omega
    subst e
    obtain ⟨c, hc, _⟩ := hr
    refine ⟨fun e => ?_, fun e => ?_, fun e => ?_⟩
    · rw [e, h.here] at hc; simp at hc
    · obtain ⟨es, clock, hm, _⟩ := h.pages
      rw [e, hm] at hc; simp at hc
    · rcases h.trace.2 with ⟨hn, _⟩ | ⟨g, cap, cur, hv, _, hg, _⟩
      · rw [hn] at e; simp [Value.ownBlock] at e
      · rw [hv] at e
        simp [Value.ownBlock] at e
        rw [← e, hg] at hc; simp at hc

theorem Mm.page_row (h : Mm w m M f tr n mb v D) {k : Int} {b : Nat} (hb : pageOf D k = .lit (.int .u64 b)) : w.rowIs b 113 512 (fun i => .int .u64 (f (k * 512 + i))) := by
  rcases h.page k with ⟨hn, _⟩ | ⟨b', hb', hr⟩
  · rw [hn] at hb; cases hb
  · rw [hb'] at hb
    simp at hb
    have e : b' = b := by omega
    exact e ▸ hr

theorem Mm.apart (h : Mm w m M f tr n mb v D) : m ≠ mb ∧ v.ownBlock ≠ some m ∧ v.ownBlock ≠ some mb := by
  refine ⟨fun e => ?_, fun e => ?_, fun e => ?_⟩
  · obtain ⟨es, clock, hm, _⟩ := h.pages
    rw [← e, h.here] at hm; simp at hm
  · rcases h.trace.2 with ⟨hn, _⟩ | ⟨g, cap, cur, hv, _, hg, _⟩
    · rw [hn] at e; simp [Value.ownBlock] at e
    · rw [hv] at e
      simp [Value.ownBlock] at e
      rw [e, h.here] at hg; simp at hg
  · obtain ⟨es, clock, hm, _⟩ := h.pages
    rcases h.trace.2 with ⟨hn, _⟩ | ⟨g, cap, cur, hv, _, hg, _⟩
    · rw [hn] at e; simp [Value.ownBlock] at e
    · rw [hv] at e
      simp [Value.ownBlock] at e
      rw [e, hm] at hg; simp at hg

/-- the words with x at s -/
def updF (f : Int → Int) (s x : Int) : Int → Int := fun j => if j = s then x else f j

/-- a word of a page that is there is written -/
theorem Mm.put (h : Mm w m M f tr n mb v D) {k : Int} {b : Nat} (hb : pageOf D k = .lit (.int .u64 b)) {r : Nat} (hr : r < 512) {x : Int} (hx : W64 x) :
    Mm (w.setCell ⟨b, r, none⟩ (.int .u64 x)) m M (updF f (k * 512 + r) x) tr n mb v D := by
  obtain ⟨a1, a2, a3⟩ := h.page_apart hb
  have keep : ∀ i, i ≠ b → (w.setCell ⟨b, r, none⟩ (.int .u64 x)).heap[i]? = w.heap[i]? := fun i hi => Below.heap_setCell _ _ _ _ hi
  refine ⟨h.bits, (keep m a1.symm).trans h.here, ?_, ?_, h.inj, h.full, ownsRow_setCell_other h.trace a3 _, h.few, ?_⟩
  · exact h.pages.setCell (fun e => a2 e.symm) _
  · intro k'
    rcases h.page k' with ⟨hn, hz⟩ | ⟨b', hb', hr'⟩
    · refine Or.inl ⟨hn, fun i hi => ?_⟩
      have : k' ≠ k := fun e => by rw [e, hb] at hn; cases hn
      unfold updF
      rw [if_neg (by omega)]
      exact hz i hi
    · refine Or.inr ⟨b', hb', ?_⟩
      by_cases e : k' = k
      · subst e
        have e2 : b' = b := by rw [hb'] at hb; simp at hb; omega
        subst e2
        refine (hr'.set r (.int .u64 x)).congr (fun i hi => ?_)
        unfold updF
        by_cases e3 : i = r
        · subst e3; simp
        · rw [if_neg e3, if_neg (by omega)]
      · have hne : b' ≠ b := fun e2 => e (h.inj k' k b (e2 ▸ hb') hb)
        refine (hr'.setOther (a := ⟨b, r, none⟩) hne _).congr (fun i hi => ?_)
        unfold updF
        rw [if_neg (by omega)]
  · intro s
    unfold updF
    split
    · exact hx
    · exact h.words s

theorem zeros_eq : Tryd.zeroCells113 = Array.replicate 512 (.int .u64 0) := by kernel_rfl

/-- a page is made -/
theorem Mm.made (h : Mm w m M f tr n mb v D) {k : Int} (hk : pageOf D k = .nil) (k0 : 0 ≤ k) (k1 : k * 4096 < 2 ^ M.toNat)
    (hmap : w'.ownsMap Tryd.prog 23 ptrElem mb (n + 1) (D.put (.int .u64 k) (.lit (.int .u64 w.heap.size)))) (hg : (w.alloc (.cells Tryd.zeroCells113 113)).grownBy w' (some mb)) :
    Mm w' m M f tr (n + 1) mb v (D.put (.int .u64 k) (.lit (.int .u64 w.heap.size))) := by
  have hD := h.pages.isMap
  obtain ⟨a1, a2, a3⟩ := h.apart
  have keep : ∀ i, i < w.heap.size → i ≠ mb → w'.heap[i]? = w.heap[i]? := fun i hi hne =>
    (hg.block i (by simp; omega) (by simpa using hne)).trans (Below.heap_alloc _ _ _ hi)
  have hnew : w'.rowIs w.heap.size 113 512 (fun i => .int .u64 (f (k * 512 + i))) := by
    have r0 : (w.alloc (.cells Tryd.zeroCells113 113)).rowIs w.heap.size 113 512 (fun _ => .int .u64 0) :=
      ⟨_, Deep.blk_alloc_new _ _, by rw [zeros_eq]; simp, fun i hi => by rw [zeros_eq]; simp [hi]⟩
    have hne : w.heap.size ≠ mb := by have := h.pages.lt; omega
    refine (r0.of_block (hg.block _ (by simp) (by simpa using hne))).congr (fun i hi => ?_)
    rcases h.page k with ⟨_, hz⟩ | ⟨b, hb, _⟩
    · rw [hz i hi]
    · rw [hk] at hb; cases hb
  refine ⟨h.bits, (keep m (h.own_lt (Or.inl rfl)) a1).trans h.here, hmap, ?_, ?_, ?_, ?_, Nat.le_succ_of_le h.few, h.words⟩
  · intro k'
    by_cases e : k' = k
    · subst e
      exact Or.inr ⟨w.heap.size, pageOf_same hD _ _, hnew⟩
    · rw [pageOf_other e]
      rcases h.page k' with hn | ⟨b, hb, hr⟩
      · exact Or.inl hn
      · exact Or.inr ⟨b, hb, hr.of_block (keep b hr.lt (h.page_apart hb).2.1)⟩
  · intro k1 k2 b h1 h2
    have old : ∀ k', pageOf D k' = .lit (.int .u64 b) → b < w.heap.size := fun k' hk' => h.own_lt (Or.inr (Or.inr (Or.inr ⟨k', hk'⟩)))
    by_cases e1 : k1 = k
    · by_cases e2 : k2 = k
      · rw [e1, e2]
      · rw [e1, pageOf_same hD] at h1
        rw [pageOf_other e2] at h2
        have := old _ h2
        simp at h1
        have e : w.heap.size = b := by omega
        omega
    · rw [pageOf_other e1] at h1
      by_cases e2 : k2 = k
      · rw [e2, pageOf_same hD] at h2
        have := old _ h1
        simp at h2
        have e : w.heap.size = b := by omega
        omega
      · rw [pageOf_other e2] at h2
        exact h.inj _ _ _ h1 h2
  · intro kl hkl
    by_cases e : kl = .int .u64 k
    · subst e
      exact ⟨k, w.heap.size, rfl, pageOf_same hD _ _, k0, k1⟩
    · rw [Maps.has_put_other e] at hkl
      obtain ⟨k', b, rfl, hb, r⟩ := h.full kl hkl
      exact ⟨k', b, rfl, by rw [pageOf_other (by simpa using e)]; exact hb, r⟩
  · exact (h.trace.alloc _).kept hg (Or.inr a3)

/-- the trace is another one -/
theorem Mm.retrace (h : Mm w m M f tr n mb v D) {tr' : List Int} {v' : Value} (hl : tr'.length ≤ n) (hs : w'.heap.size ≥ w.heap.size)
    (keep : ∀ i, i < w.heap.size → i ≠ m → v.ownBlock ≠ some i → w'.heap[i]? = w.heap[i]?) (hm : w'.heap[m]? = some (.cells #[.int .i64 M, .map (some mb), v'] 110 (0, 0)))
    (ht : w'.ownsRow 0 23 1 v' tr'.length (tr'.map (Value.int .u64))) : Mm w' m M f tr' n mb v' D := by
  obtain ⟨a1, a2, a3⟩ := h.apart
  refine ⟨h.bits, hm, ?_, ?_, h.inj, h.full, ht, hl, h.words⟩
  · have hlt := h.pages.lt
    obtain ⟨es, clock, hb, r⟩ := h.pages
    exact ⟨es, clock, (keep mb hlt a1.symm a3).trans hb, r⟩
  · intro k
    rcases h.page k with hn | ⟨b, hb, hr⟩
    · exact Or.inl hn
    · obtain ⟨b1, b2, b3⟩ := h.page_apart hb
      exact Or.inr ⟨b, hb, hr.of_block (keep b hr.lt b1 b3)⟩

theorem Mm.set2 (h : Mm w m M f tr n mb v D) (u : Value) : (w.setCell ⟨m, 2, none⟩ u).heap[m]? = some (.cells #[.int .i64 M, .map (some mb), u] 110 (0, 0)) := by
  simp [World.setCell, Array.getElem?_modify, h.here]

theorem Mm.cells (h : Mm w m M f tr n mb v D) : w.cell? ⟨m, 0, none⟩ = some (.int .i64 M) ∧ w.cell? ⟨m, 1, none⟩ = some (.map (some mb)) ∧ w.cell? ⟨m, 2, none⟩ = some v ∧ w.frozen? ⟨m, 2, none⟩ = false := by
  simp [World.cell?, World.frozen?, h.here]

end

end Go.Proofs.YtlpjbmlkpmhdlaaDoor
/- Contracts of package mem, over a memory as it lies in the world. -/
namespace Go.Proofs.YtlpjbmlkpmhdlaaDoor
set_option linter.unusedVariables false
set_option linter.unusedSimpArgs false
open Go.ChangeShapes Go.WideShapes Go.ChangeAt Go.RowKit
open Go.Maps (Keyed IsMap)

theorem law64 : Keyed Tryd.prog 23 := Maps.int_keyed Tryd.underlying23
theorem zeroPtr (w : World) : (zeroValue 111).run Tryd.prog w = .ok (.pointer none) w := by kernel_rfl
theorem wf64 {k : Int} (h : W64 k) : (Lit.int .u64 k).wf = true := by
  obtain ⟨h0, h1⟩ := h
  exact WalkArith.wf_u64 ⟨h0, by omega⟩
theorem key64 {k : Int} (h : W64 k) : keyOf Tryd.prog 23 (.int .u64 k) = some (.int .u64 k) := Maps.keyOf_int_mk Tryd.underlying23 (wf64 h)

section
variable {w : World} {m : Nat} {M : Int} {f : Int → Int} {tr : List Int} {n mb : Nat} {v : Value} {D : Dw}

theorem Mm.look_no (h : Mm w m M f tr n mb v D) {k : Int} (hw : W64 k) (hk : pageOf D k = .nil) :
    (Instr.lookup 108 (.map (some mb)) (.int .u64 k) false).run Tryd.prog w = .ok (.pointer none) w := by
  obtain ⟨v', ps, hrun, hv⟩ := h.pages.lookup law64 Tryd.underlying108 (zeroPtr w) (show ptrElem (.pointer none) = some (.nil, []) from rfl) (key64 hw)
  rw [show D.atKey (.int .u64 k) .nil = .nil from hk] at hv
  rw [hrun, ptrElem_nil hv]

theorem Mm.look_yes (h : Mm w m M f tr n mb v D) {k : Int} (hw : W64 k) {b : Nat} (hk : pageOf D k = .lit (.int .u64 b)) :
    (Instr.lookup 108 (.map (some mb)) (.int .u64 k) false).run Tryd.prog w = .ok (.pointer (some ⟨b, 0, none⟩)) w := by
  obtain ⟨v', ps, hrun, hv⟩ := h.pages.lookup law64 Tryd.underlying108 (zeroPtr w) (show ptrElem (.pointer none) = some (.nil, []) from rfl) (key64 hw)
  rw [show D.atKey (.int .u64 k) .nil = .lit (.int .u64 b) from hk] at hv
  rw [hrun, ptrElem_at hv]
end

/-- how many bytes a memory of M bits has -/
def sizeM (M : Int) : Int := 2 ^ M.toNat

theorem sizeM_bd {M : Int} (h : 14 ≤ M ∧ M ≤ 22) : 16384 ≤ sizeM M ∧ sizeM M ≤ 4194304 ∧ sizeM M % 4096 = 0 := by
  obtain ⟨h0, h1⟩ := h
  have : M = 14 ∨ M = 15 ∨ M = 16 ∨ M = 17 ∨ M = 18 ∨ M = 19 ∨ M = 20 ∨ M = 21 ∨ M = 22 := by omega
  rcases this with rfl | rfl | rfl | rfl | rfl | rfl | rfl | rfl | rfl <;> decide

theorem newMem_no (M : Int) (w : World) (h : M < 14 ∨ 22 < M) :
    Calls Tryd.prog 32 #[.int .i64 M] w fun e w' => e = .returned (.pointer none) ∧ w = w' := by
  by_cases h0 : M < 14
  · go_enter Tryd.func32, Tryd.ntmps32
    go_wp2
    go_ret
    exact ⟨rfl, rfl⟩
  · have h1 : 22 < M := by omega
    go_enter Tryd.func32, Tryd.ntmps32
    go_wp2
    go_ret
    exact ⟨rfl, rfl⟩

theorem mm_new (w : World) (M : Int) (h : 14 ≤ M ∧ M ≤ 22) : Mm ((w.alloc (.map #[] 0)).alloc (.cells #[.int .i64 M, .map (some w.heap.size), .slice none 0 0] 110)) (w.heap.size + 1) M (fun _ => 0) [] 0 w.heap.size (.slice none 0 0) (.map []) := by
  have e1 : (w.alloc (.map #[] 0)).heap.size = w.heap.size + 1 := by simp
  refine ⟨h, ?_, (World.ownsMap_made w Tryd.prog 23 ptrElem).alloc _, fun k => Or.inl ⟨rfl, fun _ _ => rfl⟩, ?_, ?_, World.ownsRow_nil _ _ _ _, Nat.le_refl _, fun _ => ⟨by decide, by decide⟩⟩
  · have := Deep.blk_alloc_new (w.alloc (.map #[] 0)) (.cells #[.int .i64 M, .map (some w.heap.size), .slice none 0 0] 110)
    rwa [e1] at this
  · intro k k' b hb
    cases hb
  · intro kl hkl
    cases hkl

theorem newMem_any (M : Int) (w : World) (h : 14 ≤ M ∧ M ≤ 22) :
    Calls Tryd.prog 32 #[.int .i64 M] w fun e w' => e = .returned (.pointer (some ⟨w.heap.size + 1, 0, none⟩)) ∧ Mem w' (From w.heap.size) (w.heap.size + 1) M (fun _ => 0) [] 0 ∧ Below w.heap.size w w' := by
  have hN := Lib.hid (mm_new w M h)
  obtain ⟨h0, h1⟩ := h
  have hmm := @run_makeMap Tryd.prog
  go_enter Tryd.func32, Tryd.ntmps32
  go_wp2
  go_ret
  refine ⟨by simp, ⟨_, _, _, hN.out, ?_⟩, ((Below.refl _ w).alloc (Nat.le_refl _) _).alloc (by simp) _⟩
  rintro i (rfl | rfl | hv | ⟨k, hk⟩)
  · exact Nat.le_succ _
  · exact Nat.le_refl _
  · simp [Value.ownBlock] at hv
  · cases hk

theorem msize_nil (w : World) : Calls Tryd.prog 76 #[.pointer none] w fun e w' => e = .returned (.int .u64 0) ∧ w = w' := by
  go_enter Tryd.func76, Tryd.ntmps76
  go_wp2
  go_ret
  exact ⟨rfl, rfl⟩

set_option maxRecDepth 100000 in
theorem msize_any {w : World} {m : Nat} {M : Int} {f : Int → Int} {tr : List Int} {n mb : Nat} {v : Value} {D : Dw} (h : Mm w m M f tr n mb v D) :
    Calls Tryd.prog 76 #[.pointer (some ⟨m, 0, none⟩)] w fun e w' => e = .returned (.int .u64 (sizeM M)) ∧ w = w' := by
  obtain ⟨c0, c1, c2, _⟩ := h.cells
  obtain ⟨h0, h1⟩ := h.bits
  have : M = 14 ∨ M = 15 ∨ M = 16 ∨ M = 17 ∨ M = 18 ∨ M = 19 ∨ M = 20 ∨ M = 21 ∨ M = 22 := by omega
  have qM : ∀ (w : World) (r : Option Nat), (binOp .eql 108 (.map r) (.map none)).run Tryd.prog w = .ok (.bool r.isNone) w := fun w r => run_eql_map_nil w _ _ _ r Tryd.underlying108
  clear h c2
  rcases this with rfl | rfl | rfl | rfl | rfl | rfl | rfl | rfl | rfl
  all_goals
    go_enter Tryd.func76, Tryd.ntmps76
    go_wp2
    go_ret
    exact ⟨rfl, rfl⟩


/-- why there is no slot at a -/
def errS (M a : Int) : Int := if sizeM M ≤ a then 2 else if a % 8 = 0 then 0 else 3

theorem slotError_nil (a : Int) (w : World) (ha : 0 ≤ a) : Calls Tryd.prog 57 #[.pointer none, .int .u64 a] w fun e w' => e = .returned (.int .i64 2) ∧ w = w' := by
  go_enter Tryd.func57, Tryd.ntmps57
  go_wp2_with (go_at_call 76; refine (msize_nil _).mono ?_; rintro e w' ⟨rfl, rfl⟩)
  go_ret
  exact ⟨rfl, rfl⟩

theorem slotError_any {w : World} {m : Nat} {M : Int} {f : Int → Int} {tr : List Int} {n mb : Nat} {v : Value} {D : Dw} (h : Mm w m M f tr n mb v D) (a : Int) (ha : 0 ≤ a) :
    Calls Tryd.prog 57 #[.pointer (some ⟨m, 0, none⟩), .int .u64 a] w fun e w' => e = .returned (.int .i64 (errS M a)) ∧ w = w' := by
  by_cases h1 : sizeM M ≤ a
  · rw [show errS M a = 2 from if_pos h1]
    go_enter Tryd.func57, Tryd.ntmps57
    go_wp2_with (go_at_call 76; refine (msize_any h).mono ?_; rintro e w' ⟨rfl, rfl⟩)
    go_ret
    exact ⟨rfl, rfl⟩
  · by_cases h2 : a % 8 = 0
    · rw [show errS M a = 0 by unfold errS; rw [if_neg h1, if_pos h2]]
      have h1' : a < sizeM M := by omega
      clear h1
      go_enter Tryd.func57, Tryd.ntmps57
      go_wp2_with (go_at_call 76; refine (msize_any h).mono ?_; rintro e w' ⟨rfl, rfl⟩)
      go_ret
      exact ⟨rfl, rfl⟩
    · rw [show errS M a = 3 by unfold errS; rw [if_neg h1, if_neg h2]]
      have h1' : a < sizeM M := by omega
      clear h1
      go_enter Tryd.func57, Tryd.ntmps57
      go_wp2_with (go_at_call 76; refine (msize_any h).mono ?_; rintro e w' ⟨rfl, rfl⟩)
      go_ret
      exact ⟨rfl, rfl⟩

theorem wrap_in {a : Int} (h0 : 0 ≤ a) (h1 : a < 18446744073709551616) : IntKind.u64.wrap a = a := by
  show a % 18446744073709551616 = a
  omega

/-- an address's page k, and the place r of its slot there, as the program reckons them -/
structure Splits (a k q : Int) (r : Nat) : Prop where
  k0 : 0 ≤ k
  kw : W64 k
  r5 : r < 512
  slot : a / 8 = k * 512 + r
  page : a / 4096 = k
  t1 : a.tdiv 4096 = k
  t2 : IntKind.u64.wrap k = k
  t3 : a.tmod 4096 = q
  t4 : IntKind.u64.wrap q = q
  t5 : q.tdiv 8 = r
  t6 : IntKind.u64.wrap (r : Int) = r
  q0 : 0 ≤ q
  q1 : q < 4096

theorem addr_split {a : Int} (ha : W64 a) : ∃ (k q : Int) (r : Nat), Splits a k q r := by
  obtain ⟨h0, h1⟩ := ha
  refine ⟨a / 4096, a % 4096, (a % 4096 / 8).toNat, by omega, ⟨by omega, by omega⟩, by omega, by omega, rfl, Int.tdiv_eq_ediv_of_nonneg h0, wrap_in (by omega) (by omega), Int.tmod_eq_emod_of_nonneg h0, wrap_in (by omega) (by omega), ?_, wrap_in (by omega) (by omega), by omega, by omega⟩
  rw [Int.tdiv_eq_ediv_of_nonneg (by omega)]
  omega

set_option maxRecDepth 100000 in
theorem mread_any {w : World} {m : Nat} {M : Int} {f : Int → Int} {tr : List Int} {n mb : Nat} {v : Value} {D : Dw} (h : Mm w m M f tr n mb v D) (a : Int) (ha : W64 a) :
    Calls Tryd.prog 58 #[.pointer (some ⟨m, 0, none⟩), .int .u64 a] w fun e w' => e = .returned (.int .u64 (f (a / 8))) ∧ w = w' := by
  obtain ⟨k, q, r, k0, hkw, hr5, hs, hk, t1, t2, t3, t4, t5, t6, q0, q1⟩ := addr_split ha
  obtain ⟨c0, c1, c2, _⟩ := h.cells
  rw [hs]
  have a0 := ha.1
  clear hs
  rcases h.page k with ⟨hn, hz⟩ | ⟨b, hb, hrow⟩
  · have hl := h.look_no hkw hn
    rw [hz r hr5]
    clear h c0 c2 hz ha hkw
    go_enter Tryd.func58, Tryd.ntmps58
    go_wp2
    go_ret
    exact ⟨rfl, rfl⟩
  · have hl := h.look_yes hkw hb
    have hc := hrow.cell hr5
    clear h c0 c2 hrow ha hkw
    go_enter Tryd.func58, Tryd.ntmps58
    go_wp2
    go_ret
    exact ⟨rfl, rfl⟩

theorem own_put_page {m mb : Nat} {v : Value} {D : Dw} (hD : IsMap D) {k : Int} {B : Nat} {i : Nat} (h : Own m mb v (D.put (.int .u64 k) (.lit (.int .u64 B))) i) : Own m mb v D i ∨ i = B := by
  rcases h with h | h | h | ⟨k', hk⟩
  · exact Or.inl (Or.inl h)
  · exact Or.inl (Or.inr (Or.inl h))
  · exact Or.inl (Or.inr (Or.inr (Or.inl h)))
  · by_cases e : k' = k
    · subst e
      rw [pageOf_same hD] at hk
      simp at hk
      right; omega
    · rw [pageOf_other e] at hk
      exact Or.inl (Or.inr (Or.inr (Or.inr ⟨k', hk⟩)))

set_option maxRecDepth 100000 in
theorem mwrite_any {w : World} {F : Nat → Prop} {m : Nat} {M : Int} {f : Int → Int} {tr : List Int} {n : Nat} (h : Mem w F m M f tr n) (hn : n < 1000000) (a x : Int) (ha : W64 a) (ha1 : a < sizeM M) (hx : W64 x) :
    Calls Tryd.prog 59 #[.pointer (some ⟨m, 0, none⟩), .int .u64 a, .int .u64 x] w fun e w' => e = .returned (.tuple #[]) ∧ Mem w' (Since F w) m M (updF f (a / 8) x) tr (n + 1) ∧ Turn F w w' := by
  obtain ⟨mb, v, D, h, hF⟩ := h
  obtain ⟨k, q, r, k0, hkw, hr5, hs, hk, t1, t2, t3, t4, t5, t6, q0, q1⟩ := addr_split ha
  obtain ⟨s0, s1, s2⟩ := sizeM_bd h.bits
  have hk1 : k * 4096 < sizeM M := by omega
  obtain ⟨c0, c1, c2, _⟩ := h.cells
  rw [hs]
  have HK := Lib.hid hk1
  have HX := Lib.hid hx
  clear hs hk1 hx s0 s1 s2 ha1 ha
  rcases h.page k with ⟨hn', hz⟩ | ⟨b, hb, hrow⟩
  · have hl := h.look_no hkw hn'
    have hkey := Lib.hid (key64 hkw)
    have HH := Lib.hid h
    have HN := Lib.hid hn'
    have hlt := Lib.hid (h.own_lt (i := m) (Or.inl rfl))
    have c1' : (w.alloc (.cells Tryd.zeroCells113 113)).cell? ⟨m, 1, none⟩ = some (.map (some mb)) := by
      rw [← c1]; exact World.cell?_of_block (Below.heap_alloc _ _ _ hlt.out)
    clear h hz hkw hn' c0 c2
    go_enter Tryd.func59, Tryd.ntmps59
    go_wp2_with (at_mapUpdate; refine wpList_mapUpdate_own _ rfl _ _ _ 108 rfl 23 111 law64 Tryd.underlying108 ptrElem mb n D rfl (World.ownsMap.alloc HH.out.pages _) (by unfold maxLen; omega) _ _ _ rfl rfl hkey.out _ [] (ptrElem_mk _) ?_; intro w1 hown1 hgrow1; have hp1 := Lib.hid (HH.out.made HN.out k0 HK.out hown1 hgrow1); have hq1 := Lib.hid (pageOf_same HH.out.pages.isMap k (.lit (.int .u64 w.heap.size))); have hT1 := Lib.hid hgrow1; clear hown1 hgrow1; have hrow' := hp1.out.page_row hq1.out; have hcell := hrow'.cell hr5; have hfz := hrow'.frozen r; clear hrow')
    go_end0
    refine ⟨rfl, ⟨mb, v, _, hp1.out.put hq1.out hr5 HX.out, fun i hi => ?_⟩, ?_⟩
    · rcases own_put_page HH.out.pages.isMap hi with hi | rfl
      · exact Or.inl (hF i hi)
      · exact Or.inr (Nat.le_refl _)
    · exact ((Turn.alloc F w _).trans (Turn.grown hT1.out (fun i hi => by cases hi; exact Or.inl (hF mb (Or.inr (Or.inl rfl)))))).trans (Turn.setCell _ _ _ _ (Or.inr (Nat.le_refl _)))
  · have hl := h.look_yes hkw hb
    have hc := hrow.cell hr5
    have hfz := hrow.frozen r
    have HH := Lib.hid h
    have HB := Lib.hid hb
    clear h c0 c2 hrow hkw hb
    go_enter Tryd.func59, Tryd.ntmps59
    go_wp2
    go_end0
    exact ⟨rfl, ⟨mb, v, D, (HH.out.put HB.out hr5 HX.out).more (Nat.le_succ _), fun i hi => Or.inl (hF i hi)⟩, Turn.setCell _ _ _ _ (hF b (Or.inr (Or.inr (Or.inr ⟨k, HB.out⟩))))⟩

end Go.Proofs.YtlpjbmlkpmhdlaaDoor
