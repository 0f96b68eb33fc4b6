/- (*Mem).Copy. -/
import Derived.Test.YtfakfmefjfemhaaDi
import Derived.Deep.WholeRow
import Derived.Maps.RangeWalk
namespace Go.Proofs.Ytfakfmefjfemhaa
set_option linter.unusedVariables false
set_option linter.unusedSimpArgs false
open Go.ChangeShapes Go.WideShapes Go.ChangeAt Go.RowKit Go.Joins

theorem wpList_store_last {P : Program} {ops : Array Oper} {rest : List Oper} {o : Oper} {a : Act} {w : World} {Q : Exit → Act → World → Prop} (hgd : o.guard = none) (ty : TypeId) (x y : Operand) (ho : o.op = .store ty x y)
    (hx : a.eval x = .pointer (some ⟨w.heap.size, 0, none⟩)) (c c' : Array Value) (hy : a.eval y = .agg c') (hi : (P.info? ty).map (·.size) = some c'.size) (hc : c.size = c'.size) (h1 : c'.all (·.oneCell') = true)
    (h : wpList P ops Q rest (a.put o.dst undef) (w.alloc (.cells c' ty))) : wpList P ops Q (o :: rest) a (w.alloc (.cells c ty)) := by
  refine wpList_plain hgd fun K hK => ?_
  have hr := run_storeAt_new (P := P) w ty c c' hi hc h1
  unfold Oper.wp execOp
  simp only [ho, hx, hy, Sem.run_bind, hr, Result.andThen_ok, Sem.run_pure]
  exact hK _ _ h

section
variable {w w' : World} {m : Nat} {M : Int} {f f' : Int → Int} {tr : List Int} {n mb : Nat} {v : Value} {D : Dw}

/-- a page is laid, with its words -/
theorem Mm.laid (h : Mm w m M f tr n mb v D) {k : Int} (hk : pageOf D k = .nil) (k0 : 0 ≤ k) (k1 : k * 4096 < 2 ^ M.toNat) {cs : Array Value} (hs : cs.size = 512) (hcs : ∀ i : Nat, i < 512 → cs[i]? = some (.int .u64 (f' (k * 512 + i)))) (hf : ∀ s, s / 512 ≠ k → f' s = f s) (hw : ∀ s, W64 (f' s))
    (hmap : w'.ownsMap Try.prog 30 ptrElem mb (n + 1) (D.put (.int .u64 k) (.lit (.int .u64 w.heap.size)))) (hg : (w.alloc (.cells cs 84)).grownBy w' (some mb)) :
    Mm w' m M f' tr (n + 1) mb v (D.put (.int .u64 k) (.lit (.int .u64 w.heap.size))) := by
  have hD := h.pages.isMap
  obtain ⟨a1, a2, a3⟩ := h.apart
  have keep : ∀ i, i < w.heap.size → i ≠ mb → w'.heap[i]? = w.heap[i]? := fun i hi hne =>
    (hg.block i (by simp; omega) (by simpa using hne)).trans (Below.heap_alloc _ _ _ hi)
  have hnew : w'.rowIs w.heap.size 84 512 (fun i => .int .u64 (f' (k * 512 + i))) := by
    have r0 : (w.alloc (.cells cs 84)).rowIs w.heap.size 84 512 (fun i => .int .u64 (f' (k * 512 + i))) := ⟨_, Deep.blk_alloc_new _ _, hs, hcs⟩
    have hne : w.heap.size ≠ mb := by have := h.pages.lt; omega
    exact r0.of_block (hg.block _ (by simp) (by simpa using hne))
  refine ⟨h.bits, (keep m (h.own_lt (Or.inl rfl)) a1).trans h.here, hmap, ?_, ?_, ?_, ?_, Nat.le_succ_of_le h.few, hw⟩
  · intro k'
    by_cases e : k' = k
    · subst e
      exact Or.inr ⟨w.heap.size, pageOf_same hD _ _, hnew⟩
    · rw [pageOf_other e]
      have hff : ∀ i : Nat, i < 512 → f' (k' * 512 + i) = f (k' * 512 + i) := fun i hi => hf _ (by omega)
      rcases h.page k' with ⟨hn, hz⟩ | ⟨b, hb, hr⟩
      · exact Or.inl ⟨hn, fun i hi => by rw [hff i hi, hz i hi]⟩
      · exact Or.inr ⟨b, hb, (hr.of_block (keep b hr.lt (h.page_apart hb).2.1)).congr fun i hi => by rw [hff i hi]⟩
  · intro k1 k2 b h1 h2
    have old : ∀ k', pageOf D k' = .lit (.int .u64 b) → b < w.heap.size := fun k' hk' => h.own_lt (Or.inr (Or.inr (Or.inr ⟨k', hk'⟩)))
    by_cases e1 : k1 = k
    · by_cases e2 : k2 = k
      · rw [e1, e2]
      · rw [e1, pageOf_same hD] at h1
        rw [pageOf_other e2] at h2
        have := old _ h2
        simp at h1
        have e : w.heap.size = b := by omega
        omega
    · rw [pageOf_other e1] at h1
      by_cases e2 : k2 = k
      · rw [e2, pageOf_same hD] at h2
        have := old _ h1
        simp at h2
        have e : w.heap.size = b := by omega
        omega
      · rw [pageOf_other e2] at h2
        exact h.inj _ _ _ h1 h2
  · intro kl hkl
    by_cases e : kl = .int .u64 k
    · subst e
      exact ⟨k, w.heap.size, rfl, pageOf_same hD _ _, k0, k1⟩
    · rw [Maps.has_put_other e] at hkl
      obtain ⟨k', b, rfl, hb, r⟩ := h.full kl hkl
      exact ⟨k', b, rfl, by rw [pageOf_other (by simpa using e)]; exact hb, r⟩
  · exact (h.trace.alloc _).kept hg (Or.inr a3)
end

/-- how far a copy has come -/
structure Copied (w wr : World) (D Dk : Dw) (f fk : Int → Int) (left : Lit → Bool) (c : Nat) (M : Int) (nk mbc : Nat) (vc : Value) : Prop where
  mm : Mm wr c M fk [] nk mbc vc Dk
  own : ∀ i, Own c mbc vc Dk i → w.heap.size ≤ i
  yes : ∀ x, left (.int .u64 x) = false → ∀ s, s / 512 = x → fk s = f s
  no : ∀ x, left (.int .u64 x) = true → pageOf Dk x = .nil ∧ ∀ s, s / 512 = x → fk s = 0

theorem Copied.step {w wr w2 w3 : World} {D Dk : Dw} {f fk : Int → Int} {left : Lit → Bool} {c : Nat} {M : Int} {nk mbc : Nat} {vc : Value} (h : Copied w wr D Dk f fk left c M nk mbc vc) {x : Int} (hx : left (.int .u64 x) = true) (k0 : 0 ≤ x) (k1 : x * 4096 < 2 ^ M.toNat)
    (h2 : Mm w2 c M fk [] nk mbc vc Dk) (hs2 : w.heap.size ≤ w2.heap.size) {cs : Array Value} (hs : cs.size = 512) (hcs : ∀ i : Nat, i < 512 → cs[i]? = some (.int .u64 (f (x * 512 + i)))) (hw : ∀ s, W64 (f s))
    (hmap : w3.ownsMap Try.prog 30 ptrElem mbc (nk + 1) (Dk.put (.int .u64 x) (.lit (.int .u64 w2.heap.size)))) (hg : (w2.alloc (.cells cs 84)).grownBy w3 (some mbc)) :
    Copied w w3 D (Dk.put (.int .u64 x) (.lit (.int .u64 w2.heap.size))) f (fun s => if s / 512 = x then f s else fk s) (fun z => left z && !z.sameKey (.int .u64 x)) c M (nk + 1) mbc vc := by
  obtain ⟨n1, n2⟩ := h.no x hx
  refine ⟨h2.laid n1 k0 k1 hs (fun i hi => ?_) (fun s hs => if_neg hs) (fun s => ?_) hmap hg, fun i hi => ?_, fun y hy s hsy => ?_, fun y hy => ?_⟩
  · rw [if_pos (by omega)]; exact hcs i hi
  · show W64 (if s / 512 = x then f s else fk s)
    split
    · exact hw s
    · exact h.mm.words s
  · rcases own_put_page h2.pages.isMap hi with hi | rfl
    · exact h.own i hi
    · exact hs2
  · show (if s / 512 = x then f s else fk s) = f s
    by_cases e : s / 512 = x
    · rw [if_pos e]
    · rw [if_neg e]
      refine h.yes y ?_ s hsy
      have hne : y ≠ x := fun h => e (hsy.trans h)
      simpa [Lit.sameKey, hne] using hy
  · have hne : y ≠ x := by
      rintro rfl
      simp [Lit.sameKey] at hy
    have hy' : left (.int .u64 y) = true := by simpa [Lit.sameKey, hne] using hy
    obtain ⟨q1, q2⟩ := h.no y hy'
    refine ⟨by rw [pageOf_other hne]; exact q1, fun s hs => ?_⟩
    show (if s / 512 = x then f s else fk s) = 0
    rw [if_neg (by omega)]
    exact q2 s hs

end Go.Proofs.Ytfakfmefjfemhaa
