/- Several texts of ours in one: Dh, Di, Dc. -/
import Derived.Test.YtopmmlcjlopmaaaGreatDoorGSiWnDg
import Derived.Test.YtopmmlcjlopmaaaGreatDoorGMeEmEa
import Derived.Test.YtopmmlcjlopmaaaGreatDoorGRfSmHe
import Derived.Deep.WholeRow
import Derived.Maps.RangeWalk
/- Where two memories differ: nothing of the program's walks. -/
namespace Go.Proofs.YtopmmlcjlopmaaaGreatDoor
set_option linter.unusedVariables false
set_option linter.unusedSimpArgs false
open Go.RowKit

/-- the slot at x differs -/
def Dif (f g : Int → Int) (x : Int) : Prop := x % 8 = 0 ∧ f (x / 8) ≠ g (x / 8)

/-- ds is where f and g differ, below X -/
def DifTo (f g : Int → Int) (ds : List Int) (X : Int) : Prop := ds.Pairwise (· < ·) ∧ ∀ x, x ∈ ds ↔ (Dif f g x ∧ x < X)

/-- ds is where f and g differ -/
def IsDif (f g : Int → Int) (ds : List Int) : Prop := ds.Pairwise (· < ·) ∧ ∀ x, x ∈ ds ↔ Dif f g x

theorem DifTo.skip {f g : Int → Int} {ds : List Int} {X Y : Int} (h : DifTo f g ds X) (hXY : X ≤ Y) (hn : ∀ x, Dif f g x → X ≤ x → Y ≤ x) : DifTo f g ds Y :=
  ⟨h.1, fun x => by
    rw [h.2 x]
    constructor
    · rintro ⟨a, b⟩; exact ⟨a, by omega⟩
    · rintro ⟨a, b⟩
      refine ⟨a, ?_⟩
      by_cases c : x < X
      · exact c
      · have := hn x a (by omega); omega⟩

theorem DifTo.add {f g : Int → Int} {ds : List Int} {X : Int} (h : DifTo f g ds X) (hX : X % 8 = 0) (hd : f (X / 8) ≠ g (X / 8)) : DifTo f g (ds ++ [X]) (X + 8) := by
  refine ⟨List.pairwise_append.2 ⟨h.1, by simp, fun a ha b hb => ?_⟩, fun x => ?_⟩
  · simp at hb; subst hb
    exact ((h.2 a).1 ha).2
  · rw [List.mem_append, h.2 x]
    simp only [List.mem_singleton]
    constructor
    · rintro (⟨a, b⟩ | rfl)
      · exact ⟨a, by omega⟩
      · exact ⟨⟨hX, hd⟩, by omega⟩
    · rintro ⟨a, b⟩
      by_cases c : x < X
      · exact Or.inl ⟨a, c⟩
      · right; have := a.1; omega

theorem rising_ext : ∀ (l l' : List Int), l.Pairwise (· < ·) → l'.Pairwise (· < ·) → (∀ x, x ∈ l ↔ x ∈ l') → l = l'
  | [], [], _, _, _ => rfl
  | [], b :: l', _, _, h => by have := (h b).2 (by simp); simp at this
  | a :: l, [], _, _, h => by have := (h a).1 (by simp); simp at this
  | a :: l, b :: l', h1, h2, h => by
    obtain ⟨a1, a2⟩ := List.pairwise_cons.1 h1
    obtain ⟨b1, b2⟩ := List.pairwise_cons.1 h2
    have e : a = b := by
      have ha := (h a).1 (by simp)
      have hb := (h b).2 (by simp)
      rcases List.mem_cons.1 ha with ha | ha
      · exact ha
      · rcases List.mem_cons.1 hb with hb | hb
        · exact hb.symm
        · have := b1 a ha; have := a1 b hb; omega
    subst e
    rw [rising_ext l l' a2 b2 fun x => ?_]
    constructor
    · intro hx
      rcases List.mem_cons.1 ((h x).1 (by simp [hx])) with e | e
      · subst e; have := a1 x hx; omega
      · exact e
    · intro hx
      rcases List.mem_cons.1 ((h x).2 (by simp [hx])) with e | e
      · subst e; have := b1 x hx; omega
      · exact e

theorem IsDif.same {f g : Int → Int} {ds ds' : List Int} (h : IsDif f g ds) (h' : IsDif f g ds') : ds = ds' := rising_ext _ _ h.1 h'.1 fun x => by rw [h.2, h'.2]
theorem IsDif.none {f : Int → Int} {ds : List Int} (h : IsDif f f ds) : ds = [] := by
  cases ds with
  | nil => rfl
  | cons a l => exact absurd rfl ((h.2 a).1 (by simp)).2

/-- what is left when j pages have been looked at -/
structure Left (f g : Int → Int) (ps : List Int) (j : Nat) (ds : List Int) (X : Int) : Prop where
  dif : DifTo f g ds X
  rest : ∀ x, Dif f g x → X ≤ x → x / 4096 ∈ ps.drop j
  low : ∀ k ∈ ps.drop j, X ≤ k * 4096

theorem Left.start {f g : Int → Int} {ps : List Int} (h0 : ∀ k ∈ ps, 0 ≤ k) (h : ∀ x, Dif f g x → x / 4096 ∈ ps) : Left f g ps 0 [] 0 :=
  ⟨⟨List.Pairwise.nil, fun x => by
    simp only [List.not_mem_nil, false_iff]
    rintro ⟨a, b⟩
    have := h0 _ (h x a)
    omega⟩, fun x hx _ => h x hx, fun k hk => by have := h0 k hk; omega⟩

theorem Left.done {f g : Int → Int} {ps : List Int} {ds : List Int} {X : Int} (h : Left f g ps ps.length ds X) : IsDif f g ds := by
  refine ⟨h.dif.1, fun x => ?_⟩
  rw [h.dif.2 x]
  constructor
  · exact fun a => a.1
  · intro a
    refine ⟨a, ?_⟩
    by_cases c : x < X
    · exact c
    · have := h.rest x a (by omega)
      rw [List.drop_length] at this
      simp at this

section
variable {w : World} {m : Nat} {M : Int} {f : Int → Int} {tr : List Int} {n mb : Nat} {v : Value} {D : Dw}

end

end Go.Proofs.YtopmmlcjlopmaaaGreatDoor
/- mem.Diff. -/
namespace Go.Proofs.YtopmmlcjlopmaaaGreatDoor
set_option linter.unusedVariables false
set_option linter.unusedSimpArgs false
open Go.ChangeShapes Go.WideShapes Go.ChangeAt Go.RowKit Go.Joins

theorem Lst.down {w : World} {v : Value} {zs : List Int} {B B' : Nat} (h : Lst w B v zs) (hB : B' ≤ B) : Lst w B' v zs := by
  refine ⟨h.1, ?_⟩
  rcases h.2 with h | ⟨g, cap, cur, h1, h2, r⟩
  · exact Or.inl h
  · exact Or.inr ⟨g, cap, cur, h1, Nat.le_trans hB h2, r⟩

end Go.Proofs.YtopmmlcjlopmaaaGreatDoor
/- (*Mem).Copy. -/
namespace Go.Proofs.YtopmmlcjlopmaaaGreatDoor
set_option linter.unusedVariables false
set_option linter.unusedSimpArgs false
open Go.ChangeShapes Go.WideShapes Go.ChangeAt Go.RowKit Go.Joins

section
variable {w w' : World} {m : Nat} {M : Int} {f f' : Int → Int} {tr : List Int} {n mb : Nat} {v : Value} {D : Dw}

/-- a page is laid, with its words -/
theorem Mm.laid (h : Mm w m M f tr n mb v D) {k : Int} (hk : pageOf D k = .nil) (k0 : 0 ≤ k) (k1 : k * 4096 < 2 ^ M.toNat) {cs : Array Value} (hs : cs.size = 512) (hcs : ∀ i : Nat, i < 512 → cs[i]? = some (.int .u64 (f' (k * 512 + i)))) (hf : ∀ s, s / 512 ≠ k → f' s = f s) (hw : ∀ s, W64 (f' s))
    (hmap : w'.ownsMap Tryz.prog 23 ptrElem mb (n + 1) (D.put (.int .u64 k) (.lit (.int .u64 w.heap.size)))) (hg : (w.alloc (.cells cs 110)).grownBy w' (some mb)) :
    Mm w' m M f' tr (n + 1) mb v (D.put (.int .u64 k) (.lit (.int .u64 w.heap.size))) := by
  have hD := h.pages.isMap
  obtain ⟨a1, a2, a3⟩ := h.apart
  have keep : ∀ i, i < w.heap.size → i ≠ mb → w'.heap[i]? = w.heap[i]? := fun i hi hne =>
    (hg.block i (by simp; omega) (by simpa using hne)).trans (Below.heap_alloc _ _ _ hi)
  have hnew : w'.rowIs w.heap.size 110 512 (fun i => .int .u64 (f' (k * 512 + i))) := by
    have r0 : (w.alloc (.cells cs 110)).rowIs w.heap.size 110 512 (fun i => .int .u64 (f' (k * 512 + i))) := ⟨_, Deep.blk_alloc_new _ _, hs, hcs⟩
    have hne : w.heap.size ≠ mb := by have := h.pages.lt; omega
    exact r0.of_block (hg.block _ (by simp) (by simpa using hne))
  refine ⟨h.bits, (keep m (h.own_lt (Or.inl rfl)) a1).trans h.here, hmap, ?_, ?_, ?_, ?_, Nat.le_succ_of_le h.few, hw⟩
  · intro k'
    by_cases e : k' = k
    · subst e
      exact Or.inr ⟨w.heap.size, pageOf_same hD _ _, hnew⟩
    · rw [pageOf_other e]
      have hff : ∀ i : Nat, i < 512 → f' (k' * 512 + i) = f (k' * 512 + i) := fun i hi => hf _ (by omega)
      rcases h.page k' with ⟨hn, hz⟩ | ⟨b, hb, hr⟩
      · exact Or.inl ⟨hn, fun i hi => by rw [hff i hi, hz i hi]⟩
      · exact Or.inr ⟨b, hb, (hr.of_block (keep b hr.lt (h.page_apart hb).2.1)).congr fun i hi => by rw [hff i hi]⟩
  · intro k1 k2 b h1 h2
    have old : ∀ k', pageOf D k' = .lit (.int .u64 b) → b < w.heap.size := fun k' hk' => h.own_lt (Or.inr (Or.inr (Or.inr ⟨k', hk'⟩)))
    by_cases e1 : k1 = k
    · by_cases e2 : k2 = k
      · rw [e1, e2]
      · rw [e1, pageOf_same hD] at h1
        rw [pageOf_other e2] at h2
        have := old _ h2
        simp at h1
        have e : w.heap.size = b := by omega
        omega
    · rw [pageOf_other e1] at h1
      by_cases e2 : k2 = k
      · rw [e2, pageOf_same hD] at h2
        have := old _ h1
        simp at h2
        have e : w.heap.size = b := by omega
        omega
      · rw [pageOf_other e2] at h2
        exact h.inj _ _ _ h1 h2
  · intro kl hkl
    by_cases e : kl = .int .u64 k
    · subst e
      exact ⟨k, w.heap.size, rfl, pageOf_same hD _ _, k0, k1⟩
    · rw [Maps.has_put_other e] at hkl
      obtain ⟨k', b, rfl, hb, r⟩ := h.full kl hkl
      exact ⟨k', b, rfl, by rw [pageOf_other (by simpa using e)]; exact hb, r⟩
  · exact (h.trace.alloc _).kept hg (Or.inr a3)
end

/-- how far a copy has come -/
structure Copied (w wr : World) (D Dk : Dw) (f fk : Int → Int) (left : Lit → Bool) (c : Nat) (M : Int) (nk mbc : Nat) (vc : Value) : Prop where
  mm : Mm wr c M fk [] nk mbc vc Dk
  own : ∀ i, Own c mbc vc Dk i → w.heap.size ≤ i
  yes : ∀ x, left (.int .u64 x) = false → ∀ s, s / 512 = x → fk s = f s
  no : ∀ x, left (.int .u64 x) = true → pageOf Dk x = .nil ∧ ∀ s, s / 512 = x → fk s = 0

theorem Copied.step {w wr w2 w3 : World} {D Dk : Dw} {f fk : Int → Int} {left : Lit → Bool} {c : Nat} {M : Int} {nk mbc : Nat} {vc : Value} (h : Copied w wr D Dk f fk left c M nk mbc vc) {x : Int} (hx : left (.int .u64 x) = true) (k0 : 0 ≤ x) (k1 : x * 4096 < 2 ^ M.toNat)
    (h2 : Mm w2 c M fk [] nk mbc vc Dk) (hs2 : w.heap.size ≤ w2.heap.size) {cs : Array Value} (hs : cs.size = 512) (hcs : ∀ i : Nat, i < 512 → cs[i]? = some (.int .u64 (f (x * 512 + i)))) (hw : ∀ s, W64 (f s))
    (hmap : w3.ownsMap Tryz.prog 23 ptrElem mbc (nk + 1) (Dk.put (.int .u64 x) (.lit (.int .u64 w2.heap.size)))) (hg : (w2.alloc (.cells cs 110)).grownBy w3 (some mbc)) :
    Copied w w3 D (Dk.put (.int .u64 x) (.lit (.int .u64 w2.heap.size))) f (fun s => if s / 512 = x then f s else fk s) (fun z => left z && !z.sameKey (.int .u64 x)) c M (nk + 1) mbc vc := by
  obtain ⟨n1, n2⟩ := h.no x hx
  refine ⟨h2.laid n1 k0 k1 hs (fun i hi => ?_) (fun s hs => if_neg hs) (fun s => ?_) hmap hg, fun i hi => ?_, fun y hy s hsy => ?_, fun y hy => ?_⟩
  · rw [if_pos (by omega)]; exact hcs i hi
  · show W64 (if s / 512 = x then f s else fk s)
    split
    · exact hw s
    · exact h.mm.words s
  · rcases own_put_page h2.pages.isMap hi with hi | rfl
    · exact h.own i hi
    · exact hs2
  · show (if s / 512 = x then f s else fk s) = f s
    by_cases e : s / 512 = x
    · rw [if_pos e]
    · rw [if_neg e]
      refine h.yes y ?_ s hsy
      have hne : y ≠ x := fun h => e (hsy.trans h)
      simpa [Lit.sameKey, hne] using hy
  · have hne : y ≠ x := by
      rintro rfl
      simp [Lit.sameKey] at hy
    have hy' : left (.int .u64 y) = true := by simpa [Lit.sameKey, hne] using hy
    obtain ⟨q1, q2⟩ := h.no y hy'
    refine ⟨by rw [pageOf_other hne]; exact q1, fun s hs => ?_⟩
    show (if s / 512 = x then f s else fk s) = 0
    rw [if_neg (by omega)]
    exact q2 s hs

end Go.Proofs.YtopmmlcjlopmaaaGreatDoor
