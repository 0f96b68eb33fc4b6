/- Several texts of ours in one: Mm, Ca, Na. -/
import Derived.WalkKit
import Derived.ProofKit
import Derived.Below
import Derived.OneCell
import Derived.Maps.OwnSet
import Derived.Maps.AppendAt
import Derived.Deep.OwnRows
import Derived.Test.YtddbjbdhbeijjaaDoorGGmByWd
import Derived.Test.YtddbjbdhbeijjaaDoorGBvAM
import Derived.Test.YtddbjbdhbeijjaaDoorGVmRN
/- A memory of package mem as it lies in the world: what it is, what turns, and what stays. -/
namespace Go.Proofs.YtddbjbdhbeijjaaDoor
set_option linter.unusedVariables false
set_option linter.unusedSimpArgs false
open Go.ChangeShapes Go.WideShapes Go.ChangeAt Go.RowKit
open Go.Maps (Keyed IsMap)

abbrev Dw := DataW Unit

/-- w' is w but for the blocks of F and new ones -/
structure Turn (F : Nat → Prop) (w w' : World) : Prop where
  os : w'.os = w.os
  tape : w'.tape = w.tape
  output : w'.output = w.output
  size : w.heap.size ≤ w'.heap.size
  block : ∀ i, i < w.heap.size → ¬ F i → w'.heap[i]? = w.heap[i]?

/-- the blocks from B on -/
def From (B : Nat) : Nat → Prop := fun i => B ≤ i

/-- F, and what is new behind w -/
def Since (F : Nat → Prop) (w : World) (i : Nat) : Prop := F i ∨ w.heap.size ≤ i

theorem Turn.refl (F : Nat → Prop) (w : World) : Turn F w w := ⟨rfl, rfl, rfl, Nat.le_refl _, fun _ _ _ => rfl⟩
theorem Turn.trans {F : Nat → Prop} {a b c : World} (h : Turn F a b) (k : Turn (Since F a) b c) : Turn F a c :=
  ⟨k.os.trans h.os, k.tape.trans h.tape, k.output.trans h.output, Nat.le_trans h.size k.size, fun i hi hF => (k.block i (Nat.lt_of_lt_of_le hi h.size) (fun hs => by rcases hs with hs | hs; exact hF hs; omega)).trans (h.block i hi hF)⟩
theorem Turn.mono {F G : Nat → Prop} {a b : World} (h : Turn F a b) (hG : ∀ i, i < a.heap.size → F i → G i) : Turn G a b := ⟨h.os, h.tape, h.output, h.size, fun i hi hg => h.block i hi (fun hf => hg (hG i hi hf))⟩
theorem Turn.below {F : Nat → Prop} {a b : World} {B : Nat} (h : Turn F a b) (hF : ∀ i, F i → B ≤ i) (hB : B ≤ a.heap.size) : Below B a b :=
  ⟨h.os, h.tape, h.output, h.size, fun k hk => h.block k (by omega) (fun hf => by have := hF k hf; omega)⟩
theorem Turn.of_below {a b : World} {B : Nat} (h : Below B a b) : Turn (fun i => B ≤ i) a b := ⟨h.os, h.tape, h.output, h.size, fun i _ hn => h.block i (by omega)⟩
theorem Turn.of_kept {a b : World} (F : Nat → Prop) (h : Below a.heap.size a b) : Turn F a b := ⟨h.os, h.tape, h.output, h.size, fun i hi _ => h.block i hi⟩
theorem Turn.grown {F : Nat → Prop} {a b : World} {row : Option Nat} (h : a.grownBy b row) (hr : ∀ i, row = some i → F i) : Turn F a b := ⟨h.os, h.tape, h.output, h.size, fun i hi hn => h.block i hi (fun e => hn (hr i e.symm))⟩
theorem Turn.setCell (F : Nat → Prop) (a : World) (p : Addr) (u : Value) (hp : F p.block) : Turn F a (a.setCell p u) :=
  ⟨rfl, rfl, rfl, by simp [World.setCell], fun i _ hn => Below.heap_setCell _ _ _ _ (fun e => hn (e ▸ hp))⟩
theorem Turn.alloc (F : Nat → Prop) (a : World) (o : Obj) : Turn F a (a.alloc o) := Turn.grown (World.grownBy_alloc a o none) (by simp)

section
variable {w w' : World} {m : Nat} {M : Int} {f : Int → Int} {tr : List Int} {n mb : Nat} {v : Value} {D : Dw}

end

end Go.Proofs.YtddbjbdhbeijjaaDoor
/- A cache's lines, as a list of keys and lines: what is done to them. Nothing of the program. -/
namespace Go.Proofs.YtddbjbdhbeijjaaDoor
set_option linter.unusedVariables false
set_option linter.unusedSimpArgs false
open Go.ChangeShapes Go.WideShapes Go.ChangeAt Go.RowKit

/-- a key: Pcid, Level, Tag -/
abbrev Ky := Int × Int × Int
/-- a line: Frame, W, U, X, Dirty, Mask -/
abbrev Ln := Int × Bool × Bool × Bool × Bool × Int
abbrev Pr := Ky × Ln

def zK : Ky := (0, 0, 0)
def zL : Ln := (0, false, false, false, false, 0)
def zP : Pr := (zK, zL)

def keysK (L : List Pr) : List Ky := L.map (·.1)
/-- the place of a key -/
def idxF (ks : List Ky) (k : Ky) : Option Nat := ks.findIdx? (fun x => decide (x = k))
def posF (o : Option Nat) : Int := match o with | some i => i | none => -1
def getK (L : List Pr) (k : Ky) : Option Ln := (L.find? (fun x => decide (x.1 = k))).map (·.2)
/-- the place that a number picks of n -/
def pickF (a : Int) (n : Nat) : Nat := (a % (n : Int)).toNat
def evK (L : List Pr) (a : Int) : List Pr := if L.length = 0 then L else L.eraseIdx (pickF a L.length)
def cutO (L : List Pr) (o : Option Nat) : List Pr := match o with | some i => L.eraseIdx i | none => L
def dropK (L : List Pr) (k : Ky) : List Pr := cutO L (idxF (keysK L) k)
def ofK (L : List Pr) (p : Int) : List Pr := L.filter (fun x => decide (x.1.1 ≠ p))
def putK (R : Nat) (L : List Pr) (k : Ky) (l : Ln) (a : Int) : List Pr :=
  match idxF (keysK L) k with
  | some i => L.set i (k, l)
  | none => if R = 0 then L else (if R ≤ L.length then evK L a else L) ++ [(k, l)]
def updG (g : Ky → Option Ln) (k : Ky) (o : Option Ln) : Ky → Option Ln := fun k' => if k' = k then o else g k'

theorem keysK_len (L : List Pr) : (keysK L).length = L.length := by simp [keysK]
theorem keysK_getD (L : List Pr) (i : Nat) : (keysK L).getD i zK = (L.getD i zP).1 := by
  unfold keysK
  simp only [List.getD, List.getElem?_map]
  cases L[i]? <;> rfl

theorem idxF_none {ks : List Ky} {k : Ky} (h : ∀ i, i < ks.length → ks.getD i zK ≠ k) : idxF ks k = none := by
  unfold idxF
  rw [List.findIdx?_eq_none_iff]
  intro x hx
  obtain ⟨i, hi, rfl⟩ := List.mem_iff_getElem.1 hx
  have := h i hi
  rw [List.getD, List.getElem?_eq_getElem hi] at this
  simpa using this
theorem idxF_some {ks : List Ky} {k : Ky} {i : Nat} (hi : i < ks.length) (h : ks.getD i zK = k) (hlt : ∀ j, j < i → ks.getD j zK ≠ k) : idxF ks k = some i := by
  unfold idxF
  rw [List.findIdx?_eq_some_iff_getElem]
  refine ⟨hi, ?_, fun j hj => ?_⟩
  · rw [List.getD, List.getElem?_eq_getElem hi] at h
    simpa using h
  · have := hlt j hj
    rw [List.getD, List.getElem?_eq_getElem (by omega)] at this
    simpa using this
theorem idxF_of {ks : List Ky} {k : Ky} {i : Nat} (h : idxF ks k = some i) : i < ks.length ∧ ks.getD i zK = k := by
  unfold idxF at h
  rw [List.findIdx?_eq_some_iff_getElem] at h
  obtain ⟨hi, h1, _⟩ := h
  refine ⟨hi, ?_⟩
  rw [List.getD, List.getElem?_eq_getElem hi]
  simpa using h1
theorem idxF_no {ks : List Ky} {k : Ky} (h : idxF ks k = none) : k ∉ ks := by
  unfold idxF at h
  rw [List.findIdx?_eq_none_iff] at h
  intro hk
  simpa using h k hk
theorem idxF_mem {ks : List Ky} {k : Ky} (h : k ∈ ks) : ∃ i, idxF ks k = some i := by
  cases hx : idxF ks k with
  | some i => exact ⟨i, rfl⟩
  | none => exact absurd h (idxF_no hx)

theorem getK_iff {L : List Pr} (hn : (keysK L).Nodup) {k : Ky} {l : Ln} : getK L k = some l ↔ (k, l) ∈ L := by
  unfold getK
  induction L with
  | nil => simp
  | cons x L ih =>
    have hn' : x.1 ∉ keysK L ∧ (keysK L).Nodup := by simpa [keysK] using hn
    simp only [List.find?_cons]
    by_cases e : x.1 = k
    · subst e
      simp only [decide_true, Option.map_some, Option.some.injEq, List.mem_cons]
      constructor
      · rintro rfl; exact Or.inl rfl
      · rintro (h | h)
        · rw [← h]
        · exact absurd (List.mem_map.2 ⟨_, h, rfl⟩) hn'.1
    · simp only [decide_eq_false e, List.mem_cons]
      rw [ih hn'.2]
      constructor
      · exact Or.inr
      · rintro (h | h)
        · exact absurd (by rw [← h]) e
        · exact h
theorem getK_none {L : List Pr} {k : Ky} : getK L k = none ↔ k ∉ keysK L := by
  unfold getK keysK
  simp only [Option.map_eq_none_iff, List.find?_eq_none, decide_eq_true_eq, List.mem_map, not_exists, not_and]
theorem getK_idx (L : List Pr) (k : Ky) : getK L k = (idxF (keysK L) k).map (fun i => (L.getD i zP).2) := by
  induction L with
  | nil => rfl
  | cons x L ih =>
    unfold getK idxF keysK at *
    simp only [List.find?_cons, List.map_cons, List.findIdx?_cons]
    by_cases e : x.1 = k
    · simp [e]
    · simp only [decide_eq_false e]
      rw [ih]
      simp
      cases (L.findIdx? ((fun x => decide (x = k)) ∘ fun x => x.1)) <;> rfl

theorem ext_of_iff {g g' : Ky → Option Ln} (h : ∀ k l, g k = some l ↔ g' k = some l) : g = g' := by
  funext k
  apply Option.ext
  intro l
  exact h k l

theorem nodupK_erase {L : List Pr} (hn : (keysK L).Nodup) (i : Nat) : (keysK (L.eraseIdx i)).Nodup := by
  unfold keysK at *
  exact hn.sublist ((List.eraseIdx_sublist L i).map _)
theorem nodupK_filter {L : List Pr} (hn : (keysK L).Nodup) (p : Pr → Bool) : (keysK (L.filter p)).Nodup := by
  unfold keysK at *
  exact hn.sublist (List.filter_sublist.map _)
theorem keysK_set {L : List Pr} {i : Nat} {k : Ky} (h : (keysK L).getD i zK = k) (l : Ln) : keysK (L.set i (k, l)) = keysK L := by
  unfold keysK at *
  rw [List.map_set]
  apply List.ext_getElem (by simp)
  intro j h1 h2
  by_cases e : i = j
  · subst e
    rw [List.getD, List.getElem?_eq_getElem h2] at h
    simp at h ⊢
    exact h.symm
  · rw [List.getElem_set_ne e]
theorem keysK_erase (L : List Pr) (i : Nat) : keysK (L.eraseIdx i) = (keysK L).eraseIdx i := by
  unfold keysK
  induction L generalizing i with
  | nil => rfl
  | cons x L ih => cases i <;> simp [ih]
theorem keysK_append (L K : List Pr) : keysK (L ++ K) = keysK L ++ keysK K := by simp [keysK]

theorem mem_erase_iff {L : List Pr} (hn : (keysK L).Nodup) {i : Nat} (hi : i < L.length) (x : Pr) : x ∈ L.eraseIdx i ↔ x ∈ L ∧ x.1 ≠ (L.getD i zP).1 := by
  rw [List.mem_eraseIdx_iff_getElem]
  have hg : L.getD i zP = L[i] := by rw [List.getD, List.getElem?_eq_getElem hi]; rfl
  rw [hg]
  constructor
  · rintro ⟨j, hj, hne, rfl⟩
    refine ⟨List.getElem_mem _, fun e => hne ?_⟩
    have h1 := List.getElem_inj (xs := keysK L) (i := j) (j := i) (h₀ := by rw [keysK_len]; exact hj) (h₁ := by rw [keysK_len]; exact hi) hn
    exact h1.1 (by simpa [keysK] using e)
  · rintro ⟨hx, hne⟩
    obtain ⟨j, hj, rfl⟩ := List.mem_iff_getElem.1 hx
    exact ⟨j, hj, fun e => hne (by subst e; rfl), rfl⟩

theorem getK_erase {L : List Pr} (hn : (keysK L).Nodup) {i : Nat} (hi : i < L.length) : getK (L.eraseIdx i) = updG (getK L) (L.getD i zP).1 none := by
  apply ext_of_iff
  intro k l
  rw [getK_iff (nodupK_erase hn i), mem_erase_iff hn hi]
  unfold updG
  by_cases e : k = (L.getD i zP).1
  · simp [e]
  · rw [if_neg e, getK_iff hn]
    exact ⟨fun h => h.1, fun h => ⟨h, e⟩⟩
theorem getK_set {L : List Pr} (hn : (keysK L).Nodup) {i : Nat} {k : Ky} (hi : i < L.length) (hk : (keysK L).getD i zK = k) (l : Ln) : getK (L.set i (k, l)) = updG (getK L) k (some l) := by
  apply ext_of_iff
  intro k' l'
  have hn' : (keysK (L.set i (k, l))).Nodup := by rw [keysK_set hk]; exact hn
  rw [getK_iff hn']
  unfold updG
  by_cases e : k' = k
  · subst e
    rw [if_pos rfl]
    have hm : (k', l) ∈ L.set i (k', l) := List.mem_iff_getElem.2 ⟨i, by simpa using hi, by simp⟩
    constructor
    · intro h
      have h1 := (getK_iff hn').2 h
      have h2 := (getK_iff hn').2 hm
      rw [h1] at h2; exact h2.symm ▸ rfl
    · intro h
      rw [Option.some.injEq] at h
      subst h; exact hm
  · rw [if_neg e, getK_iff hn]
    constructor
    · intro h
      obtain ⟨j, hj, hx⟩ := List.mem_iff_getElem.1 h
      have hj' : j < L.length := by simpa using hj
      by_cases e2 : i = j
      · subst e2
        simp at hx
        exact absurd hx.1.symm e
      · rw [List.getElem_set_ne e2] at hx
        exact hx ▸ List.getElem_mem hj'
    · intro h
      obtain ⟨j, hj, hx⟩ := List.mem_iff_getElem.1 h
      refine List.mem_iff_getElem.2 ⟨j, by simpa using hj, ?_⟩
      have e2 : i ≠ j := by
        rintro rfl
        rw [keysK_getD, List.getD, List.getElem?_eq_getElem hj, hx] at hk
        exact e (by simpa using hk)
      rw [List.getElem_set_ne e2]; exact hx
theorem getK_push {L : List Pr} {k : Ky} (hk : k ∉ keysK L) (l : Ln) : getK (L ++ [(k, l)]) = updG (getK L) k (some l) := by
  funext k'
  unfold updG
  by_cases e : k' = k
  · subst e
    rw [if_pos rfl]
    have := getK_none.2 hk
    unfold getK at *
    rw [List.find?_append]
    rw [Option.map_eq_none_iff] at this
    simp [this]
  · rw [if_neg e]
    unfold getK
    rw [List.find?_append]
    rw [List.find?_cons, show decide ((k, l).1 = k') = false from decide_eq_false fun h => e h.symm]
    simp
theorem nodup_push {L : List Pr} (hn : (keysK L).Nodup) {k : Ky} (hk : k ∉ keysK L) (l : Ln) : (keysK (L ++ [(k, l)])).Nodup := by
  rw [keysK_append]
  refine List.nodup_append.2 ⟨hn, by simp [keysK], ?_⟩
  intro a ha b hb
  simp [keysK] at hb
  subst hb
  exact fun e => hk (e ▸ ha)

theorem pickF_lt (a : Int) {n : Nat} (h : 0 < n) : pickF a n < n := by
  unfold pickF
  have h1 := Int.emod_nonneg a (b := (n : Int)) (by omega)
  have h2 := Int.emod_lt_of_pos a (b := (n : Int)) (by omega)
  omega

theorem evK_len (L : List Pr) (a : Int) : (evK L a).length = L.length - 1 := by
  unfold evK
  split
  · omega
  · rw [List.length_eraseIdx_of_lt (pickF_lt a (by omega))]
theorem evK_sub (L : List Pr) (a : Int) : (evK L a).Sublist L := by
  unfold evK
  split
  · exact List.Sublist.refl _
  · exact List.eraseIdx_sublist _ _
theorem dropK_len (L : List Pr) (k : Ky) : (dropK L k).length ≤ L.length := by
  unfold dropK cutO
  split
  · exact (List.eraseIdx_sublist _ _).length_le
  · exact Nat.le_refl _
theorem dropK_filter {L : List Pr} (hn : (keysK L).Nodup) (k : Ky) : dropK L k = L.filter (fun x => decide (x.1 ≠ k)) := by
  unfold dropK
  cases hx : idxF (keysK L) k with
  | none =>
    have hk := idxF_no hx
    refine (List.filter_eq_self.2 fun x hx => ?_).symm
    simp
    intro e
    exact hk (e ▸ List.mem_map.2 ⟨x, hx, rfl⟩)
  | some i =>
    have hi := idxF_of hx
    have hil : i < L.length := by have := hi.1; rwa [keysK_len] at this
    rw [keysK_getD] at hi
    show L.eraseIdx i = _
    have hg : L.getD i zP = L[i] := by rw [List.getD, List.getElem?_eq_getElem hil]; rfl
    rw [List.eraseIdx_eq_take_drop_succ]
    conv => rhs; rw [← List.take_append_drop i L]
    rw [List.filter_append, List.drop_eq_getElem_cons hil, ← hg, List.filter_cons, if_neg (by rw [hi.2]; simp)]
    have hother : ∀ j (hj : j < L.length), j ≠ i → (L[j]).1 ≠ k := fun j hj hne e => by
      have h1 := List.getElem_inj (xs := keysK L) (i := j) (j := i) (h₀ := by rw [keysK_len]; exact hj) (h₁ := by rw [keysK_len]; exact hil) hn
      refine hne (h1.1 ?_)
      have h2 : (L[i]).1 = k := by rw [← hg]; exact hi.2
      simp [keysK, e, h2]
    rw [List.filter_eq_self.2, List.filter_eq_self.2]
    · intro x hx
      obtain ⟨j, hj, rfl⟩ := List.mem_iff_getElem.1 hx
      rw [List.length_drop] at hj
      rw [List.getElem_drop]
      exact decide_eq_true (hother _ (by omega) (by omega))
    · intro x hx
      obtain ⟨j, hj, rfl⟩ := List.mem_iff_getElem.1 hx
      rw [List.length_take] at hj
      rw [List.getElem_take]
      exact decide_eq_true (hother _ (by omega) (by omega))
theorem getK_dropped {L : List Pr} (hn : (keysK L).Nodup) (k : Ky) : getK (dropK L k) k = none := by
  rw [getK_none, dropK_filter hn]
  unfold keysK
  intro h
  obtain ⟨x, hx, e⟩ := List.mem_map.1 h
  have := (List.mem_filter.1 hx).2
  simp at this
  exact this e
end Go.Proofs.YtddbjbdhbeijjaaDoor
/- Plain mathematics of groups: eight words' line, a line's page, without one, and a slot's group. Nothing of the program. -/
namespace Go.Proofs.YtddbjbdhbeijjaaDoor
set_option linter.unusedVariables false
set_option linter.unusedSimpArgs false

/-- a frame, some places on -/
def frmF (f i : Int) : Int := (f + 4096 * i) % 18446744073709551616
theorem frm_code (f i : Int) : IntKind.u64.wrap (f + IntKind.u64.wrap (4096 * IntKind.u64.wrap i)) = frmF f i := by
  unfold frmF; rw [IntKind.wrap_u64, IntKind.wrap_u64, IntKind.wrap_u64]; omega
/-- a page's bit of a mask -/
def bit8 (i : Int) : Int := if 0 ≤ i ∧ i ≤ 7 then 2 ^ i.toNat else 0
def hasM (m i : Int) : Bool := decide (0 ≤ i) && decide (i ≤ 7) && tb m i.toNat
def clrM (m i : Int) : Int := if hasM m i then m - 2 ^ i.toNat else m
def U8 (m : Int) : Prop := 0 ≤ m ∧ m < 256

theorem fin_of {m : Int} (h : U8 m) : ∃ k : Fin 256, m = (k.val : Int) := ⟨⟨m.toNat, by obtain ⟨a, b⟩ := h; omega⟩, by obtain ⟨a, b⟩ := h; simp; omega⟩
theorem eight_of {i : Int} (h0 : 0 ≤ i) (h7 : i ≤ 7) : ∃ k : Fin 8, i = (k.val : Int) := ⟨⟨i.toNat, by omega⟩, by simp; omega⟩

theorem all_and : ∀ m : Fin 256, ∀ i : Fin 8, (bits .and .u8 (m.val : Int) (2 ^ i.val) == 0) = !tb (m.val : Int) i.val := by decide +kernel
theorem all_andNot : ∀ m : Fin 256, ∀ i : Fin 8, bits .andNot .u8 (m.val : Int) (2 ^ i.val) = if tb (m.val : Int) i.val then (m.val : Int) - 2 ^ i.val else (m.val : Int) := by decide +kernel
theorem all_bit : ∀ m : Fin 256, ∀ i : Fin 8, bitF (m.val : Int) (i.val : Int) = tb (m.val : Int) i.val := by decide +kernel
theorem all_with : ∀ m : Fin 256, ∀ i : Fin 8, withF (m.val : Int) (i.val : Int) false = if tb (m.val : Int) i.val then (m.val : Int) - 2 ^ i.val else (m.val : Int) := by decide +kernel
theorem all_zero : ∀ m : Fin 256, bits .and .u8 (m.val : Int) 0 = 0 ∧ bits .andNot .u8 (m.val : Int) 0 = (m.val : Int) := by decide +kernel
theorem all_low : ∀ m : Fin 256, ∀ i : Fin 8, tb (m.val : Int) i.val = true → 2 ^ i.val ≤ m.val := by decide +kernel
theorem all_clr : ∀ m : Fin 256, ∀ i j : Fin 8, tb (if tb (m.val : Int) i.val then (m.val : Int) - 2 ^ i.val else (m.val : Int)) j.val = (tb (m.val : Int) j.val && decide (i.val ≠ j.val)) := by decide +kernel

theorem has_and {m : Int} (hm : U8 m) (i : Int) : (bits .and .u8 m (bit8 i) == 0) = !hasM m i := by
  obtain ⟨k, rfl⟩ := fin_of hm
  unfold bit8 hasM
  by_cases h : 0 ≤ i ∧ i ≤ 7
  · obtain ⟨j, rfl⟩ := eight_of h.1 h.2
    rw [if_pos h, show ((j.val : Int)).toNat = j.val by simp, all_and k j]
    simp [h.2]
  · rw [if_neg h, (all_zero k).1]
    by_cases h0 : 0 ≤ i
    · simp [show ¬ i ≤ 7 from fun h7 => h ⟨h0, h7⟩]
    · simp [h0]
theorem clr_andNot {m : Int} (hm : U8 m) (i : Int) : bits .andNot .u8 m (bit8 i) = clrM m i := by
  obtain ⟨k, rfl⟩ := fin_of hm
  unfold bit8 clrM hasM
  by_cases h : 0 ≤ i ∧ i ≤ 7
  · obtain ⟨j, rfl⟩ := eight_of h.1 h.2
    rw [if_pos h, show ((j.val : Int)).toNat = j.val by simp, all_andNot k j]
    simp [h.2]
  · rw [if_neg h, (all_zero k).2]
    by_cases h0 : 0 ≤ i
    · simp [show ¬ i ≤ 7 from fun h7 => h ⟨h0, h7⟩]
    · simp [h0]
theorem has_bit {m i : Int} (hm : U8 m) (h0 : 0 ≤ i) (h7 : i ≤ 7) : bitF m i = hasM m i := by
  obtain ⟨k, rfl⟩ := fin_of hm
  obtain ⟨j, rfl⟩ := eight_of h0 h7
  rw [all_bit k j]; simp [hasM, h7]
theorem clr_with {m i : Int} (hm : U8 m) (h0 : 0 ≤ i) (h7 : i ≤ 7) : withF m i false = clrM m i := by
  obtain ⟨k, rfl⟩ := fin_of hm
  obtain ⟨j, rfl⟩ := eight_of h0 h7
  rw [all_with k j]; simp [clrM, hasM, h7]
theorem has_out {m i : Int} (h : i < 0 ∨ 7 < i) : hasM m i = false := by
  unfold hasM
  rcases h with h | h
  · simp [show ¬ 0 ≤ i by omega]
  · simp [show ¬ i ≤ 7 by omega]
theorem clr_out {m i : Int} (h : i < 0 ∨ 7 < i) : clrM m i = m := by unfold clrM; rw [has_out h]; rfl
theorem u8_clr {m : Int} (hm : U8 m) (i : Int) : U8 (clrM m i) := by
  unfold clrM
  split
  · rename_i h
    unfold hasM at h
    simp at h
    obtain ⟨k, rfl⟩ := fin_of hm
    obtain ⟨j, rfl⟩ := eight_of h.1.1 h.1.2
    have h1 := all_low k j (by simpa using h.2)
    obtain ⟨p, hp⟩ : ∃ p : Nat, 2 ^ j.val = p := ⟨_, rfl⟩
    have h2 : (2 : Int) ^ ((j.val : Int)).toNat = (p : Int) := by rw [← hp]; simp
    rw [hp] at h1
    rw [h2]
    obtain ⟨_, _⟩ := hm
    unfold U8; omega
  · exact hm
theorem has_clr {m i j : Int} (hm : U8 m) : hasM (clrM m i) j = (hasM m j && decide (i ≠ j)) := by
  by_cases hi : 0 ≤ i ∧ i ≤ 7
  · by_cases hj : 0 ≤ j ∧ j ≤ 7
    · obtain ⟨k, rfl⟩ := fin_of hm
      obtain ⟨p, rfl⟩ := eight_of hi.1 hi.2
      obtain ⟨q, rfl⟩ := eight_of hj.1 hj.2
      have e : clrM (k.val : Int) (p.val : Int) = if tb (k.val : Int) p.val then (k.val : Int) - 2 ^ p.val else (k.val : Int) := by simp [clrM, hasM, hi.2]
      rw [e]
      have h := all_clr k p q
      unfold hasM
      rw [show ((q.val : Int)).toNat = q.val by simp, h]
      have e2 : decide (p.val ≠ q.val) = decide ((p.val : Int) ≠ (q.val : Int)) := by rw [Bool.eq_iff_iff]; simp only [decide_eq_true_eq]; omega
      rw [e2]
      simp [hj.2]
    · rw [has_out (by omega), has_out (by omega)]; rfl
  · rw [clr_out (by omega)]
    by_cases hj : hasM m j
    · have : 0 ≤ j ∧ j ≤ 7 := by unfold hasM at hj; simp at hj; exact hj.1
      simp [hj]; omega
    · simp [hj]
/- A LINE -/
def hasG (l : Ln) (i : Int) : Bool := hasM l.2.2.2.2.2 i
def atG (l : Ln) (i : Int) : Int := if hasG l i then frmF l.1 i else 0
def cutG (l : Ln) (i : Int) : Ln := (l.1, l.2.1, l.2.2.1, l.2.2.2.1, l.2.2.2.2.1, clrM l.2.2.2.2.2 i)
def wthG (l : Ln) (i : Int) : Ln := if clrM l.2.2.2.2.2 i = 0 then zL else cutG l i
def OkL (l : Ln) : Prop := U8 l.2.2.2.2.2
theorem ok_zL : OkL zL := ⟨by decide, by decide⟩
theorem ok_wth {l : Ln} (h : OkL l) (i : Int) : OkL (wthG l i) := by
  unfold wthG; split
  · exact ok_zL
  · exact u8_clr h i
theorem mask_wth (l : Ln) (i : Int) : (wthG l i).2.2.2.2.2 = clrM l.2.2.2.2.2 i := by
  unfold wthG; split
  · rename_i h; rw [h]; rfl
  · rfl
theorem has_wth {l : Ln} (h : OkL l) (i j : Int) : hasG (wthG l i) j = (hasG l j && decide (i ≠ j)) := by
  unfold hasG; rw [mask_wth, has_clr h]
/- WHAT GOES TOGETHER -/
def thW (X : List Int) (i : Int) : Int := X.getD i.toNat 0
/- A SLOT'S GROUP -/
end Go.Proofs.YtddbjbdhbeijjaaDoor
