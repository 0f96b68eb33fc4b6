/- Several texts of ours in one: By, Wd, Mm. -/
import Derived.Test.YtopmmlcjlopmaaaDoorGBvAM
import Derived.Lib.Hide
import Derived.WalkKit
import Derived.ProofKit
import Derived.Below
import Derived.OneCell
import Derived.Maps.OwnSet
import Derived.Maps.AppendAt
import Derived.Deep.OwnRows
/- Plain mathematics: words of 64 bits told by their bytes. Nothing of the program. -/
namespace Go.Proofs.YtopmmlcjlopmaaaDoor
set_option linter.unusedVariables false
set_option linter.unusedSimpArgs false

def hasB (f n : Int) : Bool := decide (0 ≤ f ∧ 1 ≤ n ∧ f ≤ 8 - n)
def cutF (x f n : Int) : Int := if hasB f n then getF x (8 * f) (8 * n) else 0
def layF (x f n v : Int) : Int := if hasB f n then setF x (8 * f) (8 * n) v else x
def byteF (x i : Int) : Int := cutF x i 1
def putF (x i b : Int) : Int := layF x i 1 b

theorem hasB_bd {f n : Int} (h : hasB f n = true) : 0 ≤ f ∧ 1 ≤ n ∧ f + n ≤ 8 := by
  have : 0 ≤ f ∧ 1 ≤ n ∧ f ≤ 8 - n := by simpa [hasB] using h
  omega

theorem hasB_mk {f n : Int} (h0 : 0 ≤ f) (h1 : 1 ≤ n) (h2 : f + n ≤ 8) : hasB f n = true := by
  simp [hasB]; omega

theorem hasB_no {f n : Int} (h : f < 0 ∨ n < 1 ∨ 8 < f + n) : hasB f n = false := by
  simp [hasB]; omega

theorem hasB_isF {f n : Int} (h : hasB f n = true) : isF (8 * f) (8 * n) = true := by
  obtain ⟨h0, h1, h2⟩ := hasB_bd h
  exact isF_mk (by omega) (by omega) (by omega)

theorem w64_cut (x f n : Int) : W64 (cutF x f n) := by
  unfold cutF; split
  · exact w64_get _ _ _
  · exact w64_zero

theorem w64_lay {x : Int} (hx : W64 x) (f n v : Int) : W64 (layF x f n v) := by
  unfold layF; split
  · exact w64_set hx _ _ _
  · exact hx

theorem tb_cut {x : Int} (hx : W64 x) (f n : Int) (i : Nat) : tb (cutF x f n) i = (hasB f n && decide ((i : Int) < 8 * n) && tb x (i + (8 * f).toNat)) := by
  unfold cutF
  by_cases h : hasB f n = true
  · rw [if_pos h, tb_get hx, hasB_isF h, h]
  · simp only [Bool.not_eq_true] at h
    rw [if_neg (by simp [h]), h, tb_zero]; rfl

theorem tb_lay {x v : Int} (hx : W64 x) (hv : W64 v) (f n : Int) (i : Nat) :
    tb (layF x f n v) i = if hasB f n && decide (8 * f ≤ i) && decide ((i : Int) < 8 * f + 8 * n) then tb v (i - (8 * f).toNat) else tb x i := by
  unfold layF
  by_cases h : hasB f n = true
  · rw [if_pos h, tb_set hx hv, hasB_isF h, h]
  · simp only [Bool.not_eq_true] at h
    rw [if_neg (by simp [h]), h]; rfl

theorem byte_lt (x i : Int) (hx : W64 x) : 0 ≤ byteF x i ∧ byteF x i < 256 := by
  unfold byteF cutF
  split
  · rename_i h
    have e := get_div hx (hasB_isF h)
    rw [e]
    have e2 : (2 : Int) ^ (8 * 1 : Int).toNat = 256 := by decide
    rw [e2]
    exact ⟨Int.emod_nonneg _ (by omega), Int.emod_lt_of_pos _ (by omega)⟩
  · omega

theorem byte_div {x i : Int} (hx : W64 x) (h0 : 0 ≤ i) (h1 : i ≤ 7) : byteF x i = x / 2 ^ (8 * i).toNat % 256 := by
  unfold byteF cutF
  have h := hasB_mk (f := i) (n := 1) h0 (by omega) (by omega)
  rw [if_pos h, get_div hx (hasB_isF h)]
  have e2 : (2 : Int) ^ (8 * 1 : Int).toNat = 256 := by decide
  rw [e2]

theorem byte_no (x : Int) {i : Int} (h : i < 0 ∨ 7 < i) : byteF x i = 0 := by
  unfold byteF cutF
  rw [hasB_no (by omega)]; rfl

theorem put_no (x b : Int) {i : Int} (h : i < 0 ∨ 7 < i) : putF x i b = x := by
  unfold putF layF
  rw [hasB_no (by omega)]; rfl

theorem w64_small {b : Int} (h0 : 0 ≤ b) (h1 : b < 256) : W64 b := by unfold W64; omega

theorem w64_byte {x : Int} (hx : W64 x) (i : Int) : W64 (byteF x i) := by
  obtain ⟨h0, h1⟩ := byte_lt x i hx; exact w64_small h0 h1

theorem tb_small {b : Int} (h0 : 0 ≤ b) (h1 : b < 256) {i : Nat} (hi : 8 ≤ i) : tb b i = false := by
  unfold tb
  apply Nat.testBit_lt_two_pow
  have : 2 ^ 8 ≤ 2 ^ i := Nat.pow_le_pow_right (by decide) hi
  omega

theorem tb_byte {x : Int} (hx : W64 x) (i : Int) (j : Nat) : tb (byteF x i) j = (decide (0 ≤ i) && decide (i ≤ 7) && decide (j < 8) && tb x (j + (8 * i).toNat)) := by
  unfold byteF
  rw [tb_cut hx]
  by_cases h : 0 ≤ i ∧ i ≤ 7
  · rw [hasB_mk h.1 (by omega) (by omega)]
    have e : decide ((j : Int) < 8 * 1) = decide (j < 8) := by
      apply decide_eq_decide.2; omega
    rw [e]
    simp [h.1, h.2]
  · rw [hasB_no (by omega)]
    by_cases c : 0 ≤ i
    · simp [c, show ¬ i ≤ 7 by omega]
    · simp [c]

/-- words with the same bytes are the same -/
theorem byte_ext {a b : Int} (ha : W64 a) (hb : W64 b) (h : ∀ k : Nat, k < 8 → byteF a k = byteF b k) : a = b := by
  apply tb_ext ha hb
  intro i hi
  have e := congrArg (fun z => tb z (i % 8)) (h (i / 8) (by omega))
  simp only [tb_byte ha, tb_byte hb] at e
  have q : i % 8 + (8 * ((i / 8 : Nat) : Int)).toNat = i := by omega
  rw [q] at e
  have c2 : ((i / 8 : Nat) : Int) ≤ 7 := by omega
  have c3 : i % 8 < 8 := by omega
  have c1 : (0 : Int) ≤ ((i / 8 : Nat) : Int) := by omega
  rw [decide_eq_true c1, decide_eq_true c2, decide_eq_true c3] at e
  simpa using e

theorem byte_ext' {a b : Int} (h0 : 0 ≤ a) (h1 : a < 256) (k0 : 0 ≤ b) (k1 : b < 256) (h : ∀ i, i < 8 → tb a i = tb b i) : a = b := by
  apply tb_ext (w64_small h0 h1) (w64_small k0 k1)
  intro i hi
  by_cases c : i < 8
  · exact h i c
  · rw [tb_small h0 h1 (by omega), tb_small k0 k1 (by omega)]

/-- the bytes of a cut -/
theorem byte_cut {x : Int} (hx : W64 x) (f n : Int) {k : Nat} (hk : k < 8) : byteF (cutF x f n) k = if hasB f n && decide ((k : Int) < n) then byteF x (f + k) else 0 := by
  obtain ⟨a0, a1⟩ := byte_lt (cutF x f n) k (w64_cut _ _ _)
  have b := byte_lt x (f + k) hx
  apply byte_ext' a0 a1 (by split <;> omega) (by split <;> omega)
  intro i hi
  rw [tb_byte (w64_cut _ _ _), tb_cut hx]
  by_cases h : hasB f n = true
  · obtain ⟨h0, h1, h2⟩ := hasB_bd h
    by_cases c : (k : Int) < n
    · rw [if_pos (by simp [h, c]), tb_byte hx, h]
      have e : i + (8 * (k : Int)).toNat + (8 * f).toNat = i + (8 * (f + (k : Int))).toNat := by omega
      rw [e]
      simp [hi, show (k : Int) ≤ 7 by omega, show 0 ≤ f + (k : Int) by omega, show f + (k : Int) ≤ 7 by omega]
      intro _; omega
    · rw [if_neg (by simp [c]), tb_zero]
      have : decide (((i + (8 * (k : Int)).toNat : Nat) : Int) < 8 * n) = false := by simp; omega
      rw [this]; simp
  · simp only [Bool.not_eq_true] at h
    rw [h]; simp [tb_zero]

/-- the bytes of what was laid -/
theorem byte_lay {x v : Int} (hx : W64 x) (hv : W64 v) (f n : Int) {k : Nat} (hk : k < 8) :
    byteF (layF x f n v) k = if hasB f n && decide (f ≤ k) && decide ((k : Int) < f + n) then byteF v (k - f) else byteF x k := by
  obtain ⟨a0, a1⟩ := byte_lt (layF x f n v) k (w64_lay hx _ _ _)
  have b := byte_lt x k hx
  have c := byte_lt v (k - f) hv
  apply byte_ext' a0 a1 (by split <;> omega) (by split <;> omega)
  intro i hi
  rw [tb_byte (w64_lay hx _ _ _), tb_lay hx hv]
  by_cases h : hasB f n = true
  · obtain ⟨h0, h1, h2⟩ := hasB_bd h
    by_cases c : f ≤ (k : Int) ∧ (k : Int) < f + n
    · obtain ⟨c1, c2⟩ := c
      rw [if_pos (by simp [h]; omega), if_pos (by simp [h, c1, c2]), tb_byte hv]
      have e : i + (8 * (k : Int)).toNat - (8 * f).toNat = i + (8 * ((k : Int) - f)).toNat := by omega
      rw [e]
      simp [hi, show (k : Int) ≤ 7 by omega, show (k : Int) - f ≤ 7 by omega]
      intro _; omega
    · rw [if_neg (by simp; omega), if_neg (by simp; omega), tb_byte hx]
  · simp only [Bool.not_eq_true] at h
    rw [h]; simp [tb_byte hx]

theorem byte_put {x b : Int} (hx : W64 x) (h0 : 0 ≤ b) (h1 : b < 256) (i : Int) {k : Nat} (hk : k < 8) :
    byteF (putF x i b) k = if (k : Int) = i then b else byteF x k := by
  unfold putF
  rw [byte_lay hx (w64_small h0 h1) i 1 hk]
  by_cases c : (k : Int) = i
  · have hb : hasB i 1 = true := hasB_mk (by omega) (by omega) (by omega)
    rw [if_pos (by simp [hb]; omega), if_pos c, c, Int.sub_self]
    obtain ⟨a0, a1⟩ := byte_lt b 0 (w64_small h0 h1)
    apply byte_ext' a0 a1 h0 h1
    intro j hj
    rw [tb_byte (w64_small h0 h1)]
    simp [hj]
  · rw [if_neg (by simp; omega), if_neg c]

theorem w64_put {x : Int} (hx : W64 x) (i b : Int) : W64 (putF x i b) := w64_lay hx _ _ _

/- ### a list of bytes as a word -/
def wordOf : List Int → Int
  | [] => 0
  | z :: zs => z + 256 * wordOf zs

/-- numbers that fit a byte -/
def U8s (zs : List Int) : Prop := ∀ z ∈ zs, 0 ≤ z ∧ z < 256

theorem word_bd (zs : List Int) (h : U8s zs) : 0 ≤ wordOf zs ∧ wordOf zs < 2 ^ (8 * zs.length) := by
  induction zs with
  | nil => simp [wordOf]
  | cons z zs ih =>
    obtain ⟨a, b⟩ := ih (fun y hy => h y (by simp [hy]))
    obtain ⟨c, d⟩ := h z (by simp)
    have e : (2 : Int) ^ (8 * (z :: zs).length) = 256 * 2 ^ (8 * zs.length) := by
      rw [List.length_cons, Nat.mul_add, Int.pow_add, Int.mul_comm]; rfl
    rw [e]
    simp only [wordOf]
    omega

theorem tb_step {z a : Int} (h0 : 0 ≤ z) (h1 : z < 256) (ha : 0 ≤ a) (i : Nat) : tb (z + 256 * a) i = if i < 8 then tb z i else tb a (i - 8) := by
  obtain ⟨m, rfl⟩ := Int.eq_ofNat_of_zero_le h0
  obtain ⟨n, rfl⟩ := Int.eq_ofNat_of_zero_le ha
  unfold tb
  have e : ((m : Int) + 256 * (n : Int)).toNat = 2 ^ 8 * n + m := by omega
  rw [e, Nat.testBit_two_pow_mul_add n (by omega)]
  simp

theorem tb_word (zs : List Int) (h : U8s zs) (i : Nat) : tb (wordOf zs) i = tb (zs.getD (i / 8) 0) (i % 8) := by
  induction zs generalizing i with
  | nil => simp [wordOf, tb_zero]
  | cons z zs ih =>
    have h' : U8s zs := fun y hy => h y (by simp [hy])
    obtain ⟨c, d⟩ := h z (by simp)
    simp only [wordOf]
    rw [tb_step c d (word_bd zs h').1]
    by_cases hi : i < 8
    · rw [if_pos hi, show i / 8 = 0 by omega, show i % 8 = i by omega]; rfl
    · rw [if_neg hi, ih h', show i / 8 = (i - 8) / 8 + 1 by omega, show i % 8 = (i - 8) % 8 by omega]; rfl

theorem w64_word {zs : List Int} (h : U8s zs) (hl : zs.length ≤ 8) : W64 (wordOf zs) := by
  obtain ⟨a, b⟩ := word_bd zs h
  refine ⟨a, Int.lt_of_lt_of_le b ?_⟩
  rw [two_pow_int]
  have : 2 ^ (8 * zs.length) ≤ 2 ^ 64 := Nat.pow_le_pow_right (by decide) (by omega)
  omega

theorem getD_in (zs : List Int) {k : Nat} (hk : k < zs.length) : zs.getD k 0 = zs[k] := by simp [List.getD, List.getElem?_eq_getElem hk]
theorem getD_out (zs : List Int) {k : Nat} (hk : zs.length ≤ k) : zs.getD k 0 = 0 := by simp [List.getD, List.getElem?_eq_none hk]

theorem u8s_getD {zs : List Int} (h : U8s zs) (k : Nat) : 0 ≤ zs.getD k 0 ∧ zs.getD k 0 < 256 := by
  by_cases hk : k < zs.length
  · rw [getD_in _ hk]; exact h _ (List.getElem_mem hk)
  · rw [getD_out _ (by omega)]; omega

theorem byte_word {zs : List Int} (h : U8s zs) (hl : zs.length ≤ 8) {k : Nat} (hk : k < 8) : byteF (wordOf zs) k = zs.getD k 0 := by
  have hw := w64_word h hl
  obtain ⟨a0, a1⟩ := byte_lt (wordOf zs) k hw
  obtain ⟨b0, b1⟩ := u8s_getD h k
  apply byte_ext' a0 a1 b0 b1
  intro i hi
  rw [tb_byte hw, tb_word zs h, show (i + (8 * (k : Int)).toNat) / 8 = k by omega, show (i + (8 * (k : Int)).toNat) % 8 = i by omega]
  simp [hi, show (k : Int) ≤ 7 by omega]

/-- a word's bytes -/
def bytesOf (x : Int) : List Int := (List.range 8).map fun k : Nat => byteF x (k : Int)

theorem bytesOf_len (x : Int) : (bytesOf x).length = 8 := by simp [bytesOf]
theorem bytesOf_get (x : Int) {k : Nat} (hk : k < 8) : (bytesOf x).getD k 0 = byteF x k := by
  simp [bytesOf, List.getD, List.getElem?_map, List.getElem?_range hk]
theorem bytesOf_u8 {x : Int} (hx : W64 x) : U8s (bytesOf x) := by
  intro z hz
  obtain ⟨k, _, rfl⟩ := List.mem_map.1 hz
  exact byte_lt _ _ hx

theorem word_bytes {x : Int} (hx : W64 x) : wordOf (bytesOf x) = x := by
  apply byte_ext (w64_word (bytesOf_u8 hx) (by simp [bytesOf_len])) hx
  intro k hk
  rw [byte_word (bytesOf_u8 hx) (by simp [bytesOf_len]) hk, bytesOf_get x hk]

theorem list_ext8 {a b : List Int} (ha : a.length = 8) (hb : b.length = 8) (h : ∀ k, k < 8 → a.getD k 0 = b.getD k 0) : a = b := by
  apply List.ext_getElem (by omega)
  intro k h1 h2
  have := h k (by omega)
  rwa [getD_in _ h1, getD_in _ h2] at this

theorem bytes_word {zs : List Int} (h : U8s zs) (hl : zs.length = 8) : bytesOf (wordOf zs) = zs := by
  apply list_ext8 (bytesOf_len _) hl
  intro k hk
  rw [bytesOf_get _ hk, byte_word h (by omega) hk]

end Go.Proofs.YtopmmlcjlopmaaaDoor
/- Contracts of package word: the calls that make no memory. -/
namespace Go.Proofs.YtopmmlcjlopmaaaDoor
set_option linter.unusedVariables false
set_option linter.unusedSimpArgs false
open Go.ChangeShapes Go.WideShapes Go.ChangeAt Go.RowKit

theorem i64_bits {n : Int} (h0 : 1 ≤ n) (h1 : n ≤ 8) : I64 (8 * n) := by unfold I64; omega

theorem wrap_byte {x : Int} (hx : W64 x) (i : Int) : IntKind.u8.wrap (cutF x i 1) = byteF x i := by
  obtain ⟨h0, h1⟩ := byte_lt x i hx
  rw [IntKind.wrap_u8]
  exact Int.emod_eq_of_lt h0 h1

end Go.Proofs.YtopmmlcjlopmaaaDoor
/- A memory of package mem as it lies in the world: what it is, what turns, and what stays. -/
namespace Go.Proofs.YtopmmlcjlopmaaaDoor
set_option linter.unusedVariables false
set_option linter.unusedSimpArgs false
open Go.ChangeShapes Go.WideShapes Go.ChangeAt Go.RowKit
open Go.Maps (Keyed IsMap)

/-- how a pointer to a page reads in the map: by its block's number -/
def ptrElem : Value → Option (DataW Unit × List MemPlace)
  | .pointer none => some (.nil, [])
  | .pointer (some ⟨b, 0, none⟩) => some (.lit (.int .u64 b), [])
  | _ => none

theorem ptrElem_nil {v : Value} {ps : List MemPlace} (h : ptrElem v = some (.nil, ps)) : v = .pointer none := by
  unfold ptrElem at h
  split at h
  · rfl
  · simp at h
  · cases h

theorem ptrElem_at {v : Value} {b : Nat} {ps : List MemPlace} (h : ptrElem v = some (.lit (.int .u64 b), ps)) : v = .pointer (some ⟨b, 0, none⟩) := by
  unfold ptrElem at h
  split at h
  · simp at h
  · rename_i b'
    simp at h
    have e : b' = b := by omega
    rw [e]
  · cases h

theorem ptrElem_mk (b : Nat) : ptrElem (.pointer (some ⟨b, 0, none⟩)) = some (.lit (.int .u64 b), []) := rfl

abbrev Dw := DataW Unit

/-- which page has the number k -/
def pageOf (D : Dw) (k : Int) : Dw := D.atKey (.int .u64 k) .nil

theorem pageOf_same {D : Dw} (h : IsMap D) (k : Int) (d : Dw) : pageOf (D.put (.int .u64 k) d) k = d := Maps.atKey_put_same h (show WideAt.IsKeyLit (.int .u64 k) from trivial) d _
theorem pageOf_other {D : Dw} {k k' : Int} (h : k' ≠ k) (d : Dw) : pageOf (D.put (.int .u64 k) d) k' = pageOf D k' := Maps.atKey_put_other (by simpa using h) d _

/-- block m of w is a memory of M bits with the words f and the trace tr; mb: its map's block, v: its trace's slice, D: which pages there are -/
structure Mm (w : World) (m : Nat) (M : Int) (f : Int → Int) (tr : List Int) (n : Nat) (mb : Nat) (v : Value) (D : Dw) : Prop where
  bits : 14 ≤ M ∧ M ≤ 22
  here : w.heap[m]? = some (.cells #[.int .i64 M, .map (some mb), v] 77 (0, 0))
  pages : w.ownsMap Tryd.prog 25 ptrElem mb n D
  page : ∀ k : Int, (pageOf D k = .nil ∧ ∀ i : Nat, i < 512 → f (k * 512 + i) = 0) ∨ ∃ b : Nat, pageOf D k = .lit (.int .u64 b) ∧ w.rowIs b 150 512 (fun i => .int .u64 (f (k * 512 + i)))
  inj : ∀ (k k' : Int) (b : Nat), pageOf D k = .lit (.int .u64 b) → pageOf D k' = .lit (.int .u64 b) → k = k'
  full : ∀ kl, Maps.has D kl = true → ∃ (k : Int) (b : Nat), kl = .int .u64 k ∧ pageOf D k = .lit (.int .u64 b) ∧ 0 ≤ k ∧ k * 4096 < 2 ^ M.toNat
  trace : w.ownsRow 0 25 1 v tr.length (tr.map (Value.int .u64))
  few : tr.length ≤ n
  words : ∀ s, W64 (f s)

/-- the blocks that such a memory goes through -/
def Own (m mb : Nat) (v : Value) (D : Dw) (i : Nat) : Prop := i = m ∨ i = mb ∨ v.ownBlock = some i ∨ ∃ k, pageOf D k = .lit (.int .u64 (i : Nat))

def Mem (w : World) (F : Nat → Prop) (m : Nat) (M : Int) (f : Int → Int) (tr : List Int) (n : Nat) : Prop := ∃ mb v D, Mm w m M f tr n mb v D ∧ ∀ i, Own m mb v D i → F i

/-- w' is w but for the blocks of F and new ones -/
structure Turn (F : Nat → Prop) (w w' : World) : Prop where
  os : w'.os = w.os
  tape : w'.tape = w.tape
  output : w'.output = w.output
  size : w.heap.size ≤ w'.heap.size
  block : ∀ i, i < w.heap.size → ¬ F i → w'.heap[i]? = w.heap[i]?

/-- the blocks from B on -/
def From (B : Nat) : Nat → Prop := fun i => B ≤ i

/-- F, and what is new behind w -/
def Since (F : Nat → Prop) (w : World) (i : Nat) : Prop := F i ∨ w.heap.size ≤ i

theorem Turn.refl (F : Nat → Prop) (w : World) : Turn F w w := ⟨rfl, rfl, rfl, Nat.le_refl _, fun _ _ _ => rfl⟩
theorem Turn.trans {F : Nat → Prop} {a b c : World} (h : Turn F a b) (k : Turn (Since F a) b c) : Turn F a c :=
  ⟨k.os.trans h.os, k.tape.trans h.tape, k.output.trans h.output, Nat.le_trans h.size k.size, fun i hi hF => (k.block i (Nat.lt_of_lt_of_le hi h.size) (fun hs => by rcases hs with hs | hs; exact hF hs; omega)).trans (h.block i hi hF)⟩
theorem Turn.mono {F G : Nat → Prop} {a b : World} (h : Turn F a b) (hG : ∀ i, i < a.heap.size → F i → G i) : Turn G a b := ⟨h.os, h.tape, h.output, h.size, fun i hi hg => h.block i hi (fun hf => hg (hG i hi hf))⟩
theorem Turn.below {F : Nat → Prop} {a b : World} {B : Nat} (h : Turn F a b) (hF : ∀ i, F i → B ≤ i) (hB : B ≤ a.heap.size) : Below B a b :=
  ⟨h.os, h.tape, h.output, h.size, fun k hk => h.block k (by omega) (fun hf => by have := hF k hf; omega)⟩
theorem Turn.of_below {a b : World} {B : Nat} (h : Below B a b) : Turn (fun i => B ≤ i) a b := ⟨h.os, h.tape, h.output, h.size, fun i _ hn => h.block i (by omega)⟩
theorem Turn.of_kept {a b : World} (F : Nat → Prop) (h : Below a.heap.size a b) : Turn F a b := ⟨h.os, h.tape, h.output, h.size, fun i hi _ => h.block i hi⟩
theorem Turn.grown {F : Nat → Prop} {a b : World} {row : Option Nat} (h : a.grownBy b row) (hr : ∀ i, row = some i → F i) : Turn F a b := ⟨h.os, h.tape, h.output, h.size, fun i hi hn => h.block i hi (fun e => hn (hr i e.symm))⟩
theorem Turn.setCell (F : Nat → Prop) (a : World) (p : Addr) (u : Value) (hp : F p.block) : Turn F a (a.setCell p u) :=
  ⟨rfl, rfl, rfl, by simp [World.setCell], fun i _ hn => Below.heap_setCell _ _ _ _ (fun e => hn (e ▸ hp))⟩
theorem Turn.alloc (F : Nat → Prop) (a : World) (o : Obj) : Turn F a (a.alloc o) := Turn.grown (World.grownBy_alloc a o none) (by simp)

theorem since_mono {F : Nat → Prop} {a b : World} (hs : a.heap.size ≤ b.heap.size) {i : Nat} (h : Since F b i) : Since F a i := h.imp id (fun h => Nat.le_trans hs h)
theorem since_since {F : Nat → Prop} {a b : World} (hs : a.heap.size ≤ b.heap.size) {i : Nat} (h : Since (Since F a) b i) : Since F a i := by
  rcases h with h | h
  · exact h
  · exact Or.inr (Nat.le_trans hs h)

section
variable {w w' : World} {m : Nat} {M : Int} {f : Int → Int} {tr : List Int} {n mb : Nat} {v : Value} {D : Dw}

theorem Mm.own_lt (h : Mm w m M f tr n mb v D) {i : Nat} (hi : Own m mb v D i) : i < w.heap.size := by
  rcases hi with rfl | rfl | hv | ⟨k, hk⟩
  · exact lt_of_block h.here
  · exact h.pages.lt
  · exact (h.trace.lt i hv).2
  · rcases h.page k with ⟨hn, _⟩ | ⟨b, hb, hr⟩
    · rw [hn] at hk; cases hk
    · rw [hb] at hk
      simp at hk
      have e : b = i := by omega
      exact e ▸ hr.lt

/-- what its blocks hold is all that it is -/
theorem Mm.same (h : Mm w m M f tr n mb v D) (he : ∀ i, Own m mb v D i → w'.heap[i]? = w.heap[i]?) : Mm w' m M f tr n mb v D := by
  refine ⟨h.bits, (he m (Or.inl rfl)).trans h.here, ?_, ?_, h.inj, h.full, ?_, h.few, h.words⟩
  · obtain ⟨es, clock, hb, r⟩ := h.pages
    exact ⟨es, clock, (he mb (Or.inr (Or.inl rfl))).trans hb, r⟩
  · intro k
    rcases h.page k with hn | ⟨b, hb, hr⟩
    · exact Or.inl hn
    · exact Or.inr ⟨b, hb, hr.of_block (he b (Or.inr (Or.inr (Or.inr ⟨k, hb⟩))))⟩
  · refine ⟨h.trace.1, ?_⟩
    rcases h.trace.2 with hn | ⟨g, cap, cur, hv, hb, hg, r⟩
    · exact Or.inl hn
    · exact Or.inr ⟨g, cap, cur, hv, hb, (he g (Or.inr (Or.inr (Or.inl (by rw [hv]; rfl))))).trans hg, r⟩

theorem Mm.more (h : Mm w m M f tr n mb v D) {n' : Nat} (hn : n ≤ n') : Mm w m M f tr n' mb v D :=
  ⟨h.bits, h.here, h.pages.mono hn, h.page, h.inj, h.full, h.trace, Nat.le_trans h.few hn, h.words⟩

/-- a block that is a page is neither the memory's own, nor its map, nor its trace -/
theorem Mm.page_apart (h : Mm w m M f tr n mb v D) {k : Int} {b : Nat} (hb : pageOf D k = .lit (.int .u64 b)) : b ≠ m ∧ b ≠ mb ∧ v.ownBlock ≠ some b := by
  rcases h.page k with ⟨hn, _⟩ | ⟨b', hb', hr⟩
  · rw [hn] at hb; cases hb
  · rw [hb'] at hb
    simp at hb
    have e : b' = b := by omega
    subst e
    obtain ⟨c, hc, _⟩ := hr
    refine ⟨fun e => ?_, fun e => ?_, fun e => ?_⟩
    · rw [e, h.here] at hc; simp at hc
    · obtain ⟨es, clock, hm, _⟩ := h.pages
      rw [e, hm] at hc; simp at hc
    · rcases h.trace.2 with ⟨hn, _⟩ | ⟨g, cap, cur, hv, _, hg, _⟩
      · rw [hn] at e; simp [Value.ownBlock] at e
      · rw [hv] at e
        simp [Value.ownBlock] at e
        rw [← e, hg] at hc; simp at hc

theorem Mm.page_row (h : Mm w m M f tr n mb v D) {k : Int} {b : Nat} (hb : pageOf D k = .lit (.int .u64 b)) : w.rowIs b 150 512 (fun i => .int .u64 (f (k * 512 + i))) := by
  rcases h.page k with ⟨hn, _⟩ | ⟨b', hb', hr⟩
  · rw [hn] at hb; cases hb
  · rw [hb'] at hb
    simp at hb
    have e : b' = b := by omega
    exact e ▸ hr

theorem Mm.apart (h : Mm w m M f tr n mb v D) : m ≠ mb ∧ v.ownBlock ≠ some m ∧ v.ownBlock ≠ some mb := by
  refine ⟨fun e => ?_, fun e => ?_, fun e => ?_⟩
  · obtain ⟨es, clock, hm, _⟩ := h.pages
    rw [← e, h.here] at hm; simp at hm
  · rcases h.trace.2 with ⟨hn, _⟩ | ⟨g, cap, cur, hv, _, hg, _⟩
    · rw [hn] at e; simp [Value.ownBlock] at e
    · rw [hv] at e
      simp [Value.ownBlock] at e
      rw [e, h.here] at hg; simp at hg
  · obtain ⟨es, clock, hm, _⟩ := h.pages
    rcases h.trace.2 with ⟨hn, _⟩ | ⟨g, cap, cur, hv, _, hg, _⟩
    · rw [hn] at e; simp [Value.ownBlock] at e
    · rw [hv] at e
      simp [Value.ownBlock] at e
      rw [e, hm] at hg; simp at hg

/-- the words with x at s -/
def updF (f : Int → Int) (s x : Int) : Int → Int := fun j => if j = s then x else f j

/-- a word of a page that is there is written -/
theorem Mm.put (h : Mm w m M f tr n mb v D) {k : Int} {b : Nat} (hb : pageOf D k = .lit (.int .u64 b)) {r : Nat} (hr : r < 512) {x : Int} (hx : W64 x) :
    Mm (w.setCell ⟨b, r, none⟩ (.int .u64 x)) m M (updF f (k * 512 + r) x) tr n mb v D := by
  obtain ⟨a1, a2, a3⟩ := h.page_apart hb
  have keep : ∀ i, i ≠ b → (w.setCell ⟨b, r, none⟩ (.int .u64 x)).heap[i]? = w.heap[i]? := fun i hi => Below.heap_setCell _ _ _ _ hi
  refine ⟨h.bits, (keep m a1.symm).trans h.here, ?_, ?_, h.inj, h.full, ownsRow_setCell_other h.trace a3 _, h.few, ?_⟩
  · exact h.pages.setCell (fun e => a2 e.symm) _
  · intro k'
    rcases h.page k' with ⟨hn, hz⟩ | ⟨b', hb', hr'⟩
    · refine Or.inl ⟨hn, fun i hi => ?_⟩
      have : k' ≠ k := fun e => by rw [e, hb] at hn; cases hn
      unfold updF
      rw [if_neg (by omega)]
      exact hz i hi
    · refine Or.inr ⟨b', hb', ?_⟩
      by_cases e : k' = k
      · subst e
        have e2 : b' = b := by rw [hb'] at hb; simp at hb; omega
        subst e2
        refine (hr'.set r (.int .u64 x)).congr (fun i hi => ?_)
        unfold updF
        by_cases e3 : i = r
        · subst e3; simp
        · rw [if_neg e3, if_neg (by omega)]
      · have hne : b' ≠ b := fun e2 => e (h.inj k' k b (e2 ▸ hb') hb)
        refine (hr'.setOther (a := ⟨b, r, none⟩) hne _).congr (fun i hi => ?_)
        unfold updF
        rw [if_neg (by omega)]
  · intro s
    unfold updF
    split
    · exact hx
    · exact h.words s

theorem zeros_eq : Tryd.zeroCells150 = Array.replicate 512 (.int .u64 0) := by kernel_rfl

/-- a page is made -/
theorem Mm.made (h : Mm w m M f tr n mb v D) {k : Int} (hk : pageOf D k = .nil) (k0 : 0 ≤ k) (k1 : k * 4096 < 2 ^ M.toNat)
    (hmap : w'.ownsMap Tryd.prog 25 ptrElem mb (n + 1) (D.put (.int .u64 k) (.lit (.int .u64 w.heap.size)))) (hg : (w.alloc (.cells Tryd.zeroCells150 150)).grownBy w' (some mb)) :
    Mm w' m M f tr (n + 1) mb v (D.put (.int .u64 k) (.lit (.int .u64 w.heap.size))) := by
  have hD := h.pages.isMap
  obtain ⟨a1, a2, a3⟩ := h.apart
  have keep : ∀ i, i < w.heap.size → i ≠ mb → w'.heap[i]? = w.heap[i]? := fun i hi hne =>
    (hg.block i (by simp; omega) (by simpa using hne)).trans (Below.heap_alloc _ _ _ hi)
  have hnew : w'.rowIs w.heap.size 150 512 (fun i => .int .u64 (f (k * 512 + i))) := by
    have r0 : (w.alloc (.cells Tryd.zeroCells150 150)).rowIs w.heap.size 150 512 (fun _ => .int .u64 0) :=
      ⟨_, Deep.blk_alloc_new _ _, by rw [zeros_eq]; simp, fun i hi => by rw [zeros_eq]; simp [hi]⟩
    have hne : w.heap.size ≠ mb := by have := h.pages.lt; omega
    refine (r0.of_block (hg.block _ (by simp) (by simpa using hne))).congr (fun i hi => ?_)
    rcases h.page k with ⟨_, hz⟩ | ⟨b, hb, _⟩
    · rw [hz i hi]
    · rw [hk] at hb; cases hb
  refine ⟨h.bits, (keep m (h.own_lt (Or.inl rfl)) a1).trans h.here, hmap, ?_, ?_, ?_, ?_, Nat.le_succ_of_le h.few, h.words⟩
  · intro k'
    by_cases e : k' = k
    · subst e
      exact Or.inr ⟨w.heap.size, pageOf_same hD _ _, hnew⟩
    · rw [pageOf_other e]
      rcases h.page k' with hn | ⟨b, hb, hr⟩
      · exact Or.inl hn
      · exact Or.inr ⟨b, hb, hr.of_block (keep b hr.lt (h.page_apart hb).2.1)⟩
  · intro k1 k2 b h1 h2
    have old : ∀ k', pageOf D k' = .lit (.int .u64 b) → b < w.heap.size := fun k' hk' => h.own_lt (Or.inr (Or.inr (Or.inr ⟨k', hk'⟩)))
    by_cases e1 : k1 = k
    · by_cases e2 : k2 = k
      · rw [e1, e2]
      · rw [e1, pageOf_same hD] at h1
        rw [pageOf_other e2] at h2
        have := old _ h2
        simp at h1
        have e : w.heap.size = b := by omega
        omega
    · rw [pageOf_other e1] at h1
      by_cases e2 : k2 = k
      · rw [e2, pageOf_same hD] at h2
        have := old _ h1
        simp at h2
        have e : w.heap.size = b := by omega
        omega
      · rw [pageOf_other e2] at h2
        exact h.inj _ _ _ h1 h2
  · intro kl hkl
    by_cases e : kl = .int .u64 k
    · subst e
      exact ⟨k, w.heap.size, rfl, pageOf_same hD _ _, k0, k1⟩
    · rw [Maps.has_put_other e] at hkl
      obtain ⟨k', b, rfl, hb, r⟩ := h.full kl hkl
      exact ⟨k', b, rfl, by rw [pageOf_other (by simpa using e)]; exact hb, r⟩
  · exact (h.trace.alloc _).kept hg (Or.inr a3)

/-- the trace is another one -/
theorem Mm.retrace (h : Mm w m M f tr n mb v D) {tr' : List Int} {v' : Value} (hl : tr'.length ≤ n) (hs : w'.heap.size ≥ w.heap.size)
    (keep : ∀ i, i < w.heap.size → i ≠ m → v.ownBlock ≠ some i → w'.heap[i]? = w.heap[i]?) (hm : w'.heap[m]? = some (.cells #[.int .i64 M, .map (some mb), v'] 77 (0, 0)))
    (ht : w'.ownsRow 0 25 1 v' tr'.length (tr'.map (Value.int .u64))) : Mm w' m M f tr' n mb v' D := by
  obtain ⟨a1, a2, a3⟩ := h.apart
  refine ⟨h.bits, hm, ?_, ?_, h.inj, h.full, ht, hl, h.words⟩
  · have hlt := h.pages.lt
    obtain ⟨es, clock, hb, r⟩ := h.pages
    exact ⟨es, clock, (keep mb hlt a1.symm a3).trans hb, r⟩
  · intro k
    rcases h.page k with hn | ⟨b, hb, hr⟩
    · exact Or.inl hn
    · obtain ⟨b1, b2, b3⟩ := h.page_apart hb
      exact Or.inr ⟨b, hb, hr.of_block (keep b hr.lt b1 b3)⟩

theorem Mm.set2 (h : Mm w m M f tr n mb v D) (u : Value) : (w.setCell ⟨m, 2, none⟩ u).heap[m]? = some (.cells #[.int .i64 M, .map (some mb), u] 77 (0, 0)) := by
  simp [World.setCell, Array.getElem?_modify, h.here]

theorem Mm.cells (h : Mm w m M f tr n mb v D) : w.cell? ⟨m, 0, none⟩ = some (.int .i64 M) ∧ w.cell? ⟨m, 1, none⟩ = some (.map (some mb)) ∧ w.cell? ⟨m, 2, none⟩ = some v ∧ w.frozen? ⟨m, 2, none⟩ = false := by
  simp [World.cell?, World.frozen?, h.here]

end

end Go.Proofs.YtopmmlcjlopmaaaDoor
