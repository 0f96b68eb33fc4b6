/- Several texts of ours in one: Vj, Td, By. -/
import Derived.Test.YtlpjbmlkpmhdlaaDoorGVaVrFr
import Derived.Test.YtlpjbmlkpmhdlaaDoorRows
import Derived.ProofKit
import Derived.LaidMore
import Derived.Lib.LaidTab
import Derived.OpenShut
import Derived.Stop.Joined
import Derived.Test.YtlpjbmlkpmhdlaaDoorGBvAM
/- Join, of package va and of the document: four places' address. -/
namespace Go.Proofs.YtlpjbmlkpmhdlaaDoor
set_option linter.unusedVariables false
set_option linter.unusedSimpArgs false
open Go.ChangeShapes Go.WideShapes Go.ChangeAt Go.RowKit Go.Joins

theorem shifts_below {w w' : World} (hs : Shifts w) (h : 0 < w.heap.size) (hb : Below w.heap.size w w') : Shifts w' := by
  obtain ⟨s1, s2, s3, s4⟩ := hs
  exact ⟨(hb.cell h).trans s1, (hb.cell h).trans s2, (hb.cell h).trans s3, (hb.cell h).trans s4⟩

theorem shifts_alloc {w : World} (hs : Shifts w) (h : 0 < w.heap.size) (o : Obj) : Shifts (w.alloc o) := shifts_below hs h (below_alloc1 _ _)

/-- how far four places are set -/
def setK (low p q r s : Int) : Nat → Int
  | 0 => low % 4096
  | 1 => setF (low % 4096) 39 9 (IntKind.u64.wrap p)
  | 2 => setF (setF (low % 4096) 39 9 (IntKind.u64.wrap p)) 30 9 (IntKind.u64.wrap q)
  | 3 => setF (setF (setF (low % 4096) 39 9 (IntKind.u64.wrap p)) 30 9 (IntKind.u64.wrap q)) 21 9 (IntKind.u64.wrap r)
  | _ => setsF low p q r s

theorem w64_places (p q r s low : Int) : W64 (placesF p q r s low) := by unfold W64 placesF; omega

/-- how far four places are told -/
def rK (p q r s : Int) : Nat → Int
  | 0 => 0
  | 1 => p % 512
  | 2 => p % 512 * 512 + q % 512
  | 3 => (p % 512 * 512 + q % 512) * 512 + r % 512
  | _ => ((p % 512 * 512 + q % 512) * 512 + r % 512) * 512 + s % 512

theorem rK_bd (p q r s : Int) (k : Nat) : 0 ≤ rK p q r s k ∧ rK p q r s k < 68719476736 := by
  match k with
  | 0 => simp only [rK]; omega
  | 1 => simp only [rK]; omega
  | 2 => simp only [rK]; omega
  | 3 => simp only [rK]; omega
  | k + 4 => simp only [rK]; omega

theorem place_t (p : Int) : (wrap64 (p.tmod 512 + 512)).tmod 512 = p % 512 := by
  have h : -512 < p.tmod 512 ∧ p.tmod 512 < 512 ∧ ∃ m, p.tmod 512 = p + 512 * m := by
    have e := Int.mul_tdiv_add_tmod p 512
    refine ⟨?_, Int.tmod_lt_of_pos _ (by decide), - p.tdiv 512, by omega⟩
    by_cases c : 0 ≤ p
    · have := Int.tmod_nonneg 512 c; omega
    · have h1 := Int.tmod_lt_of_pos (-p) (show (0 : Int) < 512 by decide)
      rw [Int.neg_tmod] at h1
      omega
  obtain ⟨h1, h2, m, h3⟩ := h
  have e : wrap64 (p.tmod 512 + 512) = p.tmod 512 + 512 := by unfold wrap64; omega
  rw [e, Int.tmod_eq_emod_of_nonneg (by omega)]
  omega

theorem tell_one {x : Int} (p : Int) (h0 : 0 ≤ x) (h1 : x < 68719476736) :
    IntKind.u64.wrap (IntKind.u64.wrap (512 * x) + IntKind.u64.wrap ((wrap64 (p.tmod 512 + 512)).tmod 512)) = x * 512 + p % 512 := by
  rw [place_t, IntKind.wrap_u64, IntKind.wrap_u64, IntKind.wrap_u64]
  omega

theorem tell_all (p q r s low : Int) : IntKind.u64.wrap (IntKind.u64.wrap (4096 * rK p q r s 4) + low % 4096) = placesF p q r s low := by
  simp only [rK, placesF]
  rw [IntKind.wrap_u64, IntKind.wrap_u64]
  omega

theorem ret_u {a b : Int} (h : a = b) : Value.int .u64 a = .int .u64 b := by rw [h]

end Go.Proofs.YtlpjbmlkpmhdlaaDoor
/- Layer 3's table of shifts: from the row's condition to the four cells that the walks ask; the world that the program's own initialiser leaves meets it. -/
namespace Go.Proofs.YtlpjbmlkpmhdlaaDoor
set_option linter.unusedVariables false
set_option linter.unusedSimpArgs false
open Go.ChangeShapes Go.WideShapes Go.ChangeAt Go.RowKit

def laidShifts : List (String × DataW Unit) := [("dormer/va.shifts", Rows.laid_dormer_va_shifts)]

theorem gShifts : Tryd.prog.globalNamed "dormer/va.shifts" = some 0 := by kernel_rfl
theorem tShifts : (Tryd.prog.globals[0]?).map (·.type) = some 133 := by kernel_rfl

theorem door_met (os : Os) (args : Array Value) : laidMetH Tryd.prog laidShifts ((World.doorLaid Tryd.prog 400 os).forCall (fun _ _ => 0) ⟨#[], args, []⟩).memory :=
  laidMetH_of_parts3 (fuel := 8) (laidMet_of_run' 8 (by kernel_rfl) (by kernel_rfl)) (by kernel_rfl) (by kernel_rfl)

theorem shifts_of_laid {W : World} (h : laidMetH Tryd.prog laidShifts W) : Shifts W := by
  rw [MakeChecks.laidMetH_plain _ _ _ (by kernel_rfl)] at h
  have hT : Lib.TabIs Tryd.prog W "dormer/va.shifts" .i64 [12, 21, 30, 39] :=
    Lib.tabIs_of_head gShifts tShifts Tryd.underlying133 Tryd.underlying3 (by kernel_rfl) (by kernel_rfl) h
  exact ⟨hT.cell gShifts 0 (by decide), hT.cell gShifts 1 (by decide), hT.cell gShifts 2 (by decide), hT.cell gShifts 3 (by decide)⟩

theorem size_of_shifts {W : World} (h : Shifts W) : 0 < W.heap.size := by
  rcases Nat.eq_zero_or_pos W.heap.size with e | e
  · have h0 := h.1
    unfold World.cell? at h0
    rw [Array.getElem?_eq_none (by show W.heap.size ≤ 0; omega)] at h0
    cases h0
  · exact e

theorem below_of_same {P : Program} {f : FuncId} {args : Array Value} {w : World} {v : Value} (h : Calls P f args w fun e w' => e = .returned v ∧ w = w') : Calls P f args w fun e w' => e = .returned v ∧ Below w.heap.size w w' :=
  h.mono fun _ _ ⟨he, hw⟩ => ⟨he, hw ▸ Below.refl _ _⟩

theorem list4 {α : Type} {zs : List α} (h : zs.length = 4) : ∃ t u x y, zs = [t, u, x, y] := by
  match zs, h with
  | [t, u, x, y], _ => exact ⟨t, u, x, y, rfl⟩

end Go.Proofs.YtlpjbmlkpmhdlaaDoor
/- Plain mathematics: words of 64 bits told by their bytes. Nothing of the program. -/
namespace Go.Proofs.YtlpjbmlkpmhdlaaDoor
set_option linter.unusedVariables false
set_option linter.unusedSimpArgs false

def hasB (f n : Int) : Bool := decide (0 ≤ f ∧ 1 ≤ n ∧ f ≤ 8 - n)
def cutF (x f n : Int) : Int := if hasB f n then getF x (8 * f) (8 * n) else 0
def layF (x f n v : Int) : Int := if hasB f n then setF x (8 * f) (8 * n) v else x
def byteF (x i : Int) : Int := cutF x i 1
def putF (x i b : Int) : Int := layF x i 1 b

theorem hasB_bd {f n : Int} (h : hasB f n = true) : 0 ≤ f ∧ 1 ≤ n ∧ f + n ≤ 8 := by
  have : 0 ≤ f ∧ 1 ≤ n ∧ f ≤ 8 - n := by simpa [hasB] using h
  omega

theorem hasB_mk {f n : Int} (h0 : 0 ≤ f) (h1 : 1 ≤ n) (h2 : f + n ≤ 8) : hasB f n = true := by
  simp [hasB]; omega

theorem hasB_no {f n : Int} (h : f < 0 ∨ n < 1 ∨ 8 < f + n) : hasB f n = false := by
  simp [hasB]; omega

theorem hasB_isF {f n : Int} (h : hasB f n = true) : isF (8 * f) (8 * n) = true := by
  obtain ⟨h0, h1, h2⟩ := hasB_bd h
  exact isF_mk (by omega) (by omega) (by omega)

theorem w64_cut (x f n : Int) : W64 (cutF x f n) := by
  unfold cutF; split
  · exact w64_get _ _ _
  · exact w64_zero

theorem w64_lay {x : Int} (hx : W64 x) (f n v : Int) : W64 (layF x f n v) := by
  unfold layF; split
  · exact w64_set hx _ _ _
  · exact hx

theorem tb_cut {x : Int} (hx : W64 x) (f n : Int) (i : Nat) : tb (cutF x f n) i = (hasB f n && decide ((i : Int) < 8 * n) && tb x (i + (8 * f).toNat)) := by
  unfold cutF
  by_cases h : hasB f n = true
  · rw [if_pos h, tb_get hx, hasB_isF h, h]
  · simp only [Bool.not_eq_true] at h
    rw [if_neg (by simp [h]), h, tb_zero]; rfl

theorem tb_lay {x v : Int} (hx : W64 x) (hv : W64 v) (f n : Int) (i : Nat) :
    tb (layF x f n v) i = if hasB f n && decide (8 * f ≤ i) && decide ((i : Int) < 8 * f + 8 * n) then tb v (i - (8 * f).toNat) else tb x i := by
  unfold layF
  by_cases h : hasB f n = true
  · rw [if_pos h, tb_set hx hv, hasB_isF h, h]
  · simp only [Bool.not_eq_true] at h
    rw [if_neg (by simp [h]), h]; rfl

theorem byte_lt (x i : Int) (hx : W64 x) : 0 ≤ byteF x i ∧ byteF x i < 256 := by
  unfold byteF cutF
  split
  · rename_i h
    have e := get_div hx (hasB_isF h)
    rw [e]
    have e2 : (2 : Int) ^ (8 * 1 : Int).toNat = 256 := by decide
    rw [e2]
    exact ⟨Int.emod_nonneg _ (by omega), Int.emod_lt_of_pos _ (by omega)⟩
  · omega

theorem byte_div {x i : Int} (hx : W64 x) (h0 : 0 ≤ i) (h1 : i ≤ 7) : byteF x i = x / 2 ^ (8 * i).toNat % 256 := by
  unfold byteF cutF
  have h := hasB_mk (f := i) (n := 1) h0 (by omega) (by omega)
  rw [if_pos h, get_div hx (hasB_isF h)]
  have e2 : (2 : Int) ^ (8 * 1 : Int).toNat = 256 := by decide
  rw [e2]

theorem byte_no (x : Int) {i : Int} (h : i < 0 ∨ 7 < i) : byteF x i = 0 := by
  unfold byteF cutF
  rw [hasB_no (by omega)]; rfl

theorem put_no (x b : Int) {i : Int} (h : i < 0 ∨ 7 < i) : putF x i b = x := by
  unfold putF layF
  rw [hasB_no (by omega)]; rfl

theorem w64_small {b : Int} (h0 : 0 ≤ b) (h1 : b < 256) : W64 b := by unfold W64; omega

theorem w64_byte {x : Int} (hx : W64 x) (i : Int) : W64 (byteF x i) := by
  obtain ⟨h0, h1⟩ := byte_lt x i hx; exact w64_small h0 h1

theorem tb_small {b : Int} (h0 : 0 ≤ b) (h1 : b < 256) {i : Nat} (hi : 8 ≤ i) : tb b i = false := by
  unfold tb
  apply Nat.testBit_lt_two_pow
  have : 2 ^ 8 ≤ 2 ^ i := Nat.pow_le_pow_right (by decide) hi
  omega

theorem tb_byte {x : Int} (hx : W64 x) (i : Int) (j : Nat) : tb (byteF x i) j = (decide (0 ≤ i) && decide (i ≤ 7) && decide (j < 8) && tb x (j + (8 * i).toNat)) := by
  unfold byteF
  rw [tb_cut hx]
  by_cases h : 0 ≤ i ∧ i ≤ 7
  · rw [hasB_mk h.1 (by omega) (by omega)]
    have e : decide ((j : Int) < 8 * 1) = decide (j < 8) := by
      apply decide_eq_decide.2; omega
    rw [e]
    simp [h.1, h.2]
  · rw [hasB_no (by omega)]
    by_cases c : 0 ≤ i
    · simp [c, show ¬ i ≤ 7 by omega]
    · simp [c]

/-- words with the same bytes are the same -/
theorem byte_ext {a b : Int} (ha : W64 a) (hb : W64 b) (h : ∀ k : Nat, k < 8 → byteF a k = byteF b k) : a = b := by
  apply tb_ext ha hb
  intro i hi
  have e := congrArg (fun z => tb z (i % 8)) (h (i / 8) (by omega))
  simp only [tb_byte ha, tb_byte hb] at e
  have q : i % 8 + (8 * ((i / 8 : Nat) : Int)).toNat = i := by omega
  rw [q] at e
  have c2 : ((i / 8 : Nat) : Int) ≤ 7 := by omega
  have c3 : i % 8 < 8 := by omega
  have c1 : (0 : Int) ≤ ((i / 8 : Nat) : Int) := by omega
  rw [decide_eq_true c1, decide_eq_true c2, decide_eq_true c3] at e
  simpa using e

theorem byte_ext' {a b : Int} (h0 : 0 ≤ a) (h1 : a < 256) (k0 : 0 ≤ b) (k1 : b < 256) (h : ∀ i, i < 8 → tb a i = tb b i) : a = b := by
  apply tb_ext (w64_small h0 h1) (w64_small k0 k1)
  intro i hi
  by_cases c : i < 8
  · exact h i c
  · rw [tb_small h0 h1 (by omega), tb_small k0 k1 (by omega)]

/-- the bytes of a cut -/
theorem byte_cut {x : Int} (hx : W64 x) (f n : Int) {k : Nat} (hk : k < 8) : byteF (cutF x f n) k = if hasB f n && decide ((k : Int) < n) then byteF x (f + k) else 0 := by
  obtain ⟨a0, a1⟩ := byte_lt (cutF x f n) k (w64_cut _ _ _)
  have b := byte_lt x (f + k) hx
  apply byte_ext' a0 a1 (by split <;> omega) (by split <;> omega)
  intro i hi
  rw [tb_byte (w64_cut _ _ _), tb_cut hx]
  by_cases h : hasB f n = true
  · obtain ⟨h0, h1, h2⟩ := hasB_bd h
    by_cases c : (k : Int) < n
    · rw [if_pos (by simp [h, c]), tb_byte hx, h]
      have e : i + (8 * (k : Int)).toNat + (8 * f).toNat = i + (8 * (f + (k : Int))).toNat := by omega
      rw [e]
      simp [hi, show (k : Int) ≤ 7 by omega, show 0 ≤ f + (k : Int) by omega, show f + (k : Int) ≤ 7 by omega]
      intro _; omega
    · rw [if_neg (by simp [c]), tb_zero]
      have : decide (((i + (8 * (k : Int)).toNat : Nat) : Int) < 8 * n) = false := by simp; omega
      rw [this]; simp
  · simp only [Bool.not_eq_true] at h
    rw [h]; simp [tb_zero]

/-- the bytes of what was laid -/
theorem byte_lay {x v : Int} (hx : W64 x) (hv : W64 v) (f n : Int) {k : Nat} (hk : k < 8) :
    byteF (layF x f n v) k = if hasB f n && decide (f ≤ k) && decide ((k : Int) < f + n) then byteF v (k - f) else byteF x k := by
  obtain ⟨a0, a1⟩ := byte_lt (layF x f n v) k (w64_lay hx _ _ _)
  have b := byte_lt x k hx
  have c := byte_lt v (k - f) hv
  apply byte_ext' a0 a1 (by split <;> omega) (by split <;> omega)
  intro i hi
  rw [tb_byte (w64_lay hx _ _ _), tb_lay hx hv]
  by_cases h : hasB f n = true
  · obtain ⟨h0, h1, h2⟩ := hasB_bd h
    by_cases c : f ≤ (k : Int) ∧ (k : Int) < f + n
    · obtain ⟨c1, c2⟩ := c
      rw [if_pos (by simp [h]; omega), if_pos (by simp [h, c1, c2]), tb_byte hv]
      have e : i + (8 * (k : Int)).toNat - (8 * f).toNat = i + (8 * ((k : Int) - f)).toNat := by omega
      rw [e]
      simp [hi, show (k : Int) ≤ 7 by omega, show (k : Int) - f ≤ 7 by omega]
      intro _; omega
    · rw [if_neg (by simp; omega), if_neg (by simp; omega), tb_byte hx]
  · simp only [Bool.not_eq_true] at h
    rw [h]; simp [tb_byte hx]

theorem byte_put {x b : Int} (hx : W64 x) (h0 : 0 ≤ b) (h1 : b < 256) (i : Int) {k : Nat} (hk : k < 8) :
    byteF (putF x i b) k = if (k : Int) = i then b else byteF x k := by
  unfold putF
  rw [byte_lay hx (w64_small h0 h1) i 1 hk]
  by_cases c : (k : Int) = i
  · have hb : hasB i 1 = true := hasB_mk (by omega) (by omega) (by omega)
    rw [if_pos (by simp [hb]; omega), if_pos c, c, Int.sub_self]
    obtain ⟨a0, a1⟩ := byte_lt b 0 (w64_small h0 h1)
    apply byte_ext' a0 a1 h0 h1
    intro j hj
    rw [tb_byte (w64_small h0 h1)]
    simp [hj]
  · rw [if_neg (by simp; omega), if_neg c]

theorem w64_put {x : Int} (hx : W64 x) (i b : Int) : W64 (putF x i b) := w64_lay hx _ _ _

/- ### a list of bytes as a word -/
def wordOf : List Int → Int
  | [] => 0
  | z :: zs => z + 256 * wordOf zs

/-- numbers that fit a byte -/
def U8s (zs : List Int) : Prop := ∀ z ∈ zs, 0 ≤ z ∧ z < 256

theorem word_bd (zs : List Int) (h : U8s zs) : 0 ≤ wordOf zs ∧ wordOf zs < 2 ^ (8 * zs.length) := by
  induction zs with
  | nil => simp [wordOf]
  | cons z zs ih =>
    obtain ⟨a, b⟩ := ih (fun y hy => h y (by simp [hy]))
    obtain ⟨c, d⟩ := h z (by simp)
    have e : (2 : Int) ^ (8 * (z :: zs).length) = 256 * 2 ^ (8 * zs.length) := by
      rw [List.length_cons, Nat.mul_add, Int.pow_add, Int.mul_comm]; rfl
    rw [e]
    simp only [wordOf]
    omega

theorem tb_step {z a : Int} (h0 : 0 ≤ z) (h1 : z < 256) (ha : 0 ≤ a) (i : Nat) : tb (z + 256 * a) i = if i < 8 then tb z i else tb a (i - 8) := by
  obtain ⟨m, rfl⟩ := Int.eq_ofNat_of_zero_le h0
  obtain ⟨n, rfl⟩ := Int.eq_ofNat_of_zero_le ha
  unfold tb
  have e : ((m : Int) + 256 * (n : Int)).toNat = 2 ^ 8 * n + m := by omega
  rw [e, Nat.testBit_two_pow_mul_add n (by omega)]
  simp

theorem tb_word (zs : List Int) (h : U8s zs) (i : Nat) : tb (wordOf zs) i = tb (zs.getD (i / 8) 0) (i % 8) := by
  induction zs generalizing i with
  | nil => simp [wordOf, tb_zero]
  | cons z zs ih =>
    have h' : U8s zs := fun y hy => h y (by simp [hy])
    obtain ⟨c, d⟩ := h z (by simp)
    simp only [wordOf]
    rw [tb_step c d (word_bd zs h').1]
    by_cases hi : i < 8
    · rw [if_pos hi, show i / 8 = 0 by omega, show i % 8 = i by omega]; rfl
    · rw [if_neg hi, ih h', show i / 8 = (i - 8) / 8 + 1 by omega, show i % 8 = (i - 8) % 8 by omega]; rfl

theorem w64_word {zs : List Int} (h : U8s zs) (hl : zs.length ≤ 8) : W64 (wordOf zs) := by
  obtain ⟨a, b⟩ := word_bd zs h
  refine ⟨a, Int.lt_of_lt_of_le b ?_⟩
  rw [two_pow_int]
  have : 2 ^ (8 * zs.length) ≤ 2 ^ 64 := Nat.pow_le_pow_right (by decide) (by omega)
  omega

theorem getD_in (zs : List Int) {k : Nat} (hk : k < zs.length) : zs.getD k 0 = zs[k] := by simp [List.getD, List.getElem?_eq_getElem hk]
theorem getD_out (zs : List Int) {k : Nat} (hk : zs.length ≤ k) : zs.getD k 0 = 0 := by simp [List.getD, List.getElem?_eq_none hk]

theorem u8s_getD {zs : List Int} (h : U8s zs) (k : Nat) : 0 ≤ zs.getD k 0 ∧ zs.getD k 0 < 256 := by
  by_cases hk : k < zs.length
  · rw [getD_in _ hk]; exact h _ (List.getElem_mem hk)
  · rw [getD_out _ (by omega)]; omega

theorem byte_word {zs : List Int} (h : U8s zs) (hl : zs.length ≤ 8) {k : Nat} (hk : k < 8) : byteF (wordOf zs) k = zs.getD k 0 := by
  have hw := w64_word h hl
  obtain ⟨a0, a1⟩ := byte_lt (wordOf zs) k hw
  obtain ⟨b0, b1⟩ := u8s_getD h k
  apply byte_ext' a0 a1 b0 b1
  intro i hi
  rw [tb_byte hw, tb_word zs h, show (i + (8 * (k : Int)).toNat) / 8 = k by omega, show (i + (8 * (k : Int)).toNat) % 8 = i by omega]
  simp [hi, show (k : Int) ≤ 7 by omega]

/-- a word's bytes -/
def bytesOf (x : Int) : List Int := (List.range 8).map fun k : Nat => byteF x (k : Int)

theorem bytesOf_len (x : Int) : (bytesOf x).length = 8 := by simp [bytesOf]
theorem bytesOf_get (x : Int) {k : Nat} (hk : k < 8) : (bytesOf x).getD k 0 = byteF x k := by
  simp [bytesOf, List.getD, List.getElem?_map, List.getElem?_range hk]
theorem bytesOf_u8 {x : Int} (hx : W64 x) : U8s (bytesOf x) := by
  intro z hz
  obtain ⟨k, _, rfl⟩ := List.mem_map.1 hz
  exact byte_lt _ _ hx

theorem word_bytes {x : Int} (hx : W64 x) : wordOf (bytesOf x) = x := by
  apply byte_ext (w64_word (bytesOf_u8 hx) (by simp [bytesOf_len])) hx
  intro k hk
  rw [byte_word (bytesOf_u8 hx) (by simp [bytesOf_len]) hk, bytesOf_get x hk]

theorem list_ext8 {a b : List Int} (ha : a.length = 8) (hb : b.length = 8) (h : ∀ k, k < 8 → a.getD k 0 = b.getD k 0) : a = b := by
  apply List.ext_getElem (by omega)
  intro k h1 h2
  have := h k (by omega)
  rwa [getD_in _ h1, getD_in _ h2] at this

theorem bytes_word {zs : List Int} (h : U8s zs) (hl : zs.length = 8) : bytesOf (wordOf zs) = zs := by
  apply list_ext8 (bytesOf_len _) hl
  intro k hk
  rw [bytesOf_get _ hk, byte_word h (by omega) hk]

end Go.Proofs.YtlpjbmlkpmhdlaaDoor
