/- Several texts of ours in one: Me, Em, Ea. -/
import Derived.Test.YtopmmlcjlopmaaaDoorGMcWmMd
import Derived.Test.YtopmmlcjlopmaaaDoorGVmRN
import Derived.Test.YtopmmlcjlopmaaaDoorGVaVrFr
import Derived.BigQuiet
import Derived.Deep.DrawnRows
import Derived.OwnWalk
import Derived.Laws.Rows
/- Contracts of package mem: of a memory that is nil; of one whose blocks lie from B on; awake. -/
namespace Go.Proofs.YtopmmlcjlopmaaaDoor
set_option linter.unusedVariables false
set_option linter.unusedSimpArgs false
open Go.ChangeShapes Go.WideShapes Go.ChangeAt Go.RowKit Go.Joins

theorem mpeek_nil (a : Int) (w : World) (ha : 0 ≤ a) : Calls Tryd.prog 64 #[.pointer none, .int .u64 a] w fun e w' => e = .returned (.tuple #[.int .u64 0, .int .i64 2]) ∧ w = w' := by
  go_enter Tryd.func64, Tryd.ntmps64
  go_wp2_with (go_at_call 59; refine (slotError_nil _ _ ha).mono ?_; rintro e w' ⟨rfl, rfl⟩)
  go_ret2
  exact ⟨rfl, rfl⟩

theorem mload_nil (a : Int) (w : World) (ha : 0 ≤ a) : Calls Tryd.prog 43 #[.pointer none, .int .u64 a] w fun e w' => e = .returned (.tuple #[.int .u64 0, .int .i64 2]) ∧ w = w' := by
  go_enter Tryd.func43, Tryd.ntmps43
  go_wp2_with (go_at_call 64; refine (mpeek_nil _ _ ha).mono ?_; rintro e w' ⟨rfl, rfl⟩)
  go_ret2
  exact ⟨rfl, rfl⟩

theorem mstore_nil (a x : Int) (w : World) (ha : 0 ≤ a) : Calls Tryd.prog 31 #[.pointer none, .int .u64 a, .int .u64 x] w fun e w' => e = .returned (.int .i64 2) ∧ w = w' := by
  go_enter Tryd.func31, Tryd.ntmps31
  go_wp2_with (go_at_call 59; refine (slotError_nil _ _ ha).mono ?_; rintro e w' ⟨rfl, rfl⟩)
  go_ret
  exact ⟨rfl, rfl⟩

theorem mbits_nil (w : World) : Calls Tryd.prog 45 #[.pointer none] w fun e w' => e = .returned (.int .i64 0) ∧ w = w' := by
  go_enter Tryd.func45, Tryd.ntmps45
  go_wp2
  go_ret
  exact ⟨rfl, rfl⟩

section
variable {w : World} {B m : Nat} {M : Int} {f : Int → Int} {tr : List Int} {n : Nat}

theorem Mem.base (h : Mem w (From B) m M f tr n) : B ≤ w.heap.size := by
  obtain ⟨mb, v, D, h, hF⟩ := h
  have h1 : B ≤ m := hF m (Or.inl rfl)
  have h2 := h.own_lt (i := m) (Or.inl rfl)
  omega
theorem Mem.since {w' : World} (h : Mem w (From B) m M f tr n) {f' : Int → Int} {tr' : List Int} {n' : Nat} (h' : Mem w' (Since (From B) w) m M f' tr' n') : Mem w' (From B) m M f' tr' n' :=
  h'.mono (fun i hi => by rcases hi with hi | hi; exact hi; exact Nat.le_trans h.base hi)
theorem Mem.belowOf {w' : World} (h : Mem w (From B) m M f tr n) (ht : Turn (From B) w w') : Below B w w' := ht.below (fun _ hi => hi) h.base

theorem bstore (h : Mem w (From B) m M f tr n) (hn : n < 1000000) (a x : Int) (ha : W64 a) (hx : W64 x) :
    Calls Tryd.prog 31 #[.pointer (some ⟨m, 0, none⟩), .int .u64 a, .int .u64 x] w fun e w' => e = .returned (.int .i64 (errS M a)) ∧ Mem w' (From B) m M (storeS M f a x) tr (n + 1) ∧ Below B w w' :=
  (mstore_any h hn a x ha hx).mono fun _ _ ⟨e, k, t⟩ => ⟨e, h.since k, h.belowOf t⟩
theorem bload (h : Mem w (From B) m M f tr n) (hn : n < 1000000) (a : Int) (ha : W64 a) :
    Calls Tryd.prog 43 #[.pointer (some ⟨m, 0, none⟩), .int .u64 a] w fun e w' => e = .returned (.tuple #[.int .u64 (peekV M f a), .int .i64 (errS M a)]) ∧ Mem w' (From B) m M f (loadT M tr a) (n + 1) ∧ Below B w w' :=
  (mload_any h hn a ha).mono fun _ _ ⟨e, k, t⟩ => ⟨e, h.since k, h.belowOf t⟩
end

theorem awm4 : errS 16 8 = 0 ∧ getE 16 8 = 0 ∧ getE 16 9 = 0 ∧ getV 16 (storeS 16 (fun _ => 0) 8 258) 8 = 2 ∧ getV 16 (storeS 16 (fun _ => 0) 8 258) 9 = 1 ∧ peekV 16 (storeS 16 (fun _ => 0) 8 258) 8 = 258 ∧ loadT 16 [] 8 = [8] := by decide +kernel

theorem w8 : W64 8 := ⟨by decide, by decide⟩
theorem w9 : W64 9 := ⟨by decide, by decide⟩
theorem w258 : W64 258 := ⟨by decide, by decide⟩

/-- a slice of the call's own has just so many -/
theorem own_len {w : World} {base : Nat} {v : Value} {xs : List Int} (h : w.ownsRow base 25 1 v xs.length (xs.map (Value.int .u64))) : ∃ A c, v = .slice A xs.length c := by
  rcases h.2 with ⟨rfl, hn⟩ | ⟨g, cap, cur, rfl, _⟩
  · exact ⟨none, 0, by rw [hn]⟩
  · exact ⟨_, _, rfl⟩

end Go.Proofs.YtopmmlcjlopmaaaDoor
/- Plain mathematics of entries: a word's table, its bits, what may not be, slots and frames. Nothing of the program. -/
namespace Go.Proofs.YtopmmlcjlopmaaaDoor
set_option linter.unusedVariables false
set_option linter.unusedSimpArgs false

def tableF (x : Int) : Int := x / 4096 % 1099511627776 * 4096
def hasF (x m : Int) : Bool := bits .and .u64 x m != 0
def whenF (b : Bool) (m : Int) : Int := if b then m else 0
def leafF (x l : Int) : Bool := l == 1 || ((l == 2 || l == 3) && bitF x 7)
def lowB (b : Int) : Int := if b < 12 then 12 else b
def beyondF (b : Int) : Int := maskF (lowB b) (52 - lowB b)
def resF (x l b : Int) (nxe : Bool) : Bool :=
  hasF x (beyondF b) || (bitF x 63 && !nxe) || (l == 4 && bitF x 7) || (l == 2 && bitF x 7 && hasF x (maskF 13 8)) || (l == 3 && bitF x 7 && hasF x (maskF 13 17))
def slotF (t a l : Int) : Int := tableF t + 8 * indexF a l
def frameF (x l : Int) : Int := if leafF x l then pageF (tableF x) l else tableF x
def wordF (p w u a d s n : Bool) (f : Int) : Int := withF (withF (withF (withF (withF (withF (withF (tableF f) 0 p) 1 w) 2 u) 5 a) 6 d) 7 s) 63 n

theorem table_bd (x : Int) : 0 ≤ tableF x ∧ tableF x < 4503599627370496 := by unfold tableF; omega
theorem w64_table (x : Int) : W64 (tableF x) := by have := table_bd x; unfold W64; omega
theorem table_table (x : Int) : tableF (tableF x) = tableF x := by unfold tableF; omega
theorem table_mod (x : Int) : tableF x % 4096 = 0 := by unfold tableF; omega

theorem table_get {x : Int} (hx : W64 x) : IntKind.u64.wrap (getF x 12 40 * 4096) = tableF x := by
  have e := get_div (a := x) (lo := 12) (n := 40) hx (by decide)
  rw [e, IntKind.wrap_u64]
  show x / 4096 % 1099511627776 * 4096 % 18446744073709551616 = x / 4096 % 1099511627776 * 4096
  omega

theorem tb_table {x : Int} (hx : W64 x) (i : Nat) : tb (tableF x) i = (decide (12 ≤ i) && decide (i < 52) && tb x i) := by
  rw [← table_get hx, show (4096 : Int) = 2 ^ 12 by decide, tb_shl (w64_get _ _ _).1, tb_get hx, show isF 12 40 = true by decide]
  by_cases h : 12 ≤ i
  · rw [show i - 12 + (12 : Int).toNat = i by simp; omega]
    by_cases h2 : i < 52
    · simp [h, h2, show i < 64 by omega]; omega
    · simp [h, h2]; omega
  · simp [h]

theorem table_and {x : Int} (hx : W64 x) : bits .and .u64 x (maskF 12 40) = tableF x := by
  apply tb_ext (w64_bits _ _ _) (w64_table _)
  intro i hi
  rw [tb_and hx.1 (w64_mask _ _).1, tb_mask, tb_table hx, show isF 12 40 = true by decide]
  cases tb x i
  · simp
  · rw [Bool.eq_iff_iff]; simp [hi]; omega

theorem mask_lits : maskF 0 1 = 1 ∧ maskF 1 1 = 2 ∧ maskF 2 1 = 4 ∧ maskF 5 1 = 32 ∧ maskF 6 1 = 64 ∧ maskF 7 1 = 128 ∧ maskF 63 1 = 9223372036854775808 := by decide +kernel

theorem has_b0 (x : Int) : hasF x 1 = bitF x 0 := by unfold hasF bitF; rw [mask_lits.1]
theorem has_b1 (x : Int) : hasF x 2 = bitF x 1 := by unfold hasF bitF; rw [mask_lits.2.1]
theorem has_b2 (x : Int) : hasF x 4 = bitF x 2 := by unfold hasF bitF; rw [mask_lits.2.2.1]
theorem has_b5 (x : Int) : hasF x 32 = bitF x 5 := by unfold hasF bitF; rw [mask_lits.2.2.2.1]
theorem has_b6 (x : Int) : hasF x 64 = bitF x 6 := by unfold hasF bitF; rw [mask_lits.2.2.2.2.1]
theorem has_b7 (x : Int) : hasF x 128 = bitF x 7 := by unfold hasF bitF; rw [mask_lits.2.2.2.2.2.1]
theorem has_b63 (x : Int) : hasF x 9223372036854775808 = bitF x 63 := by unfold hasF bitF; rw [mask_lits.2.2.2.2.2.2]

theorem has_yes {x m : Int} (hx : W64 x) (hm : W64 m) {i : Nat} (h1 : tb x i = true) (h2 : tb m i = true) : hasF x m = true := by
  have hi : i < 64 := by
    rcases Nat.lt_or_ge i 64 with h | h
    · exact h
    · rw [tb_ge hx h] at h1; cases h1
  unfold hasF
  rw [bne_iff_ne]
  intro hz
  have e := tb_and hx.1 hm.1 i
  rw [hz, tb_zero, h1, h2] at e
  simp [hi] at e

theorem has_no {x m : Int} (hx : W64 x) (hm : W64 m) (h : ∀ i, i < 64 → tb m i = true → tb x i = false) : hasF x m = false := by
  have hz : bits .and .u64 x m = 0 := by
    apply tb_ext (w64_bits _ _ _) w64_zero
    intro i hi
    rw [tb_and hx.1 hm.1, tb_zero]
    cases hmi : tb m i
    · simp
    · simp [h i hi hmi]
  unfold hasF; rw [hz]; rfl

theorem has_bits {x m : Int} (hx : W64 x) (hm : W64 m) (h : hasF x m = true) : ∃ i, i < 64 ∧ tb m i = true ∧ tb x i = true := by
  apply Classical.byContradiction
  intro hn
  rw [has_no hx hm] at h
  · cases h
  · intro i hi hmi
    cases hb : tb x i
    · rfl
    · exact absurd ⟨i, hi, hmi, hb⟩ hn

theorem has_get {x lo n : Int} (hx : W64 x) (hF : isF lo n = true) (h : hasF x (maskF lo n) = false) : x / 2 ^ lo.toNat % 2 ^ n.toNat = 0 := by
  rw [← get_div hx hF]
  unfold getF
  rw [if_pos hF]
  have : bits .and .u64 x (maskF lo n) = 0 := by
    unfold hasF at h
    simpa using h
  rw [this]; simp

/-- bits one by one -/
theorem has_some {x : Int} (hx : W64 x) {lo hi : Nat} (h : lo ≤ hi + 1) (h63 : hi ≤ 63) {k : Nat} (h1 : lo ≤ k) (h2 : k ≤ hi) (hb : tb x k = true) : hasF x (maskF lo (hi + 1 - lo)) = true := by
  refine has_yes hx (w64_mask _ _) hb ?_
  rw [tb_mask]
  simp [isF]
  omega

theorem has_none {x : Int} (hx : W64 x) {lo hi : Nat} (hb : ∀ j, lo ≤ j → j < hi + 1 → tb x j = false) : hasF x (maskF lo (hi + 1 - lo)) = false := by
  refine has_no hx (w64_mask _ _) ?_
  intro i hi64 hm
  rw [tb_mask] at hm
  simp at hm
  exact hb i (by omega) (by omega)

theorem or_with {y : Int} (hy : W64 y) (b : Bool) {i m : Int} {k : Nat} (hi : i = k) (hm : m = 2 ^ k) (hk : k < 64) (hz : tb y k = false) : bits .or .u64 y (whenF b m) = withF y i b := by
  subst hi; subst hm
  have hp := w64_pow hk
  have hw : W64 (whenF b (2 ^ k)) := by unfold whenF; split; exact hp; exact w64_zero
  apply tb_ext (w64_bits _ _ _) (w64_with _ _)
  intro j hj
  rw [tb_or hy.1 hw.1, tb_with hy]
  have e : tb (whenF b (2 ^ k)) j = (b && decide (k = j)) := by
    cases b
    · simp [whenF, tb_zero]
    · simp [whenF, tb_pow]
  rw [e]
  by_cases c : k = j
  · subst c
    simp [hj, hz]
  · rw [if_neg (by omega)]
    simp [hj, c]

theorem tb_with_ne {y : Int} (hy : W64 y) (b : Bool) {i : Int} {k : Nat} (h : (k : Int) ≠ i) (hz : tb y k = false) : tb (withF y i b) k = false := by
  rw [tb_with hy, if_neg h, hz]

theorem tb_table_lo {x : Int} (hx : W64 x) {k : Nat} (h : k < 12 ∨ 52 ≤ k) : tb (tableF x) k = false := by
  rw [tb_table hx]
  rcases h with h | h
  · simp [show ¬ 12 ≤ k by omega]
  · simp [show ¬ k < 52 by omega]

theorem word_or {f : Int} (hf : W64 f) (p w u a d s n : Bool) :
    bits .or .u64 (bits .or .u64 (bits .or .u64 (bits .or .u64 (bits .or .u64 (bits .or .u64 (bits .or .u64 (tableF f) (whenF p 1)) (whenF w 2)) (whenF u 4)) (whenF a 32)) (whenF d 64)) (whenF s 128)) (whenF n 9223372036854775808) = wordF p w u a d s n f := by
  have T := w64_table f
  have Z : ∀ k, (k < 12 ∨ 52 ≤ k) → tb (tableF f) k = false := fun k h => tb_table_lo hf h
  rw [or_with T p (i := 0) (k := 0) rfl (by decide) (by decide) (Z 0 (by omega))]
  rw [or_with (w64_with _ _) w (i := 1) (k := 1) rfl (by decide) (by decide) (tb_with_ne T _ (by decide) (Z _ (by omega)))]
  rw [or_with (w64_with _ _) u (i := 2) (k := 2) rfl (by decide) (by decide) (tb_with_ne (w64_with _ _) _ (by decide) (tb_with_ne T _ (by decide) (Z _ (by omega))))]
  rw [or_with (w64_with _ _) a (i := 5) (k := 5) rfl (by decide) (by decide) (tb_with_ne (w64_with _ _) _ (by decide) (tb_with_ne (w64_with _ _) _ (by decide) (tb_with_ne T _ (by decide) (Z _ (by omega)))))]
  rw [or_with (w64_with _ _) d (i := 6) (k := 6) rfl (by decide) (by decide) (tb_with_ne (w64_with _ _) _ (by decide) (tb_with_ne (w64_with _ _) _ (by decide) (tb_with_ne (w64_with _ _) _ (by decide) (tb_with_ne T _ (by decide) (Z _ (by omega))))))]
  rw [or_with (w64_with _ _) s (i := 7) (k := 7) rfl (by decide) (by decide) (tb_with_ne (w64_with _ _) _ (by decide) (tb_with_ne (w64_with _ _) _ (by decide) (tb_with_ne (w64_with _ _) _ (by decide) (tb_with_ne (w64_with _ _) _ (by decide) (tb_with_ne T _ (by decide) (Z _ (by omega)))))))]
  rw [or_with (w64_with _ _) n (i := 63) (k := 63) rfl (by decide) (by decide) (tb_with_ne (w64_with _ _) _ (by decide) (tb_with_ne (w64_with _ _) _ (by decide) (tb_with_ne (w64_with _ _) _ (by decide) (tb_with_ne (w64_with _ _) _ (by decide) (tb_with_ne (w64_with _ _) _ (by decide) (tb_with_ne T _ (by decide) (Z _ (by omega))))))))]
  rfl

theorem w64_wordE (p w u a d s n : Bool) (f : Int) : W64 (wordF p w u a d s n f) := w64_with _ _

theorem tb_wordE {f : Int} (hf : W64 f) (p w u a d s n : Bool) {j : Nat} (hj : j < 64) :
    tb (wordF p w u a d s n f) j = if j = 63 then n else if j = 7 then s else if j = 6 then d else if j = 5 then a else if j = 2 then u else if j = 1 then w else if j = 0 then p else (decide (12 ≤ j) && decide (j < 52) && tb f j) := by
  unfold wordF
  rw [tb_with (w64_with _ _), tb_with (w64_with _ _), tb_with (w64_with _ _), tb_with (w64_with _ _), tb_with (w64_with _ _), tb_with (w64_with _ _), tb_with (w64_table _), tb_table hf]
  simp only [hj, decide_true, Bool.true_and]
  simp only [show ((j : Int) = 63) = (j = 63) from propext (by omega), show ((j : Int) = 7) = (j = 7) from propext (by omega), show ((j : Int) = 6) = (j = 6) from propext (by omega), show ((j : Int) = 5) = (j = 5) from propext (by omega),
    show ((j : Int) = 2) = (j = 2) from propext (by omega), show ((j : Int) = 1) = (j = 1) from propext (by omega), show ((j : Int) = 0) = (j = 0) from propext (by omega)]

theorem bitF_lit {x : Int} (hx : W64 x) {i : Int} {k : Nat} (hi : i = k) (hk : k < 64) : bitF x i = tb x k := by
  subst hi
  rw [bitF_tb hx]
  simp; omega

theorem word_bits {f : Int} (hf : W64 f) (p w u a d s n : Bool) :
    bitF (wordF p w u a d s n f) 0 = p ∧ bitF (wordF p w u a d s n f) 1 = w ∧ bitF (wordF p w u a d s n f) 2 = u ∧ bitF (wordF p w u a d s n f) 5 = a ∧ bitF (wordF p w u a d s n f) 6 = d ∧ bitF (wordF p w u a d s n f) 7 = s ∧ bitF (wordF p w u a d s n f) 63 = n := by
  have W := w64_wordE p w u a d s n f
  refine ⟨?_, ?_, ?_, ?_, ?_, ?_, ?_⟩
  · rw [bitF_lit W (i := 0) (k := 0) rfl (by decide), tb_wordE hf _ _ _ _ _ _ _ (by decide)]; rfl
  · rw [bitF_lit W (i := 1) (k := 1) rfl (by decide), tb_wordE hf _ _ _ _ _ _ _ (by decide)]; rfl
  · rw [bitF_lit W (i := 2) (k := 2) rfl (by decide), tb_wordE hf _ _ _ _ _ _ _ (by decide)]; rfl
  · rw [bitF_lit W (i := 5) (k := 5) rfl (by decide), tb_wordE hf _ _ _ _ _ _ _ (by decide)]; rfl
  · rw [bitF_lit W (i := 6) (k := 6) rfl (by decide), tb_wordE hf _ _ _ _ _ _ _ (by decide)]; rfl
  · rw [bitF_lit W (i := 7) (k := 7) rfl (by decide), tb_wordE hf _ _ _ _ _ _ _ (by decide)]; rfl
  · rw [bitF_lit W (i := 63) (k := 63) rfl (by decide), tb_wordE hf _ _ _ _ _ _ _ (by decide)]; rfl

theorem word_table {f : Int} (hf : W64 f) (p w u a d s n : Bool) : tableF (wordF p w u a d s n f) = tableF f := by
  apply tb_ext (w64_table _) (w64_table _)
  intro j hj
  rw [tb_table (w64_wordE _ _ _ _ _ _ _ _), tb_table hf, tb_wordE hf _ _ _ _ _ _ _ hj]
  by_cases h : 12 ≤ j
  · by_cases h2 : j < 52
    · rw [if_neg (by omega), if_neg (by omega), if_neg (by omega), if_neg (by omega), if_neg (by omega), if_neg (by omega), if_neg (by omega)]
      simp [h, h2]
    · simp [h2]
  · simp [h]

theorem word_of_table {f : Int} (p w u a d s n : Bool) : wordF p w u a d s n (tableF f) = wordF p w u a d s n f := by
  unfold wordF; rw [table_table]

/-- a word of what a word says -/
def backF (x : Int) : Int := wordF (bitF x 0) (bitF x 1) (bitF x 2) (bitF x 5) (bitF x 6) (bitF x 7) (bitF x 63) (tableF x)

def kept5 (j : Nat) : Bool := decide (j = 0) || decide (j = 1) || decide (j = 2) || decide (j = 5) || decide (j = 6) || decide (j = 7) || decide (j = 63) || (decide (12 ≤ j) && decide (j < 52))

theorem tb_back {x : Int} (hx : W64 x) {j : Nat} (hj : j < 64) : tb (backF x) j = (kept5 j && tb x j) := by
  unfold backF
  rw [word_of_table, tb_wordE hx _ _ _ _ _ _ _ hj, bitF_lit hx (i := 0) (k := 0) rfl (by decide), bitF_lit hx (i := 1) (k := 1) rfl (by decide), bitF_lit hx (i := 2) (k := 2) rfl (by decide), bitF_lit hx (i := 5) (k := 5) rfl (by decide), bitF_lit hx (i := 6) (k := 6) rfl (by decide), bitF_lit hx (i := 7) (k := 7) rfl (by decide), bitF_lit hx (i := 63) (k := 63) rfl (by decide)]
  unfold kept5
  by_cases h0 : j = 63; · subst h0; rfl
  by_cases h1 : j = 7; · subst h1; rfl
  by_cases h2 : j = 6; · subst h2; rfl
  by_cases h3 : j = 5; · subst h3; rfl
  by_cases h4 : j = 2; · subst h4; rfl
  by_cases h5 : j = 1; · subst h5; rfl
  by_cases h6 : j = 0; · subst h6; rfl
  simp [h0, h1, h2, h3, h4, h5, h6]

theorem w64_back (x : Int) : W64 (backF x) := w64_wordE _ _ _ _ _ _ _ _

theorem kept_lit : ∀ j, j < 64 → tb 9218868437227409176 j = !kept5 j := by decide +kernel

theorem back_less {x : Int} (hx : W64 x) : bits .andNot .u64 (backF x) x = 0 := by
  apply tb_ext (w64_bits _ _ _) w64_zero
  intro j hj
  rw [tb_andNot (w64_back x).1 hx.1, tb_back hx hj, tb_zero]
  cases kept5 j <;> cases tb x j <;> simp

theorem back_back {x : Int} (hx : W64 x) : backF (backF x) = backF x := by
  apply tb_ext (w64_back _) (w64_back _)
  intro j hj
  rw [tb_back (w64_back x) hj, tb_back hx hj]
  cases kept5 j <;> cases tb x j <;> rfl

theorem back_rest {x : Int} (hx : W64 x) : bits .andNot .u64 x (backF x) = bits .and .u64 x 9218868437227409176 := by
  apply tb_ext (w64_bits _ _ _) (w64_bits _ _ _)
  intro j hj
  rw [tb_andNot hx.1 (w64_back x).1, tb_and hx.1 (by decide), tb_back hx hj, kept_lit j hj]
  cases kept5 j <;> cases tb x j <;> simp

/- ### what may not be -/
theorem leaf_one (x : Int) : leafF x 1 = true := rfl
theorem leaf_two (x : Int) : leafF x 2 = bitF x 7 := by unfold leafF; simp
theorem leaf_three (x : Int) : leafF x 3 = bitF x 7 := by unfold leafF; simp
theorem leaf_else (x : Int) {l : Int} (h1 : l ≠ 1) (h2 : l ≠ 2) (h3 : l ≠ 3) : leafF x l = false := by unfold leafF; simp [h1, h2, h3]

theorem beyond_lits : beyondF 20 = maskF 20 32 ∧ beyondF 30 = maskF 30 22 ∧ beyondF 51 = maskF 51 1 ∧ beyondF 52 = maskF 52 0 := ⟨rfl, rfl, rfl, rfl⟩

theorem res_more {x : Int} (hx : W64 x) (l : Int) (h : resF x l 30 true = true) : resF x l 20 true = true := by
  unfold resF at *
  rw [beyond_lits.2.1] at h
  rw [beyond_lits.1]
  cases hh : hasF x (maskF 30 22)
  · rw [hh] at h
    simp only [Bool.false_or] at h
    simp only [Bool.or_assoc] at h ⊢
    rw [h]; simp
  · obtain ⟨i, hi, hm, hb⟩ := has_bits hx (w64_mask _ _) hh
    have : hasF x (maskF 20 32) = true := by
      refine has_yes hx (w64_mask _ _) hb ?_
      rw [tb_mask] at hm ⊢
      simp [isF] at hm ⊢
      omega
    rw [this]; simp

theorem res_nx {x : Int} (l : Int) (h : resF x l 20 true = true) : resF x l 20 false = true := by
  unfold resF at *
  simp only [Bool.not_true, Bool.and_false, Bool.or_false, Bool.not_false, Bool.and_true] at *
  simp only [Bool.or_assoc] at *
  cases h1 : hasF x (beyondF 20)
  · rw [h1] at h
    simp only [Bool.false_or] at h
    rw [h]; simp
  · simp

theorem res_free {f : Int} (hf : W64 f) (p w u a d : Bool) (l : Int) (nxe : Bool) : resF (wordF p w u a d false false (f % 1048576)) l 20 nxe = false := by
  have hg : W64 (f % 1048576) := by obtain ⟨h0, h1⟩ := hf; unfold W64; omega
  obtain ⟨_, _, _, _, _, b7, b63⟩ := word_bits hg p w u a d false false
  have hh : hasF (wordF p w u a d false false (f % 1048576)) (maskF 20 32) = false := by
    refine has_no (w64_wordE _ _ _ _ _ _ _ _) (w64_mask _ _) ?_
    intro i hi hm
    rw [tb_mask] at hm
    simp at hm
    rw [tb_wordE hg _ _ _ _ _ _ _ hi, if_neg (by omega), if_neg (by omega), if_neg (by omega), if_neg (by omega), if_neg (by omega), if_neg (by omega), if_neg (by omega)]
    rw [show (1048576 : Int) = 2 ^ 20 by decide, tb_mod hf.1]
    simp; omega
  unfold resF
  rw [beyond_lits.1, hh, b7, b63]
  simp

theorem res_top {x : Int} (hx : W64 x) (l : Int) (nxe : Bool) : resF (bits .or .u64 x 2251799813685248) l 51 nxe = true := by
  have hh : hasF (bits .or .u64 x 2251799813685248) (maskF 51 1) = true := by
    refine has_yes (w64_bits _ _ _) (w64_mask _ _) (i := 51) ?_ ?_
    · rw [tb_or hx.1 (by decide), show (2251799813685248 : Int) = 2 ^ 51 by decide, tb_pow]; simp
    · rw [tb_mask]; decide
  unfold resF
  rw [beyond_lits.2.2.1, hh]; simp

/- ### slots and frames -/
theorem index_bd0 (a l : Int) : 0 ≤ indexF a l ∧ indexF a l < 512 := by
  unfold indexF
  split
  · omega
  · split
    · omega
    · split
      · omega
      · split
        · omega
        · omega

theorem slot_wrap (t a l : Int) : IntKind.u64.wrap (tableF t + IntKind.u64.wrap (8 * IntKind.u64.wrap (indexF a l))) = slotF t a l := by
  have h1 := table_bd t
  have h2 := index_bd0 a l
  unfold slotF
  rw [IntKind.wrap_u64, IntKind.wrap_u64, IntKind.wrap_u64]
  omega

theorem slot_bd (t a l : Int) : 0 ≤ slotF t a l ∧ slotF t a l < 4503599627374592 := by
  have h1 := table_bd t
  have h2 := index_bd0 a l
  unfold slotF; omega

theorem frame_wrap (x l : Int) (h : sizeF l ≠ 0) : IntKind.u64.wrap (tableF x - tableF x % sizeF l) = pageF (tableF x) l := by
  have h1 := table_bd x
  have e : pageF (tableF x) l = tableF x - tableF x % sizeF l := by unfold pageF lowF; rw [if_neg h]
  have h3 : 0 ≤ tableF x - tableF x % sizeF l ∧ tableF x - tableF x % sizeF l ≤ tableF x := by
    have hs : 0 < sizeF l := by unfold sizeF at *; split <;> first | omega | (split <;> first | omega | (split <;> omega))
    have := emod_le h1.1 hs
    have h4 := Int.emod_nonneg (tableF x) h
    omega
  rw [e, IntKind.wrap_u64]
  omega

theorem leaf_size {x l : Int} (h : leafF x l = true) : sizeF l ≠ 0 := by
  by_cases h1 : l = 1
  · subst h1; decide
  · by_cases h2 : l = 2
    · subst h2; decide
    · by_cases h3 : l = 3
      · subst h3; decide
      · rw [leaf_else x h1 h2 h3] at h; cases h

theorem frame_leaf {x l : Int} (h : leafF x l = true) : frameF x l = pageF (tableF x) l := by unfold frameF; rw [if_pos h]
theorem frame_else {x l : Int} (h : leafF x l = false) : frameF x l = tableF x := by unfold frameF; rw [h]; rfl

end Go.Proofs.YtopmmlcjlopmaaaDoor
/- Contracts of package entry: what each call returns; Parse and Word make memory of their own, the others leave the world as it was. -/
namespace Go.Proofs.YtopmmlcjlopmaaaDoor
set_option linter.unusedVariables false
set_option linter.unusedSimpArgs false
open Go.ChangeShapes Go.WideShapes Go.ChangeAt Go.RowKit Go.Joins

/-- an entry, by value -/
abbrev entV (p w u a d s n : Bool) (f : Int) : Value := .agg #[.bool p, .bool w, .bool u, .bool a, .bool d, .bool s, .bool n, .int .u64 f]
/-- what a word says -/
abbrev saysV (x : Int) : Value := entV (bitF x 0) (bitF x 1) (bitF x 2) (bitF x 5) (bitF x 6) (bitF x 7) (bitF x 63) (tableF x)

theorem below_drewN {n : Nat} {w w' : World} (h : Below n w w') (k : Nat) : Below n w (w'.drewN k) := h.trans ⟨rfl, rfl, rfl, Nat.le_refl _, fun _ _ => rfl⟩

theorem last_obj (w : World) (o : Obj) : (w.alloc o).heap[w.heap.size]? = some o := by
  show (w.heap.push o)[w.heap.size]? = some o
  simp

theorem has_any (x m : Int) (w : World) :
    Calls Tryd.prog 65 #[.int .u64 x, .int .u64 m] w fun e w' => e = .returned (.bool (hasF x m)) ∧ w = w' := by
  go_enter Tryd.func65, Tryd.ntmps65
  go_wp2
  go_ret
  exact ⟨rfl, rfl⟩

theorem i64_40 : I64 40 := ⟨by decide, by decide⟩
theorem i64_8 : I64 8 := ⟨by decide, by decide⟩
theorem i64_17 : I64 17 := ⟨by decide, by decide⟩

theorem table_any (x : Int) (w : World) (hx : W64 x) :
    Calls Tryd.prog 50 #[.int .u64 x] w fun e w' => e = .returned (.int .u64 (tableF x)) ∧ w = w' := by
  have e := Lib.hid (table_and hx)
  go_enter Tryd.func50, Tryd.ntmps50
  go_wp2_with (go_at_call 62; refine (mask_any _ _ _ i64_40).mono ?_; rintro e w' ⟨rfl, rfl⟩)
  go_ret
  exact ⟨ret_int e.out, rfl⟩

theorem beyond_any (b : Int) (w : World) (hb : I64 b) :
    Calls Tryd.prog 66 #[.int .i64 b] w fun e w' => e = .returned (.int .u64 (beyondF b)) ∧ w = w' := by
  obtain ⟨h1, h2⟩ := hb
  by_cases c : b < 12
  · have e : beyondF b = maskF 12 40 := by unfold beyondF lowB; rw [if_pos c]; rfl
    rw [e]
    go_enter Tryd.func66, Tryd.ntmps66
    go_wp2_with (go_at_call 62; refine (mask_any _ _ _ i64_40).mono ?_; rintro e w' ⟨rfl, rfl⟩)
    go_ret
    exact ⟨rfl, rfl⟩
  · have e : beyondF b = maskF b (52 - b) := by unfold beyondF lowB; rw [if_neg c]
    rw [e]
    have hn : I64 (52 - b) := by unfold I64; omega
    go_enter Tryd.func66, Tryd.ntmps66
    go_wp2_with (go_at_call 62; refine (mask_any _ _ _ hn).mono ?_; rintro e w' ⟨rfl, rfl⟩)
    go_ret
    exact ⟨rfl, rfl⟩

theorem leaf_any (x l : Int) (w : World) :
    Calls Tryd.prog 46 #[.int .u64 x, .int .i64 l] w fun e w' => e = .returned (.bool (leafF x l)) ∧ w = w' := by
  have b7 := Lib.hid (has_b7 x)
  by_cases h1 : l = 1
  · subst h1
    go_enter Tryd.func46, Tryd.ntmps46
    go_wp2
    go_ret
    exact ⟨rfl, rfl⟩
  · by_cases h2 : l = 2
    · subst h2
      rw [leaf_two]
      go_enter Tryd.func46, Tryd.ntmps46
      go_wp2_with (go_at_call 65; refine (has_any _ _ _).mono ?_; rintro e w' ⟨rfl, rfl⟩)
      go_ret
      exact ⟨ret_bool b7.out, rfl⟩
    · by_cases h3 : l = 3
      · subst h3
        rw [leaf_three]
        go_enter Tryd.func46, Tryd.ntmps46
        go_wp2_with (go_at_call 65; refine (has_any _ _ _).mono ?_; rintro e w' ⟨rfl, rfl⟩)
        go_ret
        exact ⟨ret_bool b7.out, rfl⟩
      · rw [leaf_else x h1 h2 h3]
        have c1 : (l == 1) = false := by simp [h1]
        have c2 : (l == 2) = false := by simp [h2]
        have c3 : (l == 3) = false := by simp [h3]
        go_enter Tryd.func46, Tryd.ntmps46
        go_wp2
        go_ret
        exact ⟨rfl, rfl⟩

theorem slot_any (t a l : Int) (w : World) (hs : Shifts w) (ht : W64 t) (ha : W64 a) :
    Calls Tryd.prog 42 #[.int .u64 t, .int .u64 a, .int .i64 l] w fun e w' => e = .returned (.int .u64 (slotF t a l)) ∧ w = w' := by
  have e := Lib.hid (slot_wrap t a l)
  go_enter Tryd.func42, Tryd.ntmps42
  go_wp2_with (first | (go_at_call 50; refine (table_any _ _ ht).mono ?_; rintro e w' ⟨rfl, rfl⟩) | (go_at_call 63; refine (index_any _ _ _ hs ha).mono ?_; rintro e w' ⟨rfl, rfl⟩))
  go_ret
  exact ⟨ret_int e.out, rfl⟩

theorem frame_any (x l : Int) (w : World) (hs : Shifts w) (hx : W64 x) :
    Calls Tryd.prog 48 #[.int .u64 x, .int .i64 l] w fun e w' => e = .returned (.int .u64 (frameF x l)) ∧ w = w' := by
  have hT := w64_table x
  cases h : leafF x l
  · rw [frame_else h]
    go_enter Tryd.func48, Tryd.ntmps48
    go_wp2_with (first | (go_at_call 50; refine (table_any _ _ hx).mono ?_; rintro e w' ⟨rfl, rfl⟩) | (go_at_call 46; refine (leaf_any _ _ _).mono ?_; rintro e w' ⟨rfl, rfl⟩) | (go_at_call 67; refine (page_any _ _ _ hs hT).mono ?_; rintro e w' ⟨rfl, rfl⟩))
    go_ret
    exact ⟨rfl, rfl⟩
  · rw [frame_leaf h]
    go_enter Tryd.func48, Tryd.ntmps48
    go_wp2_with (first | (go_at_call 50; refine (table_any _ _ hx).mono ?_; rintro e w' ⟨rfl, rfl⟩) | (go_at_call 46; refine (leaf_any _ _ _).mono ?_; rintro e w' ⟨rfl, rfl⟩) | (go_at_call 67; refine (page_any _ _ _ hs hT).mono ?_; rintro e w' ⟨rfl, rfl⟩))
    go_ret
    exact ⟨rfl, rfl⟩

theorem says_has (x : Int) : entV (hasF x 1) (hasF x 2) (hasF x 4) (hasF x 32) (hasF x 64) (hasF x 128) (hasF x 9223372036854775808) (tableF x) = saysV x := by
  rw [has_b0, has_b1, has_b2, has_b5, has_b6, has_b7, has_b63]
theorem ret_val {v u : Value} (h : v = u) : Ending.returned v = .returned u := by rw [h]

end Go.Proofs.YtopmmlcjlopmaaaDoor
