/- Several texts of ours in one: Dp, Wa, Wr. -/
import Derived.Test.YtopmmlcjlopmaaaDoorGMeEmEa
import Derived.Laws.Cells
import Derived.Test.YtopmmlcjlopmaaaDoorGMcWmMd
import Derived.Laws.BytesArg
import Derived.Test.YtopmmlcjlopmaaaDoorGVmRN
import Derived.Maps.AppendAt
import Derived.OwnWalk
import Derived.Laws.OwnMore
/- Deeds: pair, run; a slice of deeds. -/
namespace Go.Proofs.YtopmmlcjlopmaaaDoor
set_option linter.unusedVariables false
set_option linter.unusedSimpArgs false
open Go.ChangeShapes Go.WideShapes Go.ChangeAt Go.RowKit Go.Joins

theorem mem_on {w w0 w' : World} {F : Nat → Prop} {m : Nat} {M : Int} {f : Int → Int} {tr : List Int} {n : Nat} (h0 : Turn F w w0) (h : Mem w' (Since F w0) m M f tr n) (ht : Turn F w0 w') : Mem w' (Since F w) m M f tr n ∧ Turn F w w' :=
  ⟨h.mono fun i hi => since_mono h0.size hi, h0.trans (ht.mono fun i _ hi => Or.inl hi)⟩

/-- what a deed answers, and what it leaves -/
def pairV (M : Int) (f : Int → Int) (k a : Int) : Int := if k = 1 then getV M f a else if k = 3 then peekV M f a else if k = 4 then peekV M f a else 0
def pairE (M k a : Int) : Int := if k = 1 then getE M a else if k = 2 then getE M a else if k = 3 then errS M a else if k = 4 then errS M a else if k = 5 then errS M a else 0
def pairF (M : Int) (f : Int → Int) (k a x : Int) : Int → Int := if k = 2 then putS M f a (x % 256) else if k = 5 then storeS M f a x else f
def pairT (M : Int) (tr : List Int) (k a : Int) : List Int := if k = 1 then tr else if k = 2 then tr else if k = 3 then loadT M tr a else if k = 4 then tr else if k = 5 then tr else []

theorem getV_bd {M : Int} {f : Int → Int} (hf : ∀ s, W64 (f s)) (a : Int) : 0 ≤ getV M f a ∧ getV M f a < 256 := by
  unfold getV
  split
  · omega
  · exact byte_lt _ _ (hf _)

section
variable {w : World} {F : Nat → Prop} {m : Nat} {M : Int} {f : Int → Int} {tr : List Int} {n : Nat}

end

/-- the deeds' slice holds ds -/
def DeedsIn (w : World) (A : Option Addr) (ds : List (Int × Int × Int)) : Prop := ∀ k, k < ds.length → ∃ ad, A = some ad ∧ w.cell? (ad.add (k * 3)) = some (.int .i64 (ds.getD k (0, 0, 0)).1) ∧ w.cell? ((ad.add (k * 3)).add 1) = some (.int .u64 (ds.getD k (0, 0, 0)).2.1) ∧ w.cell? ((ad.add (k * 3)).add 2) = some (.int .u64 (ds.getD k (0, 0, 0)).2.2)

def DeedsOk (ds : List (Int × Int × Int)) : Prop := ∀ k, k < ds.length → W64 (ds.getD k (0, 0, 0)).2.1 ∧ W64 (ds.getD k (0, 0, 0)).2.2

/-- the state behind the first k deeds -/
def playF (M : Int) (ds : List (Int × Int × Int)) : Nat → (Int → Int)
  | 0 => fun _ => 0
  | k + 1 => pairF M (playF M ds k) (ds.getD k (0, 0, 0)).1 (ds.getD k (0, 0, 0)).2.1 (ds.getD k (0, 0, 0)).2.2
def playT (M : Int) (ds : List (Int × Int × Int)) : Nat → List Int
  | 0 => []
  | k + 1 => pairT M (playT M ds k) (ds.getD k (0, 0, 0)).1 (ds.getD k (0, 0, 0)).2.1

theorem block_add (ad : Addr) (n : Nat) : (ad.add n).block = ad.block := by unfold Addr.add; split <;> rfl
theorem cell_lt {w : World} {ad : Addr} {v : Value} (h : w.cell? ad = some v) : ad.block < w.heap.size := World.block_lt_of_cell? w ad h

theorem deeds_below {w w' : World} {A : Option Addr} {ds : List (Int × Int × Int)} (h : DeedsIn w A ds) (hb : Below w.heap.size w w') : DeedsIn w' A ds := by
  intro k hk
  obtain ⟨ad, e, c0, c1, c2⟩ := h k hk
  exact ⟨ad, e, (hb.cell (cell_lt c0)).trans c0, (hb.cell (cell_lt c1)).trans c1, (hb.cell (cell_lt c2)).trans c2⟩

/-- how many deeds are done -/
def many (ds : List (Int × Int × Int)) : Nat := min ds.length 120

end Go.Proofs.YtopmmlcjlopmaaaDoor
/- Bytes as a string; the document's example (awake of dormerlaw02). -/
namespace Go.Proofs.YtopmmlcjlopmaaaDoor
set_option linter.unusedVariables false
set_option linter.unusedSimpArgs false
open Go.ChangeShapes Go.WideShapes Go.ChangeAt Go.RowKit Go.Joins

theorem row8_cell {w : World} {g : Nat} {x : Int} (h : Row8 w g (partB x 8)) {k : Nat} (hk : k < 8) : w.cell? ⟨g, k, none⟩ = some (.int .u8 (byteF x (k : Int))) := by
  have := (cell_of_block h k).trans (partB_get x 8 hk)
  simpa [hk] using this

theorem add_at (g k : Nat) : (⟨g, 0, none⟩ : Addr).add k = ⟨g, k, none⟩ := by
  unfold Addr.add; split <;> simp_all

theorem Row8.alloc {w : World} {g : Nat} {cs : Array Value} (h : Row8 w g cs) (hg : g < w.heap.size) (o : Obj) : Row8 (w.alloc o) g cs := (Below.heap_alloc w o g hg).trans h
theorem Row8.lt {w : World} {g : Nat} {cs : Array Value} (h : Row8 w g cs) : g < w.heap.size := by
  rcases Nat.lt_or_ge g w.heap.size with hlt | hge
  · exact hlt
  · unfold Row8 at h; rw [Array.getElem?_eq_none hge] at h; cases h

theorem w64_258 : W64 258 := ⟨by decide, by decide⟩
theorem str258 : strOfNums (bytesOf 258) = ⟨#[2, 1, 0, 0, 0, 0, 0, 0]⟩ := by decide +kernel
theorem word258 : wordOf [2, 1, 0, 0, 0, 0, 0, 0] = 258 := by decide +kernel
theorem byte258 : byteF 258 1 = 1 := by decide +kernel
theorem u8s258 : U8s [2, 1, 0, 0, 0, 0, 0, 0] := by unfold U8s; decide

def lit8 : Array Value := #[.int .u8 2, .int .u8 1, .int .u8 0, .int .u8 0, .int .u8 0, .int .u8 0, .int .u8 0, .int .u8 0]
theorem lit8_cells (w : World) : ∀ k, k < 8 → (w.alloc (.cells lit8 5)).cell? ((⟨w.heap.size, 0, none⟩ : Addr).add k) = some (.int .u8 (([2, 1, 0, 0, 0, 0, 0, 0] : List Int).getD k 0)) := by
  intro k hk
  rw [add_at, cell_of_block (heap_alloc_new w _) k]
  match k, hk with
  | 0, _ => rfl
  | 1, _ => rfl
  | 2, _ => rfl
  | 3, _ => rfl
  | 4, _ => rfl
  | 5, _ => rfl
  | 6, _ => rfl
  | 7, _ => rfl

end Go.Proofs.YtopmmlcjlopmaaaDoor
/- Contracts of package dormerref02: each answers as package word does. -/
namespace Go.Proofs.YtopmmlcjlopmaaaDoor
set_option linter.unusedVariables false
set_option linter.unusedSimpArgs false
open Go.ChangeShapes Go.WideShapes Go.ChangeAt Go.RowKit Go.Joins

theorem info8 : (Tryd.prog.info? 5).map (fun i => (i.zero, i.size, i.bytes)) = some (some (.int .u8 0), 1, 1) := by kernel_rfl

/-- v, a slice of the call's own, holds the bytes zs -/
def OwnB (w : World) (base : Nat) (v : Value) (zs : List Int) : Prop := w.ownsRow base 5 1 v zs.length (zs.map (Value.int .u8))

/-- the first k bytes of a word -/
def firstB (x : Int) (k : Nat) : List Int := (List.range k).map fun j : Nat => byteF x (j : Int)

theorem firstB_len (x : Int) (k : Nat) : (firstB x k).length = k := by simp [firstB]
theorem firstB_succ (x : Int) (k : Nat) : firstB x (k + 1) = firstB x k ++ [byteF x (k : Int)] := by
  simp [firstB, List.range_succ]
theorem firstB_all (x : Int) : firstB x 8 = bytesOf x := rfl

theorem ownB_step {w w1 : World} {base : Nat} {v : Value} {x : Int} {k : Nat} (h : w1.ownsRow base 5 1 v ((firstB x k).length + 1) ((firstB x k).map (Value.int .u8) ++ [.int .u8 (byteF x (k : Int))])) : OwnB w1 base v (firstB x (k + 1)) := by
  unfold OwnB
  rw [firstB_succ, List.length_append, List.map_append]
  exact h

/-- what Bytes of dormerref02 leaves -/
def RBytes (x : Int) (w : World) (e : Ending) (w' : World) : Prop := ∃ g cap, e = .returned (.slice (some ⟨g, 0, none⟩) 8 cap) ∧ OwnB w' w.heap.size (.slice (some ⟨g, 0, none⟩) 8 cap) (bytesOf x) ∧ Below w.heap.size w w'

theorem rbytes_end {x : Int} {w w' : World} {v : Value} (h : OwnB w' w.heap.size v (firstB x 8)) (hb : Below w.heap.size w w') : RBytes x w (.returned v) w' := by
  rw [firstB_all] at h
  have h' := h
  unfold OwnB at h'
  rw [bytesOf_len] at h'
  obtain ⟨g, cap, rfl⟩ := ownsRow_form h' (by omega)
  exact ⟨g, cap, rfl, h, hb⟩

/-- the bytes from the k-th on as a word -/
def dropW (zs : List Int) (k : Nat) : Int := wordOf (zs.drop k)

theorem dropW_step {zs : List Int} (h : U8s zs) (hl : zs.length = 8) {k : Nat} (hk : k < 8) :
    IntKind.u64.wrap (IntKind.u64.wrap (256 * dropW zs (k + 1)) + zs.getD k 0) = dropW zs k := by
  have u : ∀ m, U8s (zs.drop m) := fun m z hz => h z (List.mem_of_mem_drop hz)
  have e : dropW zs k = zs.getD k 0 + 256 * dropW zs (k + 1) := by
    unfold dropW
    rw [List.drop_eq_getElem_cons (by omega), getD_in _ (by omega)]; rfl
  obtain ⟨b0, b1⟩ := u8s_getD h k
  obtain ⟨d0, d1⟩ := w64_word (u k) (by rw [List.length_drop]; omega)
  change 0 ≤ dropW zs k at d0
  change dropW zs k < _ at d1
  obtain ⟨c0, _⟩ := word_bd _ (u (k + 1))
  change 0 ≤ dropW zs (k + 1) at c0
  rw [IntKind.wrap_u64, IntKind.wrap_u64]
  omega

theorem u8s_set {zs : List Int} (h : U8s zs) {c : Int} (h0 : 0 ≤ c) (h1 : c < 256) (m : Nat) : U8s (zs.set m c) := by
  intro z hz
  rcases List.mem_or_eq_of_mem_set hz with hz | rfl
  · exact h z hz
  · exact ⟨h0, h1⟩

theorem word_set {x : Int} (hx : W64 x) {c : Int} (h0 : 0 ≤ c) (h1 : c < 256) {m : Nat} (hm : m < 8) : wordOf ((bytesOf x).set m c) = putF x m c := by
  have u := u8s_set (bytesOf_u8 hx) h0 h1 m
  have l : ((bytesOf x).set m c).length ≤ 8 := by simp [bytesOf_len]
  apply byte_ext (w64_word u l) (w64_put hx _ _)
  intro k hk
  rw [byte_word u l hk, byte_put hx h0 h1 _ hk]
  have e := bytesOf_get x hk
  simp only [List.getD] at e ⊢
  rw [List.getElem?_set]
  by_cases c : m = k
  · subst c; simp [bytesOf_len, hm]
  · rw [if_neg c, e, if_neg (by omega)]

theorem ownB_cells {w : World} {base g cap : Nat} {zs : List Int} (h : OwnB w base (.slice (some ⟨g, 0, none⟩) 8 cap) zs) (hl : zs.length = 8) : ∀ k, k < 8 → w.cell? ((⟨g, 0, none⟩ : Addr).add k) = some (.int .u8 (zs.getD k 0)) := by
  intro k hk
  unfold OwnB at h
  rw [hl] at h
  rw [add_at, h.cellAt k (by omega), List.getElem?_map, List.getElem?_eq_getElem (by omega), getD_in _ (by omega)]; rfl

theorem cut_zero (x f : Int) : cutF x f (0 : Nat) = 0 := by unfold cutF; rw [hasB_no (by omega)]; rfl
theorem lay_zero (x f v : Int) : layF x f (0 : Nat) v = x := by unfold layF; rw [hasB_no (by omega)]; rfl

theorem cut_step {x : Int} (hx : W64 x) {f n : Int} (h : hasB f n = true) {k : Nat} (hk : (k : Int) < n) : putF (cutF x f k) k (byteF x (f + k)) = cutF x f (k + 1 : Nat) := by
  obtain ⟨h0, h1, h2⟩ := hasB_bd h
  obtain ⟨b0, b1⟩ := byte_lt x (f + k) hx
  apply byte_ext (w64_put (w64_cut _ _ _) _ _) (w64_cut _ _ _)
  intro j hj
  rw [byte_put (w64_cut _ _ _) b0 b1 _ hj, byte_cut hx _ _ hj, byte_cut hx _ _ hj, hasB_mk (f := f) (n := (k + 1 : Nat)) h0 (by omega) (by omega)]
  by_cases e : j = k
  · subst e; simp; intro hh; omega
  · rw [if_neg (by omega)]
    by_cases c : j < k
    · have hb : hasB f (k : Nat) = true := hasB_mk h0 (by omega) (by omega)
      rw [hb, if_pos (by simp; omega), if_pos (by simp; omega)]
    · rw [if_neg (by simp; omega), if_neg (by simp; omega)]

theorem lay_step {x v : Int} (hx : W64 x) (hv : W64 v) {f n : Int} (h : hasB f n = true) {k : Nat} (hk : (k : Int) < n) : putF (layF x f k v) (f + k) (byteF v k) = layF x f (k + 1 : Nat) v := by
  obtain ⟨h0, h1, h2⟩ := hasB_bd h
  obtain ⟨b0, b1⟩ := byte_lt v k hv
  apply byte_ext (w64_put (w64_lay hx _ _ _) _ _) (w64_lay hx _ _ _)
  intro j hj
  rw [byte_put (w64_lay hx _ _ _) b0 b1 _ hj, byte_lay hx hv _ _ hj, byte_lay hx hv _ _ hj, hasB_mk (f := f) (n := (k + 1 : Nat)) h0 (by omega) (by omega)]
  by_cases e : (j : Int) = f + k
  · rw [if_pos e, if_pos (by simp; omega), show (j : Int) - f = k by omega]
  · rw [if_neg e]
    by_cases c : f ≤ (j : Int) ∧ (j : Int) < f + k
    · have hb : hasB f (k : Nat) = true := hasB_mk h0 (by omega) (by omega)
      rw [hb, if_pos (by simp; omega), if_pos (by simp; omega)]
    · rw [if_neg (by simp; omega), if_neg (by simp; omega)]

end Go.Proofs.YtopmmlcjlopmaaaDoor
