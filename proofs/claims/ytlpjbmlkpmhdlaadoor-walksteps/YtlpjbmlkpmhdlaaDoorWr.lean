/- Contracts of package dormerref02: each answers as package word does. -/
import Derived.Test.YtlpjbmlkpmhdlaaDoorWa
import Derived.Test.YtlpjbmlkpmhdlaaDoorR
import Derived.Maps.AppendAt
import Derived.OwnWalk
import Derived.Laws.OwnMore
namespace Go.Proofs.YtlpjbmlkpmhdlaaDoor
set_option linter.unusedVariables false
set_option linter.unusedSimpArgs false
open Go.ChangeShapes Go.WideShapes Go.ChangeAt Go.RowKit Go.Joins

theorem info8 : (Tryd.prog.info? 5).map (fun i => (i.zero, i.size, i.bytes)) = some (some (.int .u8 0), 1, 1) := by kernel_rfl

/-- v, a slice of the call's own, holds the bytes zs -/
def OwnB (w : World) (base : Nat) (v : Value) (zs : List Int) : Prop := w.ownsRow base 5 1 v zs.length (zs.map (Value.int .u8))

/-- the first k bytes of a word -/
def firstB (x : Int) (k : Nat) : List Int := (List.range k).map fun j : Nat => byteF x (j : Int)

theorem firstB_len (x : Int) (k : Nat) : (firstB x k).length = k := by simp [firstB]
theorem firstB_succ (x : Int) (k : Nat) : firstB x (k + 1) = firstB x k ++ [byteF x (k : Int)] := by
  simp [firstB, List.range_succ]
theorem firstB_all (x : Int) : firstB x 8 = bytesOf x := rfl

theorem ownB_step {w w1 : World} {base : Nat} {v : Value} {x : Int} {k : Nat} (h : w1.ownsRow base 5 1 v ((firstB x k).length + 1) ((firstB x k).map (Value.int .u8) ++ [.int .u8 (byteF x (k : Int))])) : OwnB w1 base v (firstB x (k + 1)) := by
  unfold OwnB
  rw [firstB_succ, List.length_append, List.map_append]
  exact h

/-- what Bytes of dormerref02 leaves -/
def RBytes (x : Int) (w : World) (e : Ending) (w' : World) : Prop := ∃ g cap, e = .returned (.slice (some ⟨g, 0, none⟩) 8 cap) ∧ OwnB w' w.heap.size (.slice (some ⟨g, 0, none⟩) 8 cap) (bytesOf x) ∧ Below w.heap.size w w'

theorem rbytes_end {x : Int} {w w' : World} {v : Value} (h : OwnB w' w.heap.size v (firstB x 8)) (hb : Below w.heap.size w w') : RBytes x w (.returned v) w' := by
  rw [firstB_all] at h
  have h' := h
  unfold OwnB at h'
  rw [bytesOf_len] at h'
  obtain ⟨g, cap, rfl⟩ := ownsRow_form h' (by omega)
  exact ⟨g, cap, rfl, h, hb⟩

/-- the bytes from the k-th on as a word -/
def dropW (zs : List Int) (k : Nat) : Int := wordOf (zs.drop k)

theorem dropW_step {zs : List Int} (h : U8s zs) (hl : zs.length = 8) {k : Nat} (hk : k < 8) :
    IntKind.u64.wrap (IntKind.u64.wrap (256 * dropW zs (k + 1)) + zs.getD k 0) = dropW zs k := by
  have u : ∀ m, U8s (zs.drop m) := fun m z hz => h z (List.mem_of_mem_drop hz)
  have e : dropW zs k = zs.getD k 0 + 256 * dropW zs (k + 1) := by
    unfold dropW
    rw [List.drop_eq_getElem_cons (by omega), getD_in _ (by omega)]; rfl
  obtain ⟨b0, b1⟩ := u8s_getD h k
  obtain ⟨d0, d1⟩ := w64_word (u k) (by rw [List.length_drop]; omega)
  change 0 ≤ dropW zs k at d0
  change dropW zs k < _ at d1
  obtain ⟨c0, _⟩ := word_bd _ (u (k + 1))
  change 0 ≤ dropW zs (k + 1) at c0
  rw [IntKind.wrap_u64, IntKind.wrap_u64]
  omega

theorem u8s_set {zs : List Int} (h : U8s zs) {c : Int} (h0 : 0 ≤ c) (h1 : c < 256) (m : Nat) : U8s (zs.set m c) := by
  intro z hz
  rcases List.mem_or_eq_of_mem_set hz with hz | rfl
  · exact h z hz
  · exact ⟨h0, h1⟩

theorem word_set {x : Int} (hx : W64 x) {c : Int} (h0 : 0 ≤ c) (h1 : c < 256) {m : Nat} (hm : m < 8) : wordOf ((bytesOf x).set m c) = putF x m c := by
  have u := u8s_set (bytesOf_u8 hx) h0 h1 m
  have l : ((bytesOf x).set m c).length ≤ 8 := by simp [bytesOf_len]
  apply byte_ext (w64_word u l) (w64_put hx _ _)
  intro k hk
  rw [byte_word u l hk, byte_put hx h0 h1 _ hk]
  have e := bytesOf_get x hk
  simp only [List.getD] at e ⊢
  rw [List.getElem?_set]
  by_cases c : m = k
  · subst c; simp [bytesOf_len, hm]
  · rw [if_neg c, e, if_neg (by omega)]

theorem ownB_cells {w : World} {base g cap : Nat} {zs : List Int} (h : OwnB w base (.slice (some ⟨g, 0, none⟩) 8 cap) zs) (hl : zs.length = 8) : ∀ k, k < 8 → w.cell? ((⟨g, 0, none⟩ : Addr).add k) = some (.int .u8 (zs.getD k 0)) := by
  intro k hk
  unfold OwnB at h
  rw [hl] at h
  rw [add_at, h.cellAt k (by omega), List.getElem?_map, List.getElem?_eq_getElem (by omega), getD_in _ (by omega)]; rfl

theorem cut_zero (x f : Int) : cutF x f (0 : Nat) = 0 := by unfold cutF; rw [hasB_no (by omega)]; rfl
theorem lay_zero (x f v : Int) : layF x f (0 : Nat) v = x := by unfold layF; rw [hasB_no (by omega)]; rfl

theorem cut_step {x : Int} (hx : W64 x) {f n : Int} (h : hasB f n = true) {k : Nat} (hk : (k : Int) < n) : putF (cutF x f k) k (byteF x (f + k)) = cutF x f (k + 1 : Nat) := by
  obtain ⟨h0, h1, h2⟩ := hasB_bd h
  obtain ⟨b0, b1⟩ := byte_lt x (f + k) hx
  apply byte_ext (w64_put (w64_cut _ _ _) _ _) (w64_cut _ _ _)
  intro j hj
  rw [byte_put (w64_cut _ _ _) b0 b1 _ hj, byte_cut hx _ _ hj, byte_cut hx _ _ hj, hasB_mk (f := f) (n := (k + 1 : Nat)) h0 (by omega) (by omega)]
  by_cases e : j = k
  · subst e; simp; intro hh; omega
  · rw [if_neg (by omega)]
    by_cases c : j < k
    · have hb : hasB f (k : Nat) = true := hasB_mk h0 (by omega) (by omega)
      rw [hb, if_pos (by simp; omega), if_pos (by simp; omega)]
    · rw [if_neg (by simp; omega), if_neg (by simp; omega)]

theorem lay_step {x v : Int} (hx : W64 x) (hv : W64 v) {f n : Int} (h : hasB f n = true) {k : Nat} (hk : (k : Int) < n) : putF (layF x f k v) (f + k) (byteF v k) = layF x f (k + 1 : Nat) v := by
  obtain ⟨h0, h1, h2⟩ := hasB_bd h
  obtain ⟨b0, b1⟩ := byte_lt v k hv
  apply byte_ext (w64_put (w64_lay hx _ _ _) _ _) (w64_lay hx _ _ _)
  intro j hj
  rw [byte_put (w64_lay hx _ _ _) b0 b1 _ hj, byte_lay hx hv _ _ hj, byte_lay hx hv _ _ hj, hasB_mk (f := f) (n := (k + 1 : Nat)) h0 (by omega) (by omega)]
  by_cases e : (j : Int) = f + k
  · rw [if_pos e, if_pos (by simp; omega), show (j : Int) - f = k by omega]
  · rw [if_neg e]
    by_cases c : f ≤ (j : Int) ∧ (j : Int) < f + k
    · have hb : hasB f (k : Nat) = true := hasB_mk h0 (by omega) (by omega)
      rw [hb, if_pos (by simp; omega), if_pos (by simp; omega)]
    · rw [if_neg (by simp; omega), if_neg (by simp; omega)]

end Go.Proofs.YtlpjbmlkpmhdlaaDoor
