/- Contracts of package word: the calls that make or read memory. -/
import Derived.Test.YtlpjbmlkpmhdlaaDoorWd
import Derived.LoopTactic
import Derived.Lib.SmallJoins
namespace Go.Proofs.YtlpjbmlkpmhdlaaDoor
set_option linter.unusedVariables false
set_option linter.unusedSimpArgs false
open Go.ChangeShapes Go.WideShapes Go.ChangeAt Go.RowKit Go.Joins

/-- of the bytes of x the first k, then zeros -/
def partB (x : Int) (k : Nat) : Array Value := ((List.range 8).map fun j : Nat => Value.int .u8 (if j < k then byteF x (j : Int) else 0)).toArray

theorem partB_get (x : Int) (k : Nat) {j : Nat} (hj : j < 8) : (partB x k)[j]? = some (.int .u8 (if j < k then byteF x (j : Int) else 0)) := by
  simp [partB, List.getElem?_map, List.getElem?_range hj]

theorem partB_size (x : Int) (k : Nat) : (partB x k).size = 8 := by simp [partB]

theorem partB_set (x : Int) {k : Nat} : (partB x k).setIfInBounds k (.int .u8 (byteF x (k : Int))) = partB x (k + 1) := by
  apply Array.ext
  · simp [partB]
  · intro j h1 h2
    have hj : j < 8 := by simpa [partB] using h2
    rw [Array.getElem_setIfInBounds (by simpa [partB] using hj)]
    by_cases e : k = j
    · subst e; simp [partB]
    · rw [if_neg e]
      by_cases c : j < k
      · simp [partB, c, show j < k + 1 by omega]
      · simp [partB, c, show ¬ j < k + 1 by omega]

theorem partB_zero (x : Int) : partB x 0 = #[.int .u8 0, .int .u8 0, .int .u8 0, .int .u8 0, .int .u8 0, .int .u8 0, .int .u8 0, .int .u8 0] := by
  simp [partB, List.range, List.range.loop]

/-- block g holds the cells cs, of bytes, none frozen -/
def Row8 (w : World) (g : Nat) (cs : Array Value) : Prop := w.heap[g]? = some (.cells cs 5 (0, 0))

/-- the bytes zs lie at A (if there are none, A is whatever it is) -/
def BytesIn (w : World) (A : Option Addr) (zs : List Int) : Prop := zs = [] ∨ ∃ ad, A = some ad ∧ ∀ k, k < zs.length → w.cell? (ad.add k) = some (.int .u8 (zs.getD k 0))

/-- the first k bytes as a word -/
def takeW (zs : List Int) (k : Nat) : Int := wordOf (zs.take k)

theorem takeW_step {zs : List Int} (h : U8s zs) (hl : zs.length = 8) {k : Nat} (hk : k < 8) : putF (takeW zs k) k (zs.getD k 0) = takeW zs (k + 1) := by
  have u : ∀ m, U8s (zs.take m) := fun m z hz => h z (List.mem_of_mem_take hz)
  have l : ∀ m, (zs.take m).length ≤ 8 := fun m => by rw [List.length_take]; omega
  obtain ⟨b0, b1⟩ := u8s_getD h k
  have gt : ∀ m j, (zs.take m).getD j 0 = if j < m then zs.getD j 0 else 0 := by
    intro m j
    simp only [List.getD, List.getElem?_take]
    by_cases c : j < m
    · simp [c]
    · simp [c]
  apply byte_ext (w64_put (w64_word (u k) (l k)) _ _) (w64_word (u _) (l _))
  intro j hj
  rw [byte_put (w64_word (u k) (l k)) b0 b1 _ hj]
  show (if (j : Int) = k then _ else byteF (wordOf (zs.take k)) j) = byteF (wordOf (zs.take (k + 1))) j
  rw [byte_word (u _) (l _) hj, byte_word (u _) (l _) hj, gt, gt]
  by_cases e : j = k
  · subst e; simp
  · rw [if_neg (by omega)]
    by_cases c : j < k
    · rw [if_pos c, if_pos (by omega)]
    · rw [if_neg c, if_neg (by omega)]

theorem ret_pair {k : IntKind} {a b : Int} {u : Value} (h : a = b) : Ending.returned (.tuple #[.int k a, u]) = .returned (.tuple #[.int k b, u]) := by rw [h]

end Go.Proofs.YtlpjbmlkpmhdlaaDoor
