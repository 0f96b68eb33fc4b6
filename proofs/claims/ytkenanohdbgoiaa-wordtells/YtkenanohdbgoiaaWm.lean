/- Contracts of package word: the calls that make or read memory. -/
import Derived.Test.YtkenanohdbgoiaaWd
import Derived.LoopTactic
import Derived.Lib.SmallJoins
namespace Go.Proofs.Ytkenanohdbgoiaa
set_option linter.unusedVariables false
set_option linter.unusedSimpArgs false
open Go.ChangeShapes Go.WideShapes Go.ChangeAt Go.RowKit Go.Joins

/-- of the bytes of x the first k, then zeros -/
def partB (x : Int) (k : Nat) : Array Value := ((List.range 8).map fun j : Nat => Value.int .u8 (if j < k then byteF x (j : Int) else 0)).toArray

theorem partB_get (x : Int) (k : Nat) {j : Nat} (hj : j < 8) : (partB x k)[j]? = some (.int .u8 (if j < k then byteF x (j : Int) else 0)) := by
  simp [partB, List.getElem?_map, List.getElem?_range hj]

theorem partB_size (x : Int) (k : Nat) : (partB x k).size = 8 := by simp [partB]

theorem partB_set (x : Int) {k : Nat} : (partB x k).setIfInBounds k (.int .u8 (byteF x (k : Int))) = partB x (k + 1) := by
  apply Array.ext
  · simp [partB]
  · intro j h1 h2
    have hj : j < 8 := by simpa [partB] using h2
    rw [Array.getElem_setIfInBounds (by simpa [partB] using hj)]
    by_cases e : k = j
    · subst e; simp [partB]
    · rw [if_neg e]
      by_cases c : j < k
      · simp [partB, c, show j < k + 1 by omega]
      · simp [partB, c, show ¬ j < k + 1 by omega]

theorem partB_zero (x : Int) : partB x 0 = #[.int .u8 0, .int .u8 0, .int .u8 0, .int .u8 0, .int .u8 0, .int .u8 0, .int .u8 0, .int .u8 0] := by
  simp [partB, List.range, List.range.loop]

theorem make8 : ∀ w, (Instr.makeSlice 23 (.int .i64 8) (.int .i64 8)).run Try.prog w = .ok (.slice (some ⟨w.heap.size, 0, none⟩) 8 8) (w.alloc (.cells #[.int .u8 0, .int .u8 0, .int .u8 0, .int .u8 0, .int .u8 0, .int .u8 0, .int .u8 0, .int .u8 0] 5)) := fun _ => by kernel_rfl

/-- block g holds the cells cs, of bytes, none frozen -/
def Row8 (w : World) (g : Nat) (cs : Array Value) : Prop := w.heap[g]? = some (.cells cs 5 (0, 0))

theorem bytes_any (x : Int) (w : World) (hx : W64 x) :
    Calls Try.prog 12 #[.int .u64 x] w fun e w' => e = .returned (.slice (some ⟨w.heap.size, 0, none⟩) 8 8) ∧ Row8 w' w.heap.size (partB x 8) ∧ Below w.heap.size w w' := by
  have hmk := make8
  have hz := Lib.hid (partB_zero x)
  go_enter Try.func12, Try.ntmps12
  go_wp2
  go_loopw [6] (fun i wr => ∃ k : Nat, k ≤ 8 ∧ i = .int .i64 k ∧ Row8 wr w.heap.size (partB x k) ∧ Below w.heap.size w wr) (fun i _ => (8 - intOf i).toNat)
  case atStart => exact ⟨0, by omega, rfl, by rw [hz.out]; exact heap_alloc_new w _, below_alloc1 _ _⟩
  case round =>
    obtain ⟨k, hk, rfl, hr, hb⟩ := hrel
    by_cases hlt : k < 8
    · have hc := (cell_of_block hr k).trans (partB_get x k hlt)
      have hf := unfrozen_of_block hr k
      have hs := block_setCell hr (i := k) (.int .u8 (byteF x (k : Int)))
      rw [partB_set] at hs
      have HS := Lib.hid hs
      clear hs
      have HR := Lib.hid hr
      clear hr
      go_wp2_with (first | (go_at_call 14; refine (byte_any _ _ _ hx).mono ?_; rintro e w' ⟨rfl, rfl⟩))
      go_roundw
      case rel => exact ⟨k + 1, by omega, by go_num, HS.out, hb.setCell (by simp) _⟩
      case measure => simp [intOf]; omega
    · have e : k = 8 := by omega
      subst e
      have HR := Lib.hid hr
      clear hr
      go_wp2
      go_ret
      exact ⟨rfl, HR.out, hb⟩

/-- the bytes zs lie at A (if there are none, A is whatever it is) -/
def BytesIn (w : World) (A : Option Addr) (zs : List Int) : Prop := zs = [] ∨ ∃ ad, A = some ad ∧ ∀ k, k < zs.length → w.cell? (ad.add k) = some (.int .u8 (zs.getD k 0))

/-- the first k bytes as a word -/
def takeW (zs : List Int) (k : Nat) : Int := wordOf (zs.take k)

theorem takeW_step {zs : List Int} (h : U8s zs) (hl : zs.length = 8) {k : Nat} (hk : k < 8) : putF (takeW zs k) k (zs.getD k 0) = takeW zs (k + 1) := by
  have u : ∀ m, U8s (zs.take m) := fun m z hz => h z (List.mem_of_mem_take hz)
  have l : ∀ m, (zs.take m).length ≤ 8 := fun m => by rw [List.length_take]; omega
  obtain ⟨b0, b1⟩ := u8s_getD h k
  have gt : ∀ m j, (zs.take m).getD j 0 = if j < m then zs.getD j 0 else 0 := by
    intro m j
    simp only [List.getD, List.getElem?_take]
    by_cases c : j < m
    · simp [c]
    · simp [c]
  apply byte_ext (w64_put (w64_word (u k) (l k)) _ _) (w64_word (u _) (l _))
  intro j hj
  rw [byte_put (w64_word (u k) (l k)) b0 b1 _ hj]
  show (if (j : Int) = k then _ else byteF (wordOf (zs.take k)) j) = byteF (wordOf (zs.take (k + 1))) j
  rw [byte_word (u _) (l _) hj, byte_word (u _) (l _) hj, gt, gt]
  by_cases e : j = k
  · subst e; simp
  · rw [if_neg (by omega)]
    by_cases c : j < k
    · rw [if_pos c, if_pos (by omega)]
    · rw [if_neg c, if_neg (by omega)]

theorem ret_pair {k : IntKind} {a b : Int} {u : Value} (h : a = b) : Ending.returned (.tuple #[.int k a, u]) = .returned (.tuple #[.int k b, u]) := by rw [h]

theorem from_not (A : Option Addr) (n c : Nat) (w : World) (hn : n ≠ 8) (hm : n ≤ maxLen) :
    Calls Try.prog 10 #[.slice A n c] w fun e w' => e = .returned (.tuple #[.int .u64 0, .int .i64 1]) ∧ w = w' := by
  unfold maxLen at hm
  have h8 : ((n : Int) != 8) = true := by simp; omega
  go_enter Try.func10, Try.ntmps10
  go_wp2
  go_ret2
  exact ⟨rfl, rfl⟩

theorem from_yes (ad : Addr) (c : Nat) (zs : List Int) (w : World) (hu : U8s zs) (hl : zs.length = 8) (hc : ∀ k, k < 8 → w.cell? (ad.add k) = some (.int .u8 (zs.getD k 0))) :
    Calls Try.prog 10 #[.slice (some ad) 8 c] w fun e w' => e = .returned (.tuple #[.int .u64 (wordOf zs), .int .i64 0]) ∧ w = w' := by
  have HC := Lib.hid hc
  clear hc
  have HL := Lib.hid hl
  go_enter Try.func10, Try.ntmps10
  go_wp2
  go_loop [4, 9] (fun x i => ∃ k : Nat, k ≤ 8 ∧ i = .int .i64 k ∧ x = .int .u64 (takeW zs k)) (fun _ i => (8 - intOf i).toNat)
  case atStart => exact ⟨0, by omega, rfl, rfl⟩
  case round =>
    obtain ⟨k, hk, rfl, rfl⟩ := hrel
    by_cases hlt : k < 8
    · have hc := HC.out k hlt
      obtain ⟨b0, b1⟩ := u8s_getD hu k
      have hs := takeW_step hu HL.out hlt
      generalize zs.getD k 0 = z at hc b0 b1 hs
      replace hs := Lib.hid hs
      go_wp2_with (first | (go_at_call 16; refine (put_any _ _ _ _ b0 b1).mono ?_; rintro e w' ⟨rfl, rfl⟩))
      go_round
      case rel => exact ⟨k + 1, by omega, by go_num, by rw [← hs.out]⟩
      case measure => simp [intOf]; omega
    · have e : takeW zs k = wordOf zs := by unfold takeW; rw [List.take_of_length_le (by rw [HL.out]; omega)]
      have E := Lib.hid e
      clear e
      go_wp2
      go_ret2
      exact ⟨ret_pair E.out, rfl⟩
end Go.Proofs.Ytkenanohdbgoiaa
