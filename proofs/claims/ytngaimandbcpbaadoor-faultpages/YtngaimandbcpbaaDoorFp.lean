/- Layer 7: figures to the base 16 and 10; the document's own words of a page fault. -/
import Derived.Test.YtngaimandbcpbaaDoorFb
import Derived.Laws.BytesArg
import Derived.Lib.Hide
import Derived.Deep.RegionWith
namespace Go.Proofs.YtngaimandbcpbaaDoor
set_option linter.unusedVariables false
set_option linter.unusedSimpArgs false
open Go.RowKit Go.Extern.Stop Go.Stop Go.Extern

/-- a figure's letter -/
def figN (n : Int) : Int := if n ≤ 9 then 48 + n else 87 + n
/-- a number's figures to the base 16; to the base 10 -/
def hexF : Nat → Int → List Int
  | 0, n => [figN n]
  | k + 1, n => if n < 16 then [figN n] else hexF k (n / 16) ++ [figN (n % 16)]
def decF : Nat → Int → List Int
  | 0, n => [48 + n]
  | k + 1, n => if n < 10 then [48 + n] else decF k (n / 10) ++ [48 + n % 10]

theorem hexF_len : ∀ (k : Nat) (n : Int), (hexF k n).length ≤ k + 1
  | 0, n => by simp [hexF]
  | k + 1, n => by
    unfold hexF
    split
    · simp
    · have := hexF_len k (n / 16); simp; omega
theorem decF_len : ∀ (k : Nat) (n : Int), (decF k n).length ≤ k + 1
  | 0, n => by simp [decF]
  | k + 1, n => by
    unfold decF
    split
    · simp
    · have := decF_len k (n / 10); simp; omega

theorem str_append (xs ys : List Int) : strOfNums xs ++ strOfNums ys = strOfNums (xs ++ ys) := by
  apply ByteArray.ext
  simp [strOfNums, ByteArray.data_append]

theorem conv1 (w : World) (z : Int) : (convert 68 9 (.slice (some ⟨w.heap.size, 0, none⟩) 1 1)).run Tryd.prog (w.alloc (.cells #[.int .u8 z] 5)) = .ok (.string (strOfNums [z])) (w.alloc (.cells #[.int .u8 z] 5)) := by
  refine run_convert_bytes_arg _ 68 5 Tryd.underlying68 Tryd.underlying5 w.heap.size 0 1 1 [z] rfl (fun i hi => ?_) 9 Tryd.underlying9
  obtain rfl : i = 0 := by omega
  simp

theorem figure_any (n : Int) (w : World) (h0 : 0 ≤ n) (h15 : n ≤ 15) : Calls Tryd.prog 31 #[.int .u64 n] w fun e w' => e = .returned (.string (strOfNums [figN n])) ∧ Kept w w' := by
  have c := conv1
  by_cases h9 : n ≤ 9
  · have e : figN n = 48 + n := by simp [figN, h9]
    rw [e]
    go_enter Tryd.func31, Tryd.ntmps31
    go_wp2
    go_ret
    exact ⟨rfl, kept_alloc _ _⟩
  · have e : figN n = 87 + n := by simp [figN, h9]
    rw [e]
    have h10 : 10 ≤ n := by omega
    clear h9
    go_enter Tryd.func31, Tryd.ntmps31
    go_wp2
    go_ret
    exact ⟨rfl, kept_alloc _ _⟩

theorem hex_any : ∀ (k : Nat) (n : Int) (w : World), k < 16 → 0 ≤ n → n < 16 ^ (k + 1) → n ≤ 18446744073709551615 →
    Calls Tryd.prog 22 #[.int .u64 n] w fun e w' => e = .returned (.string (strOfNums (hexF k n))) ∧ Kept w w' := by
  intro k
  induction k with
  | zero =>
    intro n w _ h0 h1 h2
    have h16 : n < 16 := by simpa using h1
    clear h1 h2
    go_enter Tryd.func22, Tryd.ntmps22
    go_wp2_with fail
    refine (figure_any n _ h0 (by omega)).mono ?_
    rintro e w1 ⟨rfl, hk⟩
    go_wp2_with fail
    go_ret
    exact ⟨rfl, hk⟩
  | succ k ih =>
    intro n w hk16 h0 h1 h2
    by_cases h16 : n < 16
    · have e : hexF (k + 1) n = [figN n] := by simp [hexF, h16]
      rw [e]
      clear h1 h2 ih
      go_enter Tryd.func22, Tryd.ntmps22
      go_wp2_with fail
      refine (figure_any n _ h0 (by omega)).mono ?_
      rintro e w1 ⟨rfl, hk⟩
      go_wp2_with fail
      go_ret
      exact ⟨rfl, hk⟩
    · have e : hexF (k + 1) n = hexF k (n / 16) ++ [figN (n % 16)] := by simp [hexF, h16]
      have h3 : n / 16 < 16 ^ (k + 1) := by
        rw [Int.pow_succ] at h1
        omega
      have hl := hexF_len k (n / 16)
      have c1 := ih (n / 16) w (by omega) (by omega) h3 (by omega)
      rw [e, ← str_append]
      generalize hexF k (n / 16) = xs at *
      have hs1 : (strOfNums xs).size = xs.length := strOfNums_size xs
      have hs2 : (strOfNums [figN (n % 16)]).size = 1 := strOfNums_size _
      have h16' : 16 ≤ n := by omega
      clear h1 ih e h16 h3
      go_enter Tryd.func22, Tryd.ntmps22
      go_wp2_with fail
      refine c1.mono ?_
      rintro e w1 ⟨rfl, hk⟩
      go_wp2_with fail
      refine (figure_any (n % 16) _ (by omega) (by omega)).mono ?_
      rintro e w2 ⟨rfl, hk2⟩
      go_wp2_with fail
      go_ret
      exact ⟨rfl, Kept.step hk2 hk⟩

theorem hex_word (n : Int) (w : World) (h0 : 0 ≤ n) (h1 : n ≤ 18446744073709551615) :
    Calls Tryd.prog 22 #[.int .u64 n] w fun e w' => e = .returned (.string (strOfNums (hexF 15 n))) ∧ Kept w w' :=
  hex_any 15 n w (by omega) h0 (by omega) h1

theorem figures_lo (n : Int) (w : World) (h0 : 0 ≤ n) (h9 : n < 10) : Calls Tryd.prog 23 #[.int .i64 n] w fun e w' => e = .returned (.string (strOfNums [48 + n])) ∧ Kept w w' := by
  have c := conv1
  go_enter Tryd.func23, Tryd.ntmps23
  go_wp2_with fail
  go_ret
  exact ⟨rfl, kept_alloc _ _⟩
end Go.Proofs.YtngaimandbcpbaaDoor
