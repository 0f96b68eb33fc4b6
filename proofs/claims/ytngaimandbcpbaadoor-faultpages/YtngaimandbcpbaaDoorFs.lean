/- Layer 7: strconv.FormatUint to the base 16. -/
import Derived.Test.YtngaimandbcpbaaDoorFq
import Derived.Test.YtngaimandbcpbaaDoorFj
import Derived.Test.YtngaimandbcpbaaDoorBv
import Derived.Deep.OwnRows
namespace Go.Proofs.YtngaimandbcpbaaDoor
set_option linter.unusedVariables false
set_option linter.unusedSimpArgs false
open Go.RowKit Go.Extern.Stop Go.Stop Go.Extern

/-- the one cell of the table that is read -/
def Tz (w : World) : Prop := w.cell? ⟨3, 15, none⟩ = some (.int .u8 4)
theorem tz_keep {w w' : World} (h : Tz w) (hk : Kept w w') : Tz w' := kept_cell hk h

theorem tz64 (w : World) (h : Tz w) : Calls Tryd.prog 51 #[.int .u64 16] w fun e w' => e = .returned (.int .i64 4) ∧ w' = w := by
  have hc : w.cell? ⟨3, 15, none⟩ = some (.int .u8 4) := h
  have e0 : IntKind.u64.wrap (-16) = 18446744073709551600 := by decide +kernel
  have e1 : bits BinOp.and IntKind.u64 16 18446744073709551600 = 16 := by decide +kernel
  have e2 : IntKind.u64.wrap 4573923408821661840 = 4573923408821661840 := by decide +kernel
  go_enter Tryd.func51, Tryd.ntmps51
  go_wp2
  go_ret
  exact ⟨rfl, rfl⟩
theorem tz_any (w : World) (h : Tz w) : Calls Tryd.prog 49 #[.int .u64 16] w fun e w' => e = .returned (.int .i64 4) ∧ w' = w := by
  go_enter Tryd.func49, Tryd.ntmps49
  go_wp2_with (first | (go_at_call 51; refine (tz64 _ h).mono ?_; rintro e w' ⟨rfl, rfl⟩))
  go_ret
  exact ⟨rfl, rfl⟩
theorem pow16 (w : World) : Calls Tryd.prog 48 #[.int .i64 16] w fun e w' => e = .returned (.bool true) ∧ w' = w := by
  go_enter Tryd.func48, Tryd.ntmps48
  go_wp2
  go_ret
  exact ⟨rfl, rfl⟩

/-- the letters of figures -/
theorem dig16 (i : Nat) (hb : i < (⟨#[48, 49, 50, 51, 52, 53, 54, 55, 56, 57, 97, 98, 99, 100, 101, 102, 103, 104, 105, 106, 107, 108, 109, 110, 111, 112, 113, 114, 115, 116, 117, 118, 119, 120, 121, 122]⟩ : ByteArray).size) (h : i < 16) :
    ((((⟨#[48, 49, 50, 51, 52, 53, 54, 55, 56, 57, 97, 98, 99, 100, 101, 102, 103, 104, 105, 106, 107, 108, 109, 110, 111, 112, 113, 114, 115, 116, 117, 118, 119, 120, 121, 122]⟩ : ByteArray)[i]'hb).toNat : Nat) : Int) = figN (i : Int) := by
  have : i = 0 ∨ i = 1 ∨ i = 2 ∨ i = 3 ∨ i = 4 ∨ i = 5 ∨ i = 6 ∨ i = 7 ∨ i = 8 ∨ i = 9 ∨ i = 10 ∨ i = 11 ∨ i = 12 ∨ i = 13 ∨ i = 14 ∨ i = 15 := by omega
  rcases this with rfl | rfl | rfl | rfl | rfl | rfl | rfl | rfl | rfl | rfl | rfl | rfl | rfl | rfl | rfl | rfl <;> rfl
theorem dig_at {u : Int} (h0 : 0 ≤ u) (h : u < 16) (hb : u.toNat < (⟨#[48, 49, 50, 51, 52, 53, 54, 55, 56, 57, 97, 98, 99, 100, 101, 102, 103, 104, 105, 106, 107, 108, 109, 110, 111, 112, 113, 114, 115, 116, 117, 118, 119, 120, 121, 122]⟩ : ByteArray).size) :
    ((((⟨#[48, 49, 50, 51, 52, 53, 54, 55, 56, 57, 97, 98, 99, 100, 101, 102, 103, 104, 105, 106, 107, 108, 109, 110, 111, 112, 113, 114, 115, 116, 117, 118, 119, 120, 121, 122]⟩ : ByteArray)[u.toNat]'hb).toNat : Nat) : Int) = figN u := by
  rw [dig16 u.toNat hb (by omega), Int.toNat_of_nonneg h0]

theorem and15 {u : Int} (h0 : 0 ≤ u) (h1 : u ≤ 18446744073709551615) : bits BinOp.and IntKind.u64 u 15 = u % 16 := by
  refine tb_ext (w64_bits _ _ _) ⟨by omega, by omega⟩ fun i hi => ?_
  have e15 : tb 15 i = (decide (i < 4) && tb 18446744073709551615 i) := by
    have := tb_mod (a := 18446744073709551615) (by decide) 4 i
    rwa [show (18446744073709551615 : Int) % 2 ^ 4 = 15 by decide] at this
  have e16 : tb (u % 16) i = (decide (i < 4) && tb u i) := tb_mod (a := u) h0 4 i
  rw [tb_and h0 (by decide), e15, e16, tb_ones]
  simp only [hi, decide_true, Bool.true_and, Bool.and_true]
  exact Bool.and_comm _ _

theorem hexF_end (k : Nat) {u : Int} (h : u < 16) : hexF k u = [figN u] := by
  cases k with
  | zero => rfl
  | succ k => simp [hexF, h]
theorem row_next {D : List Int} {f : Nat → Value} {i : Nat} {v : Int} (hf : ∀ j, j < D.length → f (i + 1 + j) = .int .u8 (D.getD j 0)) :
    ∀ j, j < (v :: D).length → (fun j => if j = i then Value.int .u8 v else f j) (i + j) = .int .u8 ((v :: D).getD j 0) := by
  intro j hj
  cases j with
  | zero => simp
  | succ j =>
    have : ¬ i + (j + 1) = i := by omega
    simp only [this, if_false]
    rw [show i + (j + 1) = i + 1 + j by omega, hf j (by simpa using hj)]
    simp

theorem slice_l (W : World) (g k : Nat) (hk : k ≤ 15) : (Instr.sliceAt 103 (.pointer (some ⟨g, 0, none⟩)) (some (.int .i64 (50 + (k : Int) - 1))) none none).run Tryd.prog W = .ok (.slice (some ⟨g, 49 + k, none⟩) (16 - k) (16 - k)) W := by
  have ht : Tryd.prog.underlying 103 = some (.array (Tryd.prog.arrayLen 103) (Tryd.prog.elem 103)) := by kernel_rfl
  have hn : Tryd.prog.arrayLen 103 = 65 := by kernel_rfl
  have he : Tryd.prog.elem 103 = 5 := by kernel_rfl
  have hs : (sizeOf 5).run Tryd.prog W = .ok 1 W := by kernel_rfl
  rw [run_sliceAt_array_l W 103 ⟨g, 0, none⟩ ht .i64 (50 + (k : Int) - 1) (by omega) (by rw [hn]; omega), hn, he, hs]
  have e : (50 + (k : Int) - 1).toNat = 49 + k := by omega
  simp only [Result.andThen_ok, slicedAt, e]
  rw [if_neg (by omega), show (⟨g, 0, none⟩ : Addr).add ((49 + k) * 1) = ⟨g, 49 + k, none⟩ by unfold Addr.add; split <;> simp_all, show 65 - (49 + k) = 16 - k by omega]

theorem conv_row {W : World} {g m l c : Nat} {f : Nat → Value} {D : List Int} (hr : W.rowIs g 103 65 f) (hl : D.length = l) (hm : m + l ≤ 65) (hf : ∀ j, j < D.length → f (m + j) = .int .u8 (D.getD j 0)) :
    (convert 68 9 (.slice (some ⟨g, m, none⟩) l c)).run Tryd.prog W = .ok (.string (strOfNums D)) W := by
  refine run_convert_bytes_arg _ 68 5 Tryd.underlying68 Tryd.underlying5 g m l c D hl (fun i hi => ?_) 9 Tryd.underlying9
  rw [hr.cell (by omega), hf i (by omega)]

set_option maxHeartbeats 1600000 in
set_option maxRecDepth 100000 in
theorem bits16 (n : Int) (w : World) (h0 : 0 ≤ n) (h1 : n ≤ 18446744073709551615) (hz : Tz w) : Calls Tryd.prog 43 #[.slice none 0 0, .int .u64 n, .int .i64 16, .bool false, .bool false] w fun e w' => e = .returned (.tuple #[.slice none 0 0, .string (strOfNums (hexF 15 n))]) ∧ Kept w w' := by
  have hz2 := fun o => tz_keep hz (kept_alloc w o)
  go_enter Tryd.func43, Tryd.ntmps43
  go_wp2_with (first | (go_at_call 48; refine (pow16 _).mono ?_; rintro e w' ⟨rfl, rfl⟩) | (go_at_call 49; refine (tz_any _ (hz2 _)).mono ?_; rintro e w' ⟨rfl, rfl⟩))
  have hsz : Tryd.zeroCells103.size = 65 := Tryd.zeroCells103_size
  have hr0 : (w.alloc (.cells Tryd.zeroCells103 103)).rowIs w.heap.size 103 65 (fun i => Tryd.zeroCells103.getD i undef) := by
    have h := World.rowIs_alloc w Tryd.zeroCells103 103 (fun i => Tryd.zeroCells103.getD i undef) (fun i hi => by unfold Array.getD; rw [dif_pos hi, Array.getElem?_eq_getElem hi]; rfl)
    rw [hsz] at h
    exact h
  have hR0 := Lib.hid hr0
  clear hr0 hsz hz2 hz
  go_loopg [1, 13] 15 (fun g1 s1 s13 wr => ∃ (k : Nat) (u : Int) (D : List Int) (f : Nat → Value), k ≤ g1 ∧ k ≤ 15 ∧ s1 = .int .u64 u ∧ s13 = .int .i64 (50 + (k : Int)) ∧ 0 ≤ u ∧ u ≤ 18446744073709551615 ∧ u < 16 ^ (k + 1) ∧ hexF k u ++ D = hexF 15 n ∧ D.length + k = 15 ∧
    wr.rowIs w.heap.size 103 65 f ∧ (∀ j, j < D.length → f (50 + k + j) = .int .u8 (D.getD j 0)) ∧ Kept w wr)
  case atStart => exact ⟨15, n, [], _, by omega, by omega, rfl, rfl, h0, h1, by omega, by simp, rfl, hR0.out, fun j hj => absurd hj (by simp), kept_alloc _ _⟩
  case round =>
    obtain ⟨k, u, D, f, hkg, hk15, rfl, rfl, hu0, hu1, hu, hD, hDl, hr, hf, hK⟩ := hrel
    have HD := Lib.hid hD
    have HR := Lib.hid hr
    have HF := Lib.hid hf
    have HK := Lib.hid hK
    have hand : bits BinOp.and IntKind.u64 u 15 = u % 16 := and15 hu0 hu1
    have dg := @dig_at
    by_cases h16 : u < 16
    · have hc := hr.cell (i := 49 + k) (by omega)
      have hz := hr.frozen (49 + k)
      have hE : figN u :: D = hexF 15 n := by rw [← hD, hexF_end k h16]; rfl
      have sl := fun W => slice_l W w.heap.size k hk15
      have cv := conv_row (m := 49 + k) (l := 16 - k) (c := 16 - k) (hr.set (49 + k) (.int .u8 (figN u))) (D := figN u :: D) (by simp; omega) (by omega) (row_next (fun j hj => by rw [← hf j hj]; congr 1; omega))
      rw [hE] at cv
      clear hE
      clear hD hr hf hK hu
      go_wp2_with fail
      go_ret2
      exact ⟨rfl, kept_set HK.out (Nat.le_refl _) _⟩
    · cases k with
      | zero => exact absurd (by simpa using hu) h16
      | succ k =>
        have hc := hr.cell (i := 50 + k) (by omega)
        have hz := hr.frozen (50 + k)
        have h3 : u / 16 < 16 ^ (k + 1) := by
          rw [Int.pow_succ] at hu
          omega
        have H3 := Lib.hid h3
        have hE := Lib.hid (show hexF k (u / 16) ++ (figN (u % 16) :: D) = hexF 15 n by
          rw [← hD]; simp [hexF, h16])
        clear hD hr hf hK hu h3
        go_wp2_with fail
        have hdg := dig_at (u := u % 16) (by omega) (by omega) (by simp [ByteArray.size]; omega)
        rw [hdg]
        go_roundg k
        case measure => omega
        case rel =>
          refine ⟨k, u / 16, figN (u % 16) :: D, _, Nat.le_refl _, by omega, rfl, by rw [show (50 + ((k : Int) + 1) - 1) = 50 + (k : Int) by omega], by omega, by omega, H3.out, hE.out, by simp; omega, (HR.out.set (50 + k) (.int .u8 (figN (u % 16)))), row_next (fun j hj => ?_), ?_⟩
          · rw [← HF.out j hj]; congr 1
          · exact kept_set HK.out (Nat.le_refl _) _

theorem format16 (n : Int) (w : World) (h0 : 0 ≤ n) (h1 : n ≤ 18446744073709551615) (hz : Tz w) : Calls Tryd.prog 36 #[.int .u64 n, .int .i64 16] w fun e w' => e = .returned (.string (strOfNums (hexF 15 n))) ∧ Kept w w' := by
  have c := bits16 n w h0 h1 hz
  clear h0 h1 hz
  go_enter Tryd.func36, Tryd.ntmps36
  go_wp2_with fail
  refine c.mono ?_
  rintro e w1 ⟨rfl, hk⟩
  go_wp2_with fail
  go_ret
  exact ⟨rfl, hk⟩
theorem hex_made (n : Int) (w : World) (h0 : 0 ≤ n) (h1 : n ≤ 18446744073709551615) (hz : Tz w) : Calls Tryd.prog 29 #[.int .u64 n, .int .i64 16] w fun e w' => e = .returned (.string (strOfNums (hexF 15 n))) ∧ Kept w w' := by
  have c := format16 n w h0 h1 hz
  clear h0 h1 hz
  go_enter Tryd.func29, Tryd.ntmps29
  go_wp2_with fail
  refine c.mono ?_
  rintro e w1 ⟨rfl, hk⟩
  go_wp2_with fail
  go_ret
  exact ⟨rfl, hk⟩
end Go.Proofs.YtngaimandbcpbaaDoor
