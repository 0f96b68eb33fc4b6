/- Plain mathematics: what is laid and cut, one behind the other. Nothing of the program. -/
import Derived.Test.YtkenanohdbgoiaaBy
namespace Go.Proofs.Ytkenanohdbgoiaa
set_option linter.unusedVariables false
set_option linter.unusedSimpArgs false

theorem cut_all {x : Int} (hx : W64 x) : cutF x 0 8 = x := by
  apply byte_ext (w64_cut _ _ _) hx
  intro k hk
  rw [byte_cut hx _ _ hk, if_pos (by simp [hasB]; omega), Int.zero_add]

theorem lay_all {y x : Int} (hy : W64 y) (hx : W64 x) : layF y 0 8 x = x := by
  apply byte_ext (w64_lay hy _ _ _) hx
  intro k hk
  rw [byte_lay hy hx _ _ hk, if_pos (by simp [hasB]; omega), Int.sub_zero]

theorem cut_le {x : Int} (hx : W64 x) {k : Int} (h0 : 1 ≤ k) (h1 : k ≤ 8) : cutF x 0 k ≤ x := by
  have h := hasB_mk (f := 0) (n := k) (by omega) h0 (by omega)
  unfold cutF
  rw [if_pos h, get_div hx (hasB_isF h)]
  have e : (2 : Int) ^ (8 * 0 : Int).toNat = 1 := by decide
  rw [e, Int.ediv_one]
  exact emod_le hx.1 (Int.pow_pos (by decide))

theorem joins {x : Int} (hx : W64 x) {k : Int} (h0 : 1 ≤ k) (h1 : k ≤ 7) : layF (layF 0 0 k (cutF x 0 k)) k (8 - k) (cutF x k (8 - k)) = x := by
  have c1 : W64 (cutF x 0 k) := w64_cut _ _ _
  have c2 : W64 (cutF x k (8 - k)) := w64_cut _ _ _
  have l1 : W64 (layF 0 0 k (cutF x 0 k)) := w64_lay w64_zero _ _ _
  apply byte_ext (w64_lay l1 _ _ _) hx
  intro j hj
  rw [byte_lay l1 c2 _ _ hj, byte_lay w64_zero c1 _ _ hj, hasB_mk (f := k) (n := 8 - k) (by omega) (by omega) (by omega), hasB_mk (f := 0) (n := k) (by omega) (by omega) (by omega)]
  by_cases c : k ≤ (j : Int)
  · rw [if_pos (by simp; omega)]
    obtain ⟨m, hm⟩ : ∃ m : Nat, (j : Int) - k = m := ⟨((j : Int) - k).toNat, by omega⟩
    rw [hm, byte_cut hx _ _ (by omega), hasB_mk (f := k) (n := 8 - k) (by omega) (by omega) (by omega), if_pos (by simp; omega), show k + (m : Int) = j by omega]
  · rw [if_neg (by simp; omega), if_pos (by simp; omega), Int.sub_zero, byte_cut hx _ _ hj, hasB_mk (f := 0) (n := k) (by omega) (by omega) (by omega), if_pos (by simp; omega), Int.zero_add]

/-- what was laid is cut -/
theorem cut_lay {x v : Int} (hx : W64 x) (hv : W64 v) {f n : Int} (h : hasB f n = true) : cutF (layF x f n v) f n = cutF v 0 n := by
  obtain ⟨h0, h1, h2⟩ := hasB_bd h
  apply byte_ext (w64_cut _ _ _) (w64_cut _ _ _)
  intro k hk
  rw [byte_cut (w64_lay hx _ _ _) _ _ hk, byte_cut hv _ _ hk, h, hasB_mk (f := 0) (n := n) (by omega) h1 (by omega)]
  by_cases c : (k : Int) < n
  · rw [if_pos (by simp [c]), if_pos (by simp [c])]
    obtain ⟨m, hm⟩ : ∃ m : Nat, f + (k : Int) = m := ⟨(f + (k : Int)).toNat, by omega⟩
    rw [hm, byte_lay hx hv _ _ (by omega), h, if_pos (by simp; omega), show (m : Int) - f = 0 + (k : Int) by omega]
  · rw [if_neg (by simp [c]), if_neg (by simp [c])]

/-- laid again what was there it is as it was -/
theorem lay_back {x v : Int} (hx : W64 x) (hv : W64 v) {f n : Int} (h : hasB f n = true) : layF (layF x f n v) f n (cutF x f n) = x := by
  obtain ⟨h0, h1, h2⟩ := hasB_bd h
  have hy := w64_lay hx f n v
  apply byte_ext (w64_lay hy _ _ _) hx
  intro k hk
  rw [byte_lay hy (w64_cut _ _ _) _ _ hk, byte_lay hx hv _ _ hk, h]
  by_cases c : f ≤ (k : Int) ∧ (k : Int) < f + n
  · rw [if_pos (by simp [c])]
    obtain ⟨m, hm⟩ : ∃ m : Nat, (k : Int) - f = m := ⟨((k : Int) - f).toNat, by omega⟩
    rw [hm, byte_cut hx _ _ (by omega), h, if_pos (by simp; omega), show f + (m : Int) = k by omega]
  · rw [if_neg (by simp; omega), if_neg (by simp; omega)]

/-- a byte that was laid, and one that wasn't -/
theorem byte_in {x v : Int} (hx : W64 x) (hv : W64 v) {f n : Int} (h : hasB f n = true) {k : Nat} (a : f ≤ (k : Int)) (b : (k : Int) < f + n) : byteF (layF x f n v) k = byteF v (k - f) := by
  obtain ⟨h0, h1, h2⟩ := hasB_bd h
  rw [byte_lay hx hv _ _ (by omega), h, if_pos (by simp [a, b])]

theorem byte_out {x v : Int} (hx : W64 x) (hv : W64 v) {f n : Int} {k : Nat} (hk : k < 8) (a : (k : Int) < f ∨ f + n ≤ (k : Int)) : byteF (layF x f n v) k = byteF x k := by
  rw [byte_lay hx hv _ _ hk, if_neg (by simp; omega)]

theorem cut_no (x : Int) {f n : Int} (h : hasB f n = false) : cutF x f n = 0 := by unfold cutF; rw [h]; rfl
theorem lay_no (x v : Int) {f n : Int} (h : hasB f n = false) : layF x f n v = x := by unfold layF; rw [h]; rfl

end Go.Proofs.Ytkenanohdbgoiaa
