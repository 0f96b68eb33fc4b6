/- The walks of MemWords and MemBytes. -/
import Derived.Test.YtfakfmefjfemhaaDp
import Derived.Test.YtfakfmefjfemhaaWr
import Derived.Test.YtfakfmefjfemhaaFr
import Derived.Deep.RegionWith
namespace Go.Proofs.Ytfakfmefjfemhaa
set_option linter.unusedVariables false
set_option linter.unusedSimpArgs false
open Go.ChangeShapes Go.WideShapes Go.ChangeAt Go.RowKit Go.Joins

theorem size16 : sizeM 16 = 65536 := by decide
theorem err16 {a : Int} (h1 : a < 65536) (h2 : a % 8 = 0) : errS 16 a = 0 := by
  unfold errS; rw [size16, if_neg (by omega), if_pos h2]
theorem get16 {a : Int} (h1 : a < 65536) : getE 16 a = 0 := by
  unfold getE; rw [size16, if_neg (by omega)]
theorem peekV_store {M a x : Int} {f : Int → Int} (h : errS M a = 0) : peekV M (storeS M f a x) a = x := by
  unfold peekV storeS updF; simp [h]
theorem peekV_other {M a b x : Int} {f : Int → Int} (ha : errS M a = 0) (hb : errS M b = 0) (h : a ≠ b) : peekV M (storeS M f a x) b = peekV M f b := by
  have h1 := (errS_in ha).2
  have h2 := (errS_in hb).2
  unfold peekV storeS updF
  simp only [ha, hb, if_true]
  rw [if_neg (by omega)]
theorem getV_store {a x : Int} {f : Int → Int} (h0 : 0 ≤ a) (h1 : a < 65536) (h2 : a % 8 = 0) {k : Nat} (hk : k < 8) : getV 16 (storeS 16 f a x) (a + k) = byteF x k := by
  unfold getV storeS updF
  rw [size16, if_neg (by omega), err16 h1 h2]
  simp only [if_true]
  rw [if_pos (by omega), show (a + (k : Int)) % 8 = k by omega]

/-- a slot's address, as the law makes it of a number -/
theorem slot_of {p : Int} (h0 : 0 ≤ p) (h1 : p ≤ 65535) : ∃ s a : Int, p.tdiv 8 = s ∧ s * 8 = a ∧ 0 ≤ s ∧ s ≤ 8191 ∧ 0 ≤ a ∧ a < 65536 ∧ a % 8 = 0 :=
  ⟨p / 8, p / 8 * 8, Int.tdiv_eq_ediv_of_nonneg h0, rfl, by omega, by omega, by omega, by omega, by omega⟩

theorem w64_16 {a : Int} (h0 : 0 ≤ a) (h1 : a < 65536) : W64 a := ⟨h0, by omega⟩

theorem cellAlloc {w w' : World} {cs : Array Value} {t : TypeId} (hb : Below (w.alloc (.cells cs t)).heap.size (w.alloc (.cells cs t)) w') {i : Nat} {v : Value} (hv : cs[i]? = some v) : w'.cell? ⟨w.heap.size, i, none⟩ = some v := by
  rw [hb.cell (by simp)]
  have h := Deep.blk_alloc_new w (.cells cs t)
  simp only [World.cell?]
  rw [h]
  exact hv

set_option maxRecDepth 100000 in
set_option maxHeartbeats 1000000 in
theorem memWords_walk (A : Option Addr) (c : Nat) (ds : List (Int × Int × Int)) (p q x : Int) (w : World) (hl : ds.length ≤ maxLen) (hd : DeedsIn w A ds) (hok : DeedsOk ds)
    (hp : 0 ≤ p ∧ p ≤ 65535) (hq : 0 ≤ q ∧ q ≤ 65535) (hx : W64 x) :
    Calls Try.prog 4 #[.slice A ds.length c, .agg #[.int .u16 p, .int .u16 q], .int .u64 x] w fun e w' => e = .returned (.bool true) ∧ Below w.heap.size w w' := by
  obtain ⟨s, a, e1, e2, s0, s1, a0, a1, a2⟩ := slot_of hp.1 hp.2
  obtain ⟨t, b, e3, e4, t0, t1, b0, b1, b2⟩ := slot_of hq.1 hq.2
  obtain ⟨p0, p1⟩ := hp
  obtain ⟨q0, q1⟩ := hq
  have ea := err16 a1 a2
  have eb := err16 b1 b2
  have ep := peekV_store (x := x) (f := playF 16 ds (many ds)) ea
  have HG := fun (k : Nat) (hk : k < 8) => Lib.hid (getV_store (x := x) (f := playF 16 ds (many ds)) a0 a1 a2 hk)
  have eo : (a == b) = true ∨ ((a == b) = false ∧ peekV 16 (storeS 16 (playF 16 ds (many ds)) a x) b = peekV 16 (playF 16 ds (many ds)) b) := by
    by_cases h : a = b
    · exact Or.inl (by simpa using h)
    · exact Or.inr ⟨by simpa using h, peekV_other ea eb h⟩
  have HD := Lib.hid hd
  have HE := Lib.hid eo
  have a3 : a ≤ 65528 := by omega
  clear hd eo a2 b2
  go_enter Try.func4, Try.ntmps4
  go_wp2_with (first | (go_at_call 9; refine (awake4_any _).mono ?_; rintro e w1 ⟨rfl, hB1⟩; have cp := cellAlloc hB1 (i := 0) rfl; have cq := cellAlloc hB1 (i := 1) rfl; have HB1 := Lib.hid (((Below.refl _ w).alloc (Nat.le_refl _) (.cells #[.int .u16 p, .int .u16 q] 42)).trans (hB1.mono (by simp))); clear hB1) | (go_at_call 16; refine (run_any _ _ _ ds hl (deeds_below HD.out HB1.out) hok).mono ?_; rintro e w2 ⟨rfl, hM2, hB2⟩) | (go_at_call 18; refine (bstore hM2 (by decide) _ _ (w64_16 a0 a1) hx).mono ?_; rintro e w3 ⟨rfl, hM3, hB3⟩) | (go_at_call 19; refine (bload hM3 (by decide) _ (w64_16 a0 a1)).mono ?_; rintro e w4 ⟨rfl, hM4, hB4⟩) | (go_at_call 17; with_reducible refine (mpeek_any (by assumption) _ (w64_16 b0 b1)).mono ?_; rintro e w' ⟨rfl, rfl⟩))
  go_loop [20] (fun i => ∃ k : Nat, k ≤ 8 ∧ i = .int .i64 k) (fun i => (8 - intOf i).toNat)
  case atStart => exact ⟨0, by omega, rfl⟩
  case round =>
    obtain ⟨k, hk, rfl⟩ := hrel
    by_cases hlt : k < 8
    · have g1 := (HG k hlt).out
      have g2 : getE 16 (a + k) = 0 := get16 (by omega)
      go_wp2_with (first | (go_at_call 20; refine (mget_any hM4 _ (w64_16 (by omega) (by omega))).mono ?_; rintro e w' ⟨rfl, rfl⟩) | (go_at_call 21; refine (rbyte_any _ _ _ hx).mono ?_; rintro e w' ⟨rfl, rfl⟩))
      go_round
      case rel => exact ⟨k + 1, by omega, by go_num⟩
      case measure => simp [intOf]; omega
    · have e : k = 8 := by omega
      subst e
      have RB := Lib.hid (HB1.out.trans (((hB2.trans hB3).trans hB4).mono HB1.out.size))
      rcases HE.out with h | ⟨h, h'⟩
      · go_wp2
        go_ret
        exact ⟨rfl, RB.out⟩
      · go_wp2
        go_ret
        exact ⟨rfl, RB.out⟩

end Go.Proofs.Ytfakfmefjfemhaa
