/- The walk of MemBytes. -/
import Derived.Test.YtfakfmefjfemhaaL4w
namespace Go.Proofs.Ytfakfmefjfemhaa
set_option linter.unusedVariables false
set_option linter.unusedSimpArgs false
open Go.ChangeShapes Go.WideShapes Go.ChangeAt Go.RowKit Go.Joins

/-- a word whose bytes from k on are those of zs -/
def mixB (o : Int) (zs : List Int) (k : Nat) : List Int := (List.range 8).map fun i : Nat => if k ≤ i then zs.getD i 0 else byteF o i
def mixW (o : Int) (zs : List Int) (k : Nat) : Int := wordOf (mixB o zs k)

theorem mixB_len (o : Int) (zs : List Int) (k : Nat) : (mixB o zs k).length = 8 := by simp [mixB]
theorem mixB_get (o : Int) (zs : List Int) (k : Nat) {i : Nat} (hi : i < 8) : (mixB o zs k).getD i 0 = if k ≤ i then zs.getD i 0 else byteF o i := by
  simp [mixB, List.getD, hi]
theorem mixB_u8 {o : Int} (ho : W64 o) {zs : List Int} (hz : U8s zs) (k : Nat) : U8s (mixB o zs k) := by
  intro z h
  simp only [mixB, List.mem_map, List.mem_range] at h
  obtain ⟨i, _, rfl⟩ := h
  split
  · exact u8s_getD hz i
  · exact byte_lt _ _ ho
theorem mix_all {o : Int} (ho : W64 o) {zs : List Int} (hz : U8s zs) (hl : zs.length = 8) : mixW o zs 0 = wordOf zs := by
  unfold mixW
  rw [list_ext8 (mixB_len o zs 0) hl (fun k hk => by rw [mixB_get _ _ _ hk, if_pos (Nat.zero_le _)])]
theorem mix_none {o : Int} (ho : W64 o) {zs : List Int} (hz : U8s zs) : mixW o zs 8 = o := by
  apply byte_ext (w64_word (mixB_u8 ho hz 8) (by rw [mixB_len]; omega)) ho
  intro k hk
  rw [byte_word (mixB_u8 ho hz 8) (by rw [mixB_len]; omega) hk, mixB_get _ _ _ hk, if_neg (by omega)]
theorem w64_mix {o : Int} (ho : W64 o) {zs : List Int} (hz : U8s zs) (k : Nat) : W64 (mixW o zs k) := w64_word (mixB_u8 ho hz k) (by rw [mixB_len]; omega)
theorem mix_put {o : Int} (ho : W64 o) {zs : List Int} (hz : U8s zs) {k : Nat} (hk : k < 8) : putF (mixW o zs (k + 1)) k (zs.getD k 0) = mixW o zs k := by
  have hu := u8s_getD hz k
  apply byte_ext (w64_put (w64_mix ho hz _) _ _) (w64_mix ho hz _)
  intro i hi
  rw [byte_put (w64_mix ho hz _) hu.1 hu.2 _ hi]
  unfold mixW
  rw [byte_word (mixB_u8 ho hz _) (by rw [mixB_len]; omega) hi, byte_word (mixB_u8 ho hz _) (by rw [mixB_len]; omega) hi, mixB_get _ _ _ hi, mixB_get _ _ _ hi]
  by_cases e : i = k
  · subst e
    rw [if_pos rfl, if_pos (Nat.le_refl _)]
  · rw [if_neg (by omega)]
    by_cases c : k ≤ i
    · rw [if_pos (by omega), if_pos c]
    · rw [if_neg (by omega), if_neg c]

theorem upd_same (f : Int → Int) (s : Int) : updF f s (f s) = f := by
  funext j
  unfold updF
  split
  · rename_i h; rw [h]
  · rfl
theorem upd_upd (f : Int → Int) (s x y : Int) : updF (updF f s x) s y = updF f s y := by
  funext j
  unfold updF
  split <;> rfl

theorem put_mix {f : Int → Int} (hf : ∀ s, W64 (f s)) {a : Int} (a0 : 0 ≤ a) (a1 : a ≤ 65528) (a2 : a % 8 = 0) {zs : List Int} (hz : U8s zs) {k : Nat} (hk : k < 8) :
    putS 16 (updF f (a / 8) (mixW (f (a / 8)) zs (k + 1))) (a + k) (zs.getD k 0) = updF f (a / 8) (mixW (f (a / 8)) zs k) := by
  unfold putS
  rw [size16, if_neg (by omega), show (a + (k : Int)) / 8 = a / 8 by omega, show (a + (k : Int)) % 8 = k by omega, upd_upd]
  rw [show updF f (a / 8) (mixW (f (a / 8)) zs (k + 1)) (a / 8) = mixW (f (a / 8)) zs (k + 1) by unfold updF; simp, mix_put (hf _) hz hk]

set_option maxRecDepth 100000 in
set_option maxHeartbeats 1000000 in
theorem memBytes_walk (A : Option Addr) (c : Nat) (ds : List (Int × Int × Int)) (p : Int) (zs : List Int) (cs : Array Value) (w : World) (hl : ds.length ≤ maxLen) (hd : DeedsIn w A ds) (hok : DeedsOk ds)
    (hp : 0 ≤ p ∧ p ≤ 65535) (hu : U8s zs) (h8 : zs.length = 8) (hcs : ∀ k : Nat, k < 8 → cs[k]? = some (.int .u8 (zs.getD k 0))) :
    Calls Try.prog 5 #[.slice A ds.length c, .int .u16 p, .agg cs] w fun e w' => e = .returned (.bool true) ∧ Below w.heap.size w w' := by
  obtain ⟨s, a, e1, e2, s0, s1, a0, a1, a2⟩ := slot_of hp.1 hp.2
  obtain ⟨p0, p1⟩ := hp
  have ea := err16 a1 a2
  have a3 : a ≤ 65528 := by omega
  have HD := Lib.hid hd
  have HU := Lib.hid hu
  have H8 := Lib.hid h8
  have HC := Lib.hid hcs
  have HA2 := Lib.hid a2
  clear hd a2 hu h8 hcs
  go_enter Try.func5, Try.ntmps5
  go_wp2_with (first | (go_at_call 9; refine (awake4_any _).mono ?_; rintro e w1 ⟨rfl, hB1⟩; have HQ := fun (k : Nat) (hk : k < 8) => Lib.hid (cellAlloc hB1 (HC.out k hk)); have HS := Lib.hid (show w.heap.size < w1.heap.size by have := hB1.size; simp at this; omega); have HB1 := Lib.hid (((Below.refl _ w).alloc (Nat.le_refl _) (.cells cs 52)).trans (hB1.mono (by simp))); clear hB1) | (go_at_call 16; refine (run_any _ _ _ ds hl (deeds_below HD.out HB1.out) hok).mono ?_; rintro e w2 ⟨rfl, hM2, hB2⟩))
  have hf := hM2.words
  have hwf := Lib.hid (hf (a / 8))
  have hM2' : Mem w2 (From w1.heap.size) (w1.heap.size + 1) 16 (updF (playF 16 ds (many ds)) (a / 8) (mixW (playF 16 ds (many ds) (a / 8)) zs 8)) (playT 16 ds (many ds)) (120 + (8 - 8)) := by
    rw [mix_none hwf.out HU.out, upd_same]; exact hM2
  go_loopw [10] (fun i wr => ∃ k : Nat, k ≤ 8 ∧ i = .int .i64 ((k : Int) - 1) ∧ Mem wr (From w1.heap.size) (w1.heap.size + 1) 16 (updF (playF 16 ds (many ds)) (a / 8) (mixW (playF 16 ds (many ds) (a / 8)) zs k)) (playT 16 ds (many ds)) (120 + (8 - k)) ∧ Below w1.heap.size w1 wr) (fun i _ => (intOf i + 1).toNat)
  case atStart => exact ⟨8, by omega, rfl, hM2', hB2⟩
  case round =>
    obtain ⟨k, hk, rfl, hM, hB⟩ := hrel
    rcases k with _ | k
    · have RB := Lib.hid (HB1.out.trans (hB.mono HB1.out.size))
      have cQ : Hid (∀ j, j < 8 → wr.cell? ((⟨w.heap.size, 0, none⟩ : Addr).add j) = some (.int .u8 (zs.getD j 0))) := Lib.hid (fun j hj => by
        have e : (⟨w.heap.size, 0, none⟩ : Addr).add j = ⟨w.heap.size, j, none⟩ := by unfold Addr.add; split <;> simp_all
        rw [e, hB.cell HS.out]; exact (HQ j hj).out)
      have ep : peekV 16 (updF (playF 16 ds (many ds)) (a / 8) (mixW (playF 16 ds (many ds) (a / 8)) zs 0)) a = wordOf zs := by
        unfold peekV updF; rw [ea, if_pos rfl, if_pos rfl]; exact mix_all hwf.out HU.out H8.out
      go_wp2_with (first | (go_at_call 17; refine (mpeek_any hM _ (w64_16 a0 a1)).mono ?_; rintro e w' ⟨rfl, rfl⟩) | (go_at_call 23; refine (rfrom_yes ⟨w.heap.size, 0, none⟩ 8 zs _ HU.out H8.out cQ.out).mono ?_; rintro e w' ⟨rfl, rfl⟩))
      go_ret
      exact ⟨rfl, RB.out⟩
    · rw [show (((k + 1 : Nat) : Int) - 1) = k by omega]
      have hk8 : k < 8 := by omega
      have cK : wr.cell? ⟨w.heap.size, k, none⟩ = some (.int .u8 (zs.getD k 0)) := by rw [hB.cell HS.out]; exact (HQ k hk8).out
      have g2 : getE 16 (a + k) = 0 := get16 (by omega)
      have HP := Lib.hid (put_mix hf a0 a3 HA2.out HU.out hk8)
      have hz := u8s_getD HU.out k
      generalize zs.getD k 0 = z at *
      obtain ⟨z0, z1⟩ := hz
      go_wp2_with (go_at_call 22; refine (bput hM (by omega) _ _ (w64_16 (by omega) (by omega)) z0 z1).mono ?_; rintro e w3 ⟨rfl, hM3, hB3⟩)
      rw [HP.out] at hM3
      have RB := hB.trans hB3
      have RM : Mem w3 (From w1.heap.size) (w1.heap.size + 1) 16 (updF (playF 16 ds (many ds)) (a / 8) (mixW (playF 16 ds (many ds) (a / 8)) zs k)) (playT 16 ds (many ds)) (120 + (8 - k)) := hM3.more (by omega)
      go_roundw
      case rel => exact ⟨k, by omega, by go_num, RM, RB⟩
      case measure => simp [intOf]

theorem cs_of {zs : List Int} (h : zs.length = 8) : ∀ k : Nat, k < 8 → ((zs.map (Value.int .u8)).toArray)[k]? = some (.int .u8 (zs.getD k 0)) := by
  intro k hk
  have hk' : k < zs.length := by omega
  simp [List.getD, List.getElem?_eq_getElem hk']

end Go.Proofs.Ytfakfmefjfemhaa
