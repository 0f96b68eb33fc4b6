/- Contracts of package dormerref02: each answers as package word does. -/
import Derived.Test.YtfakfmefjfemhaaWa
import Derived.Test.YtfakfmefjfemhaaR
import Derived.Maps.AppendAt
import Derived.OwnWalk
import Derived.Laws.OwnMore
namespace Go.Proofs.Ytfakfmefjfemhaa
set_option linter.unusedVariables false
set_option linter.unusedSimpArgs false
open Go.ChangeShapes Go.WideShapes Go.ChangeAt Go.RowKit Go.Joins

theorem rbyte_any (x i : Int) (w : World) (hx : W64 x) :
    Calls Try.prog 21 #[.int .u64 x, .int .i64 i] w fun e w' => e = .returned (.int .u8 (byteF x i)) ∧ w = w' := by
  by_cases h0 : i < 0
  · rw [byte_no x (Or.inl h0)]
    go_enter Try.func21, Try.ntmps21
    go_wp2
    go_ret
    exact ⟨rfl, rfl⟩
  · by_cases h1 : 7 < i
    · rw [byte_no x (Or.inr h1)]
      go_enter Try.func21, Try.ntmps21
      go_wp2
      go_ret
      exact ⟨rfl, rfl⟩
    · have E := Lib.hid (byte_div hx (i := i) (by omega) (by omega)).symm
      obtain ⟨a0, a1⟩ := hx
      have hp : (1 : Int) ≤ 2 ^ (8 * i).toNat := (Int.pow_pos (by decide) : (0 : Int) < 2 ^ (8 * i).toNat)
      have hq : 0 ≤ x / 2 ^ (8 * i).toNat := Int.ediv_nonneg a0 (by omega)
      go_enter Try.func21, Try.ntmps21
      go_wp2_with (go_at_call 39; refine (power_any _ _ (by omega) (by omega)).mono ?_; rintro e w' ⟨rfl, rfl⟩)
      go_ret
      exact ⟨ret_int E.out, rfl⟩

theorem info8 : (Try.prog.info? 5).map (fun i => (i.zero, i.size, i.bytes)) = some (some (.int .u8 0), 1, 1) := by kernel_rfl

/-- v, a slice of the call's own, holds the bytes zs -/
def OwnB (w : World) (base : Nat) (v : Value) (zs : List Int) : Prop := w.ownsRow base 5 1 v zs.length (zs.map (Value.int .u8))

/-- the first k bytes of a word -/
def firstB (x : Int) (k : Nat) : List Int := (List.range k).map fun j : Nat => byteF x (j : Int)

theorem firstB_len (x : Int) (k : Nat) : (firstB x k).length = k := by simp [firstB]
theorem firstB_succ (x : Int) (k : Nat) : firstB x (k + 1) = firstB x k ++ [byteF x (k : Int)] := by
  simp [firstB, List.range_succ]
theorem firstB_all (x : Int) : firstB x 8 = bytesOf x := rfl

theorem ownB_step {w w1 : World} {base : Nat} {v : Value} {x : Int} {k : Nat} (h : w1.ownsRow base 5 1 v ((firstB x k).length + 1) ((firstB x k).map (Value.int .u8) ++ [.int .u8 (byteF x (k : Int))])) : OwnB w1 base v (firstB x (k + 1)) := by
  unfold OwnB
  rw [firstB_succ, List.length_append, List.map_append]
  exact h

/-- what Bytes of dormerref02 leaves -/
def RBytes (x : Int) (w : World) (e : Ending) (w' : World) : Prop := ∃ g cap, e = .returned (.slice (some ⟨g, 0, none⟩) 8 cap) ∧ OwnB w' w.heap.size (.slice (some ⟨g, 0, none⟩) 8 cap) (bytesOf x) ∧ Below w.heap.size w w'

theorem rbytes_end {x : Int} {w w' : World} {v : Value} (h : OwnB w' w.heap.size v (firstB x 8)) (hb : Below w.heap.size w w') : RBytes x w (.returned v) w' := by
  rw [firstB_all] at h
  have h' := h
  unfold OwnB at h'
  rw [bytesOf_len] at h'
  obtain ⟨g, cap, rfl⟩ := ownsRow_form h' (by omega)
  exact ⟨g, cap, rfl, h, hb⟩

set_option maxRecDepth 100000 in
theorem rbytes_any (x : Int) (w : World) (hx : W64 x) : Calls Try.prog 54 #[.int .u64 x] w (RBytes x w) := by
  obtain ⟨i0, hi, hz0, hz1, hz2⟩ := info_parts info8
  go_enter Try.func54, Try.ntmps54
  go_wp2
  go_loopw [3, 4] (fun v i wr => ∃ k : Nat, k ≤ 8 ∧ i = .int .i64 k ∧ OwnB wr w.heap.size v (firstB x k) ∧ Below w.heap.size w wr) (fun _ i _ => (8 - intOf i).toNat)
  case atStart => exact ⟨0, by omega, rfl, World.ownsRow_nil _ _ _ _, Below.refl _ _⟩
  case round =>
    obtain ⟨k, hk, rfl, ho, hb⟩ := hrel
    by_cases hlt : k < 8
    · have hl := firstB_len x k
      have HL := Lib.hid hl
      clear hl
      have hsz := hb.size
      have HO := Lib.hid ho
      clear ho
      go_wp2_with (first
        | (go_at_call 21; refine (rbyte_any _ _ _ hx).mono ?_; rintro e w' ⟨rfl, rfl⟩)
        | (at_builtin; refine wpList_append_own _ rfl _ _ 55 rfl w.heap.size 5 i0 (.int .u8 0) 1 1 Try.underlying55 hi hz0 hz1 hz2 rfl (by decide) _ _ _ rfl (World.ownsRow.alloc HO.out _) ⟨wr.heap.size, 0, none⟩ 1 1 [.int .u8 (byteF x (k : Int))] rfl rfl (cell_one_new _ _ _) ?c2 ?c3 ?c4 ?c5 ?_))
      case c2 => intro u hu; simp at hu; subst hu; rfl
      case c3 => rw [HL.out]; unfold maxLen; omega
      case c4 => rw [HL.out]; omega
      case c5 => simp; omega
      intro v' w1 hown' hgrow _
      have HN := Lib.hid (ownB_step (w := w) hown')
      have HB := Lib.hid ((hb.alloc hsz (.cells #[.int .u8 (byteF x (k : Int))] 5)).grown hgrow (by simp; omega) (fun q hq => (World.ownsRow.lt HO.out q hq).1))
      clear hown' hgrow
      go_wp2
      go_roundw
      case rel => exact ⟨k + 1, by omega, by go_num, HN.out, HB.out⟩
      case measure => simp [intOf]; omega
    · have e : k = 8 := by omega
      subst e
      have HO := Lib.hid ho
      clear ho
      go_wp2
      go_ret
      exact rbytes_end HO.out hb

/-- the bytes from the k-th on as a word -/
def dropW (zs : List Int) (k : Nat) : Int := wordOf (zs.drop k)

theorem dropW_step {zs : List Int} (h : U8s zs) (hl : zs.length = 8) {k : Nat} (hk : k < 8) :
    IntKind.u64.wrap (IntKind.u64.wrap (256 * dropW zs (k + 1)) + zs.getD k 0) = dropW zs k := by
  have u : ∀ m, U8s (zs.drop m) := fun m z hz => h z (List.mem_of_mem_drop hz)
  have e : dropW zs k = zs.getD k 0 + 256 * dropW zs (k + 1) := by
    unfold dropW
    rw [List.drop_eq_getElem_cons (by omega), getD_in _ (by omega)]; rfl
  obtain ⟨b0, b1⟩ := u8s_getD h k
  obtain ⟨d0, d1⟩ := w64_word (u k) (by rw [List.length_drop]; omega)
  change 0 ≤ dropW zs k at d0
  change dropW zs k < _ at d1
  obtain ⟨c0, _⟩ := word_bd _ (u (k + 1))
  change 0 ≤ dropW zs (k + 1) at c0
  rw [IntKind.wrap_u64, IntKind.wrap_u64]
  omega

theorem rfrom_not (A : Option Addr) (n c : Nat) (w : World) (hn : n ≠ 8) (hm : n ≤ maxLen) :
    Calls Try.prog 23 #[.slice A n c] w fun e w' => e = .returned (.tuple #[.int .u64 0, .int .i64 1]) ∧ w = w' := by
  unfold maxLen at hm
  have h8 : ((n : Int) != 8) = true := by simp; omega
  go_enter Try.func23, Try.ntmps23
  go_wp2
  go_ret2
  exact ⟨rfl, rfl⟩

theorem rfrom_yes (ad : Addr) (c : Nat) (zs : List Int) (w : World) (hu : U8s zs) (hl : zs.length = 8) (hc : ∀ k, k < 8 → w.cell? (ad.add k) = some (.int .u8 (zs.getD k 0))) :
    Calls Try.prog 23 #[.slice (some ad) 8 c] w fun e w' => e = .returned (.tuple #[.int .u64 (wordOf zs), .int .i64 0]) ∧ w = w' := by
  have HC := Lib.hid hc
  clear hc
  have HL := Lib.hid hl
  have H8 : Hid (dropW zs 8 = 0) := by
    have : dropW zs 8 = 0 := by unfold dropW; rw [List.drop_of_length_le (by omega)]; rfl
    exact this
  clear hl
  go_enter Try.func23, Try.ntmps23
  go_wp2
  go_loop [4, 5] (fun x i => ∃ j : Int, -1 ≤ j ∧ j ≤ 7 ∧ i = .int .i64 j ∧ x = .int .u64 (dropW zs (j + 1).toNat)) (fun _ i => (intOf i + 1).toNat)
  case atStart => exact ⟨7, by omega, by omega, rfl, by show _ = Value.int .u64 (dropW zs 8); rw [H8.out]⟩
  case round =>
    obtain ⟨j, h0, h1, rfl, rfl⟩ := hrel
    by_cases hge : 0 ≤ j
    · obtain ⟨k, rfl⟩ := Int.eq_ofNat_of_zero_le hge
      have hk : k < 8 := by omega
      have hc := HC.out k hk
      obtain ⟨b0, b1⟩ := u8s_getD hu k
      have hs := dropW_step hu HL.out hk
      generalize zs.getD k 0 = z at hc b0 b1 hs
      have e : ((k : Int) + 1).toNat = k + 1 := by omega
      rw [e]
      clear e
      replace hs := Lib.hid hs
      go_wp2
      go_round
      case rel => exact ⟨(k : Int) - 1, by omega, by omega, rfl, by rw [show ((k : Int) - 1 + 1).toNat = k by omega, ← hs.out]⟩
      case measure => simp [intOf]
    · have e : dropW zs (j + 1).toNat = wordOf zs := by unfold dropW; rw [show (j + 1).toNat = 0 by omega]; rfl
      have E := Lib.hid e
      clear e
      go_wp2
      go_ret2
      exact ⟨ret_pair E.out, rfl⟩

theorem u8s_set {zs : List Int} (h : U8s zs) {c : Int} (h0 : 0 ≤ c) (h1 : c < 256) (m : Nat) : U8s (zs.set m c) := by
  intro z hz
  rcases List.mem_or_eq_of_mem_set hz with hz | rfl
  · exact h z hz
  · exact ⟨h0, h1⟩

theorem word_set {x : Int} (hx : W64 x) {c : Int} (h0 : 0 ≤ c) (h1 : c < 256) {m : Nat} (hm : m < 8) : wordOf ((bytesOf x).set m c) = putF x m c := by
  have u := u8s_set (bytesOf_u8 hx) h0 h1 m
  have l : ((bytesOf x).set m c).length ≤ 8 := by simp [bytesOf_len]
  apply byte_ext (w64_word u l) (w64_put hx _ _)
  intro k hk
  rw [byte_word u l hk, byte_put hx h0 h1 _ hk]
  have e := bytesOf_get x hk
  simp only [List.getD] at e ⊢
  rw [List.getElem?_set]
  by_cases c : m = k
  · subst c; simp [bytesOf_len, hm]
  · rw [if_neg c, e, if_neg (by omega)]

theorem ownB_cells {w : World} {base g cap : Nat} {zs : List Int} (h : OwnB w base (.slice (some ⟨g, 0, none⟩) 8 cap) zs) (hl : zs.length = 8) : ∀ k, k < 8 → w.cell? ((⟨g, 0, none⟩ : Addr).add k) = some (.int .u8 (zs.getD k 0)) := by
  intro k hk
  unfold OwnB at h
  rw [hl] at h
  rw [add_at, h.cellAt k (by omega), List.getElem?_map, List.getElem?_eq_getElem (by omega), getD_in _ (by omega)]; rfl

theorem rput_no (x i c : Int) (w : World) (hx : W64 x) (h : i < 0 ∨ 7 < i) :
    Calls Try.prog 46 #[.int .u64 x, .int .i64 i, .int .u8 c] w fun e w' => e = .returned (.int .u64 (putF x i c)) ∧ Below w.heap.size w w' := by
  rw [put_no x c h]
  have E := Lib.hid (word_bytes hx)
  rcases h with h | h
  all_goals
    go_enter Try.func46, Try.ntmps46
    go_wp2_with fail
    refine (rbytes_any _ _ hx).mono ?_
    rintro e w1 ⟨g, cap, rfl, ho, hb⟩
    have HO := Lib.hid (ownB_cells ho (bytesOf_len x))
    clear ho
    go_wp2_with (first | (go_at_call 23; refine (rfrom_yes _ _ _ _ (bytesOf_u8 hx) (bytesOf_len x) HO.out).mono ?_; rintro e w' ⟨rfl, rfl⟩))
    go_ret
    exact ⟨ret_int E.out, hb⟩

theorem rput_yes (x c : Int) (m : Nat) (w : World) (hx : W64 x) (hm : m < 8) (h0 : 0 ≤ c) (h1 : c < 256) :
    Calls Try.prog 46 #[.int .u64 x, .int .i64 (m : Int), .int .u8 c] w fun e w' => e = .returned (.int .u64 (putF x m c)) ∧ Below w.heap.size w w' := by
  have E := Lib.hid (word_set hx h0 h1 hm)
  have HU := Lib.hid (u8s_set (bytesOf_u8 hx) h0 h1 m)
  go_enter Try.func46, Try.ntmps46
  go_wp2_with fail
  refine (rbytes_any _ _ hx).mono ?_
  rintro e w1 ⟨g, cap, rfl, ho, hb⟩
  have ho' := ho
  unfold OwnB at ho'
  rw [bytesOf_len] at ho'
  have hc : w1.cell? ⟨g, m, none⟩ = some (.int .u8 (byteF x (m : Int))) := by
    have := ownB_cells ho (bytesOf_len x) m hm
    rwa [add_at, bytesOf_get x hm] at this
  have hf := ho'.frozenAt m
  have hg : w.heap.size ≤ g := (ho'.lt g rfl).1
  have hs : OwnB (w1.setCell ⟨g, m, none⟩ (.int .u8 c)) w.heap.size (.slice (some ⟨g, 0, none⟩) 8 cap) ((bytesOf x).set m c) := by
    have := (ho'.stored m (.int .u8 c)).1
    unfold OwnB
    rw [List.length_set, bytesOf_len, List.map_set]
    exact this
  have HO := Lib.hid (ownB_cells hs (by rw [List.length_set, bytesOf_len]))
  have HL := Lib.hid (show ((bytesOf x).set m c).length = 8 by rw [List.length_set, bytesOf_len])
  clear ho ho' hs
  go_wp2_with (first | (go_at_call 23; refine (rfrom_yes _ _ _ _ HU.out HL.out HO.out).mono ?_; rintro e w' ⟨rfl, rfl⟩))
  go_ret
  exact ⟨ret_int E.out, hb.setCell hg _⟩

theorem rput_any (x i c : Int) (w : World) (hx : W64 x) (h0 : 0 ≤ c) (h1 : c < 256) :
    Calls Try.prog 46 #[.int .u64 x, .int .i64 i, .int .u8 c] w fun e w' => e = .returned (.int .u64 (putF x i c)) ∧ Below w.heap.size w w' := by
  by_cases h : i < 0 ∨ 7 < i
  · exact rput_no x i c w hx h
  · obtain ⟨m, rfl⟩ := Int.eq_ofNat_of_zero_le (show 0 ≤ i by omega)
    exact rput_yes x c m w hx (by omega) h0 h1

theorem cut_zero (x f : Int) : cutF x f (0 : Nat) = 0 := by unfold cutF; rw [hasB_no (by omega)]; rfl
theorem lay_zero (x f v : Int) : layF x f (0 : Nat) v = x := by unfold layF; rw [hasB_no (by omega)]; rfl

theorem cut_step {x : Int} (hx : W64 x) {f n : Int} (h : hasB f n = true) {k : Nat} (hk : (k : Int) < n) : putF (cutF x f k) k (byteF x (f + k)) = cutF x f (k + 1 : Nat) := by
  obtain ⟨h0, h1, h2⟩ := hasB_bd h
  obtain ⟨b0, b1⟩ := byte_lt x (f + k) hx
  apply byte_ext (w64_put (w64_cut _ _ _) _ _) (w64_cut _ _ _)
  intro j hj
  rw [byte_put (w64_cut _ _ _) b0 b1 _ hj, byte_cut hx _ _ hj, byte_cut hx _ _ hj, hasB_mk (f := f) (n := (k + 1 : Nat)) h0 (by omega) (by omega)]
  by_cases e : j = k
  · subst e; simp; intro hh; omega
  · rw [if_neg (by omega)]
    by_cases c : j < k
    · have hb : hasB f (k : Nat) = true := hasB_mk h0 (by omega) (by omega)
      rw [hb, if_pos (by simp; omega), if_pos (by simp; omega)]
    · rw [if_neg (by simp; omega), if_neg (by simp; omega)]

theorem lay_step {x v : Int} (hx : W64 x) (hv : W64 v) {f n : Int} (h : hasB f n = true) {k : Nat} (hk : (k : Int) < n) : putF (layF x f k v) (f + k) (byteF v k) = layF x f (k + 1 : Nat) v := by
  obtain ⟨h0, h1, h2⟩ := hasB_bd h
  obtain ⟨b0, b1⟩ := byte_lt v k hv
  apply byte_ext (w64_put (w64_lay hx _ _ _) _ _) (w64_lay hx _ _ _)
  intro j hj
  rw [byte_put (w64_lay hx _ _ _) b0 b1 _ hj, byte_lay hx hv _ _ hj, byte_lay hx hv _ _ hj, hasB_mk (f := f) (n := (k + 1 : Nat)) h0 (by omega) (by omega)]
  by_cases e : (j : Int) = f + k
  · rw [if_pos e, if_pos (by simp; omega), show (j : Int) - f = k by omega]
  · rw [if_neg e]
    by_cases c : f ≤ (j : Int) ∧ (j : Int) < f + k
    · have hb : hasB f (k : Nat) = true := hasB_mk h0 (by omega) (by omega)
      rw [hb, if_pos (by simp; omega), if_pos (by simp; omega)]
    · rw [if_neg (by simp; omega), if_neg (by simp; omega)]

end Go.Proofs.Ytfakfmefjfemhaa
