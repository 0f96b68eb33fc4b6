/- Several texts of ours in one: L4w, L4b, L4c. -/
import Derived.Test.YtlpjbmlkpmhdlaaDoorGDpWaWr
import Derived.Test.YtlpjbmlkpmhdlaaDoorGVaVrFr
import Derived.Deep.RegionWith
import Derived.Test.YtlpjbmlkpmhdlaaDoorGDiDcDk
import Derived.Deep.Cut
/- The walks of MemWords and MemBytes. -/
namespace Go.Proofs.YtlpjbmlkpmhdlaaDoor
set_option linter.unusedVariables false
set_option linter.unusedSimpArgs false
open Go.ChangeShapes Go.WideShapes Go.ChangeAt Go.RowKit Go.Joins

theorem size16 : sizeM 16 = 65536 := by decide
theorem err16 {a : Int} (h1 : a < 65536) (h2 : a % 8 = 0) : errS 16 a = 0 := by
  unfold errS; rw [size16, if_neg (by omega), if_pos h2]
theorem get16 {a : Int} (h1 : a < 65536) : getE 16 a = 0 := by
  unfold getE; rw [size16, if_neg (by omega)]
theorem peekV_store {M a x : Int} {f : Int → Int} (h : errS M a = 0) : peekV M (storeS M f a x) a = x := by
  unfold peekV storeS updF; simp [h]
theorem peekV_other {M a b x : Int} {f : Int → Int} (ha : errS M a = 0) (hb : errS M b = 0) (h : a ≠ b) : peekV M (storeS M f a x) b = peekV M f b := by
  have h1 := (errS_in ha).2
  have h2 := (errS_in hb).2
  unfold peekV storeS updF
  simp only [ha, hb, if_true]
  rw [if_neg (by omega)]
theorem getV_store {a x : Int} {f : Int → Int} (h0 : 0 ≤ a) (h1 : a < 65536) (h2 : a % 8 = 0) {k : Nat} (hk : k < 8) : getV 16 (storeS 16 f a x) (a + k) = byteF x k := by
  unfold getV storeS updF
  rw [size16, if_neg (by omega), err16 h1 h2]
  simp only [if_true]
  rw [if_pos (by omega), show (a + (k : Int)) % 8 = k by omega]

/-- a slot's address, as the law makes it of a number -/
theorem slot_of {p : Int} (h0 : 0 ≤ p) (h1 : p ≤ 65535) : ∃ s a : Int, p.tdiv 8 = s ∧ s * 8 = a ∧ 0 ≤ s ∧ s ≤ 8191 ∧ 0 ≤ a ∧ a < 65536 ∧ a % 8 = 0 :=
  ⟨p / 8, p / 8 * 8, Int.tdiv_eq_ediv_of_nonneg h0, rfl, by omega, by omega, by omega, by omega, by omega⟩

theorem w64_16 {a : Int} (h0 : 0 ≤ a) (h1 : a < 65536) : W64 a := ⟨h0, by omega⟩

theorem cellAlloc {w w' : World} {cs : Array Value} {t : TypeId} (hb : Below (w.alloc (.cells cs t)).heap.size (w.alloc (.cells cs t)) w') {i : Nat} {v : Value} (hv : cs[i]? = some v) : w'.cell? ⟨w.heap.size, i, none⟩ = some v := by
  rw [hb.cell (by simp)]
  have h := Deep.blk_alloc_new w (.cells cs t)
  simp only [World.cell?]
  rw [h]
  exact hv

end Go.Proofs.YtlpjbmlkpmhdlaaDoor
/- The walk of MemBytes. -/
namespace Go.Proofs.YtlpjbmlkpmhdlaaDoor
set_option linter.unusedVariables false
set_option linter.unusedSimpArgs false
open Go.ChangeShapes Go.WideShapes Go.ChangeAt Go.RowKit Go.Joins

/-- a word whose bytes from k on are those of zs -/
def mixB (o : Int) (zs : List Int) (k : Nat) : List Int := (List.range 8).map fun i : Nat => if k ≤ i then zs.getD i 0 else byteF o i
def mixW (o : Int) (zs : List Int) (k : Nat) : Int := wordOf (mixB o zs k)

theorem mixB_len (o : Int) (zs : List Int) (k : Nat) : (mixB o zs k).length = 8 := by simp [mixB]
theorem mixB_get (o : Int) (zs : List Int) (k : Nat) {i : Nat} (hi : i < 8) : (mixB o zs k).getD i 0 = if k ≤ i then zs.getD i 0 else byteF o i := by
  simp [mixB, List.getD, hi]
theorem mixB_u8 {o : Int} (ho : W64 o) {zs : List Int} (hz : U8s zs) (k : Nat) : U8s (mixB o zs k) := by
  intro z h
  simp only [mixB, List.mem_map, List.mem_range] at h
  obtain ⟨i, _, rfl⟩ := h
  split
  · exact u8s_getD hz i
  · exact byte_lt _ _ ho
theorem mix_all {o : Int} (ho : W64 o) {zs : List Int} (hz : U8s zs) (hl : zs.length = 8) : mixW o zs 0 = wordOf zs := by
  unfold mixW
  rw [list_ext8 (mixB_len o zs 0) hl (fun k hk => by rw [mixB_get _ _ _ hk, if_pos (Nat.zero_le _)])]
theorem mix_none {o : Int} (ho : W64 o) {zs : List Int} (hz : U8s zs) : mixW o zs 8 = o := by
  apply byte_ext (w64_word (mixB_u8 ho hz 8) (by rw [mixB_len]; omega)) ho
  intro k hk
  rw [byte_word (mixB_u8 ho hz 8) (by rw [mixB_len]; omega) hk, mixB_get _ _ _ hk, if_neg (by omega)]
theorem w64_mix {o : Int} (ho : W64 o) {zs : List Int} (hz : U8s zs) (k : Nat) : W64 (mixW o zs k) := w64_word (mixB_u8 ho hz k) (by rw [mixB_len]; omega)
theorem mix_put {o : Int} (ho : W64 o) {zs : List Int} (hz : U8s zs) {k : Nat} (hk : k < 8) : putF (mixW o zs (k + 1)) k (zs.getD k 0) = mixW o zs k := by
  have hu := u8s_getD hz k
  apply byte_ext (w64_put (w64_mix ho hz _) _ _) (w64_mix ho hz _)
  intro i hi
  rw [byte_put (w64_mix ho hz _) hu.1 hu.2 _ hi]
  unfold mixW
  rw [byte_word (mixB_u8 ho hz _) (by rw [mixB_len]; omega) hi, byte_word (mixB_u8 ho hz _) (by rw [mixB_len]; omega) hi, mixB_get _ _ _ hi, mixB_get _ _ _ hi]
  by_cases e : i = k
  · subst e
    rw [if_pos rfl, if_pos (Nat.le_refl _)]
  · rw [if_neg (by omega)]
    by_cases c : k ≤ i
    · rw [if_pos (by omega), if_pos c]
    · rw [if_neg (by omega), if_neg c]

theorem upd_same4 (f : Int → Int) (s : Int) : updF f s (f s) = f := by
  funext j
  unfold updF
  split
  · rename_i h; rw [h]
  · rfl
theorem upd_upd (f : Int → Int) (s x y : Int) : updF (updF f s x) s y = updF f s y := by
  funext j
  unfold updF
  split <;> rfl

theorem put_mix {f : Int → Int} (hf : ∀ s, W64 (f s)) {a : Int} (a0 : 0 ≤ a) (a1 : a ≤ 65528) (a2 : a % 8 = 0) {zs : List Int} (hz : U8s zs) {k : Nat} (hk : k < 8) :
    putS 16 (updF f (a / 8) (mixW (f (a / 8)) zs (k + 1))) (a + k) (zs.getD k 0) = updF f (a / 8) (mixW (f (a / 8)) zs k) := by
  unfold putS
  rw [size16, if_neg (by omega), show (a + (k : Int)) / 8 = a / 8 by omega, show (a + (k : Int)) % 8 = k by omega, upd_upd]
  rw [show updF f (a / 8) (mixW (f (a / 8)) zs (k + 1)) (a / 8) = mixW (f (a / 8)) zs (k + 1) by unfold updF; simp, mix_put (hf _) hz hk]

theorem cs_of {zs : List Int} (h : zs.length = 8) : ∀ k : Nat, k < 8 → ((zs.map (Value.int .u8)).toArray)[k]? = some (.int .u8 (zs.getD k 0)) := by
  intro k hk
  have hk' : k < zs.length := by omega
  simp [List.getD, List.getElem?_eq_getElem hk']

end Go.Proofs.YtlpjbmlkpmhdlaaDoor
/- The walk of MemCopies. -/
namespace Go.Proofs.YtlpjbmlkpmhdlaaDoor
set_option linter.unusedVariables false
set_option linter.unusedSimpArgs false
open Go.ChangeShapes Go.WideShapes Go.ChangeAt Go.RowKit Go.Joins

/-- the blocks from B on, below C -/
def Foot (B C : Nat) : Nat → Prop := fun i => B ≤ i ∧ i < C

section
variable {w : World} {F F' : Nat → Prop} {B m m' : Nat} {M : Int} {f g : Int → Int} {tr tr' : List Int} {n n' : Nat}

theorem Mem.foot (h : Mem w (From B) m M f tr n) : Mem w (Foot B w.heap.size) m M f tr n := by
  obtain ⟨mb, v, D, h, hF⟩ := h
  exact ⟨mb, v, D, h, fun i hi => ⟨hF i hi, h.own_lt hi⟩⟩

theorem diff_mem (h : Mem w F m 16 f tr n) (h' : Mem w F' m' 16 g tr' n') (hn : n ≤ 100000) (hn' : n' ≤ 100000) :
    Calls Tryd.prog 31 #[.pointer (some ⟨m, 0, none⟩), .pointer (some ⟨m', 0, none⟩)] w fun e w' => ∃ A c ds, e = .returned (.slice A ds.length c) ∧ Lst w' w.heap.size (.slice A ds.length c) ds ∧ IsDif f g ds ∧ Below w.heap.size w w' := by
  obtain ⟨mb, v, D, h, hF⟩ := h
  obtain ⟨mb', v', D', h', hF'⟩ := h'
  exact diff_any w h h' hn hn'

theorem copy_mem (h : Mem w F m M f tr n) (hn : n ≤ 100000) :
    Calls Tryd.prog 30 #[.pointer (some ⟨m, 0, none⟩)] w fun e w' => e = .returned (.pointer (some ⟨w.heap.size + 1, 0, none⟩)) ∧ Mem w' (From w.heap.size) (w.heap.size + 1) M f [] n ∧ Below w.heap.size w w' := by
  obtain ⟨mb, v, D, h, hF⟩ := h
  exact copy_any h hn
end

theorem dif_one {f : Int → Int} {a x y : Int} (h2 : a % 8 = 0) (he : errS 16 a = 0) (hxy : x ≠ y) : IsDif (storeS 16 f a x) (storeS 16 f a y) [a] := by
  refine ⟨by simp, fun z => ?_⟩
  unfold storeS updF Dif
  simp only [he, if_true, List.mem_singleton]
  constructor
  · rintro rfl
    exact ⟨h2, by simpa using hxy⟩
  · rintro ⟨h3, h4⟩
    by_cases e : z / 8 = a / 8
    · omega
    · rw [if_neg e, if_neg e] at h4
      exact absurd rfl h4

theorem u64_max : (if IntKind.u64.signed = true then (-1 : Int) else IntKind.u64.max) = 18446744073709551615 := by decide

theorem not_word {x : Int} (hx : W64 x) : W64 (bits .xor .u64 (if IntKind.u64.signed = true then -1 else IntKind.u64.max) x) ∧ bits .xor .u64 (if IntKind.u64.signed = true then -1 else IntKind.u64.max) x ≠ x := by
  rw [u64_max]
  have e : bits .xor .u64 18446744073709551615 x = ((BitVec.ofInt 64 18446744073709551615 ^^^ BitVec.ofInt 64 x).toNat : Int) := wrap_bv _
  refine ⟨?_, fun h => ?_⟩
  · rw [e]
    have := (BitVec.ofInt 64 18446744073709551615 ^^^ BitVec.ofInt 64 x).isLt
    exact ⟨by omega, by omega⟩
  · have := tb_xor (a := 18446744073709551615) (b := x) (by decide) hx.1 0
    rw [h, show tb 18446744073709551615 0 = true by decide +kernel] at this
    cases tb x 0 <;> simp at this

end Go.Proofs.YtlpjbmlkpmhdlaaDoor
