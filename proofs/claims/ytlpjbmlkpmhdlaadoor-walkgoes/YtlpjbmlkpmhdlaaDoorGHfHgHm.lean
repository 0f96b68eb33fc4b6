/- Several texts of ours in one: Hf, Hg, Hm. -/
import Derived.Test.YtlpjbmlkpmhdlaaDoorGHcEbHd
import Derived.Test.YtlpjbmlkpmhdlaaDoorGWmMdMe
import Derived.BigQuiet
import Derived.Test.YtlpjbmlkpmhdlaaDoorGRfSmHe
import Derived.Test.YtlpjbmlkpmhdlaaDoorGEmEaHa
import Derived.Test.YtlpjbmlkpmhdlaaDoorGVmRN
/- Words that are written: At, Near, built of the law's own; tiny. -/
namespace Go.Proofs.YtlpjbmlkpmhdlaaDoor
set_option linter.unusedVariables false
set_option linter.unusedSimpArgs false
open Go.ChangeShapes Go.WideShapes Go.ChangeAt Go.RowKit Go.Joins

/-- a written word's slot, and the word -/
def atS (sl : Int) : Int := sl / 8 % 16 * 4096 + 8 * (sl % 8)
def atX (fr fl mo : Int) : Int := bits .xor .u64 (fr % 16 * 4096 + fl % 8 + (if 24 ≤ fl % 32 then 128 else 0)) mo
def nearF (n : Int) : Int := n % 8 * 549755813888 + n / 8 % 8 * 1073741824 + n / 64 % 8 * 2097152 + n / 512 % 8 * 4096 + n / 4096 % 4096

theorem atS_bd (sl : Int) : 0 ≤ atS sl ∧ atS sl < 65536 ∧ atS sl % 8 = 0 := by unfold atS; omega
theorem atS_w (sl : Int) : W64 (atS sl) := by have := atS_bd sl; unfold W64; omega
theorem atS_err (sl : Int) : errS 16 (atS sl) = 0 := by
  have := atS_bd sl
  have e : sizeM 16 = 65536 := by decide
  unfold errS
  rw [if_neg (by omega), if_pos (by omega)]
theorem atX_w (fr fl mo : Int) : W64 (atX fr fl mo) := w64_bits _ _ _
theorem near_w (n : Int) : W64 (nearF n) := by unfold nearF W64; omega

abbrev putV (sl fr fl mo : Int) : Value := .agg #[.int .u16 sl, .int .u16 fr, .int .u8 fl, .int .u64 mo]

theorem wrap16 {a : Int} (h0 : 0 ≤ a) (h1 : a < 65536) : IntKind.u16.wrap a = a := by
  show a % 65536 = a
  omega
theorem wrap32 {a : Int} (h0 : 0 ≤ a) (h1 : a < 4294967296) : IntKind.u32.wrap a = a := by
  show a % 4294967296 = a
  omega
theorem wrap8 {a : Int} (h0 : 0 ≤ a) (h1 : a < 256) : IntKind.u8.wrap a = a := by
  show a % 256 = a
  omega

set_option maxRecDepth 100000 in
set_option maxHeartbeats 1600000 in
theorem at_any (sl fr fl mo : Int) (w : World) (s0 : 0 ≤ sl) (s1 : sl < 65536) (f0 : 0 ≤ fr) (f1 : fr < 65536) (l0 : 0 ≤ fl) (l1 : fl < 256) :
    Calls Tryd.prog 23 #[putV sl fr fl mo] w fun e w' => e = .returned (.tuple #[.int .u64 (atS sl), .int .u64 (atX fr fl mo)]) ∧ Below w.heap.size w w' := by
  obtain ⟨q, hq⟩ : ∃ q, sl / 8 = q := ⟨_, rfl⟩
  obtain ⟨r, hr⟩ : ∃ r, q % 16 = r := ⟨_, rfl⟩
  obtain ⟨t, ht⟩ : ∃ t, r * 4096 = t := ⟨_, rfl⟩
  obtain ⟨p, hp⟩ : ∃ p, sl % 8 = p := ⟨_, rfl⟩
  obtain ⟨k, hk⟩ : ∃ k, 8 * p = k := ⟨_, rfl⟩
  obtain ⟨a, ha⟩ : ∃ a, t + k = a := ⟨_, rfl⟩
  obtain ⟨b, hb⟩ : ∃ b, fr % 16 = b := ⟨_, rfl⟩
  obtain ⟨c, hc⟩ : ∃ c, b * 4096 = c := ⟨_, rfl⟩
  obtain ⟨d, hd⟩ : ∃ d, fl % 8 = d := ⟨_, rfl⟩
  obtain ⟨g, hg⟩ : ∃ g, c + d = g := ⟨_, rfl⟩
  obtain ⟨o, ho⟩ : ∃ o, fl % 32 = o := ⟨_, rfl⟩
  have e1 : sl.tdiv 8 = q := by rw [Int.tdiv_eq_ediv_of_nonneg s0, hq]
  have e2 : IntKind.u16.wrap q = q := wrap16 (by omega) (by omega)
  have e3 : IntKind.u64.wrap q = q := wrap_in (by omega) (by omega)
  have e4 : q.tmod 16 = r := by rw [Int.tmod_eq_emod_of_nonneg (by omega), hr]
  have e5 : IntKind.u64.wrap r = r := wrap_in (by omega) (by omega)
  have e6 : IntKind.u64.wrap t = t := wrap_in (by omega) (by omega)
  have e7 : IntKind.u64.wrap sl = sl := wrap_in (by omega) (by omega)
  have e8 : sl.tmod 8 = p := by rw [Int.tmod_eq_emod_of_nonneg s0, hp]
  have e9 : IntKind.u64.wrap p = p := wrap_in (by omega) (by omega)
  have e10 : IntKind.u64.wrap k = k := wrap_in (by omega) (by omega)
  have e11 : IntKind.u64.wrap a = a := wrap_in (by omega) (by omega)
  have e12 : IntKind.u64.wrap fr = fr := wrap_in (by omega) (by omega)
  have e13 : fr.tmod 16 = b := by rw [Int.tmod_eq_emod_of_nonneg f0, hb]
  have e14 : IntKind.u64.wrap b = b := wrap_in (by omega) (by omega)
  have e15 : IntKind.u64.wrap c = c := wrap_in (by omega) (by omega)
  have e16 : IntKind.u64.wrap fl = fl := wrap_in (by omega) (by omega)
  have e17 : fl.tmod 8 = d := by rw [Int.tmod_eq_emod_of_nonneg l0, hd]
  have e18 : IntKind.u64.wrap d = d := wrap_in (by omega) (by omega)
  have e19 : IntKind.u64.wrap g = g := wrap_in (by omega) (by omega)
  have e20 : fl.tmod 32 = o := by rw [Int.tmod_eq_emod_of_nonneg l0, ho]
  have e21 : IntKind.u8.wrap o = o := wrap8 (by omega) (by omega)
  have e22 : IntKind.u64.wrap (g + 128) = g + 128 := wrap_in (by omega) (by omega)
  have ES := Lib.hid (show atS sl = a by unfold atS; rw [hq, hr, ht, hp, hk, ha])
  by_cases h : 24 ≤ o
  · have EX := Lib.hid (show atX fr fl mo = bits .xor .u64 (g + 128) mo by unfold atX; rw [hb, hc, hd, hg, ho, if_pos h])
    clear hq hr hp hb hd ho
    rw [ES.out, EX.out]
    go_enter Tryd.func23, Tryd.ntmps23
    go_wp2
    go_quiet (fail)
    go_wp2
    go_ret2
    exact ⟨rfl, below_drewN (below_alloc1 _ _) _⟩
  · have EX := Lib.hid (show atX fr fl mo = bits .xor .u64 g mo by unfold atX; rw [hb, hc, hd, hg, ho, if_neg h]; simp)
    have h' : o < 24 := by omega
    clear hq hr hp hb hd ho h
    rw [ES.out, EX.out]
    go_enter Tryd.func23, Tryd.ntmps23
    go_wp2
    go_quiet (fail)
    go_wp2
    go_ret2
    exact ⟨rfl, below_drewN (below_alloc1 _ _) _⟩

set_option maxRecDepth 100000 in
theorem near_any (n : Int) (w : World) (n0 : 0 ≤ n) (n1 : n < 4294967296) :
    Calls Tryd.prog 26 #[.int .u32 n] w fun e w' => e = .returned (.int .u64 (nearF n)) ∧ w = w' := by
  obtain ⟨a, ha⟩ : ∃ a, n % 8 = a := ⟨_, rfl⟩
  obtain ⟨b, hb⟩ : ∃ b, n / 8 = b := ⟨_, rfl⟩
  obtain ⟨c, hc⟩ : ∃ c, b % 8 = c := ⟨_, rfl⟩
  obtain ⟨d, hd⟩ : ∃ d, n / 64 = d := ⟨_, rfl⟩
  obtain ⟨e, he⟩ : ∃ e, d % 8 = e := ⟨_, rfl⟩
  obtain ⟨f, hf⟩ : ∃ f, n / 512 = f := ⟨_, rfl⟩
  obtain ⟨g, hg⟩ : ∃ g, f % 8 = g := ⟨_, rfl⟩
  obtain ⟨h, hh⟩ : ∃ h, n / 4096 = h := ⟨_, rfl⟩
  obtain ⟨i, hi⟩ : ∃ i, h % 4096 = i := ⟨_, rfl⟩
  have E := Lib.hid (show nearF n = a * 549755813888 + c * 1073741824 + e * 2097152 + g * 4096 + i by unfold nearF; rw [ha, hb, hc, hd, he, hf, hg, hh, hi])
  have e1 : n.tmod 8 = a := by rw [Int.tmod_eq_emod_of_nonneg n0, ha]
  have e2 : n.tdiv 8 = b := by rw [Int.tdiv_eq_ediv_of_nonneg n0, hb]
  have e3 : b.tmod 8 = c := by rw [Int.tmod_eq_emod_of_nonneg (by omega), hc]
  have e4 : n.tdiv 64 = d := by rw [Int.tdiv_eq_ediv_of_nonneg n0, hd]
  have e5 : d.tmod 8 = e := by rw [Int.tmod_eq_emod_of_nonneg (by omega), he]
  have e6 : n.tdiv 512 = f := by rw [Int.tdiv_eq_ediv_of_nonneg n0, hf]
  have e7 : f.tmod 8 = g := by rw [Int.tmod_eq_emod_of_nonneg (by omega), hg]
  have e8 : n.tdiv 4096 = h := by rw [Int.tdiv_eq_ediv_of_nonneg n0, hh]
  have e9 : h.tmod 4096 = i := by rw [Int.tmod_eq_emod_of_nonneg (by omega), hi]
  have f1 : IntKind.u32.wrap a = a := wrap32 (by omega) (by omega)
  have f2 : IntKind.u32.wrap b = b := wrap32 (by omega) (by omega)
  have f3 : IntKind.u32.wrap c = c := wrap32 (by omega) (by omega)
  have f4 : IntKind.u32.wrap d = d := wrap32 (by omega) (by omega)
  have f5 : IntKind.u32.wrap e = e := wrap32 (by omega) (by omega)
  have f6 : IntKind.u32.wrap f = f := wrap32 (by omega) (by omega)
  have f7 : IntKind.u32.wrap g = g := wrap32 (by omega) (by omega)
  have f8 : IntKind.u32.wrap h = h := wrap32 (by omega) (by omega)
  have f9 : IntKind.u32.wrap i = i := wrap32 (by omega) (by omega)
  have g1 : IntKind.u64.wrap a = a := wrap_in (by omega) (by omega)
  have g3 : IntKind.u64.wrap c = c := wrap_in (by omega) (by omega)
  have g5 : IntKind.u64.wrap e = e := wrap_in (by omega) (by omega)
  have g7 : IntKind.u64.wrap g = g := wrap_in (by omega) (by omega)
  have g9 : IntKind.u64.wrap i = i := wrap_in (by omega) (by omega)
  have k1 : IntKind.u64.wrap (a * 549755813888) = a * 549755813888 := wrap_in (by omega) (by omega)
  have k2 : IntKind.u64.wrap (c * 1073741824) = c * 1073741824 := wrap_in (by omega) (by omega)
  have k3 : IntKind.u64.wrap (e * 2097152) = e * 2097152 := wrap_in (by omega) (by omega)
  have k4 : IntKind.u64.wrap (g * 4096) = g * 4096 := wrap_in (by omega) (by omega)
  have k5 : IntKind.u64.wrap (a * 549755813888 + c * 1073741824) = a * 549755813888 + c * 1073741824 := wrap_in (by omega) (by omega)
  have k6 : IntKind.u64.wrap (a * 549755813888 + c * 1073741824 + e * 2097152) = a * 549755813888 + c * 1073741824 + e * 2097152 := wrap_in (by omega) (by omega)
  have k7 : IntKind.u64.wrap (a * 549755813888 + c * 1073741824 + e * 2097152 + g * 4096) = a * 549755813888 + c * 1073741824 + e * 2097152 + g * 4096 := wrap_in (by omega) (by omega)
  have k8 : IntKind.u64.wrap (a * 549755813888 + c * 1073741824 + e * 2097152 + g * 4096 + i) = a * 549755813888 + c * 1073741824 + e * 2097152 + g * 4096 + i := wrap_in (by omega) (by omega)
  rw [E.out]
  clear ha hb hc hd he hf hg hh hi
  go_enter Tryd.func26, Tryd.ntmps26
  go_wp2
  go_ret
  exact ⟨rfl, rfl⟩

/-- the slice's puts -/
def PutsIn (w : World) (A : Option Addr) (ds : List (Int × Int × Int × Int)) : Prop := ∀ k, k < ds.length → ∃ ad, A = some ad ∧ w.cell? (ad.add (k * 4)) = some (.int .u16 (ds.getD k (0, 0, 0, 0)).1) ∧ w.cell? ((ad.add (k * 4)).add 1) = some (.int .u16 (ds.getD k (0, 0, 0, 0)).2.1) ∧ w.cell? ((ad.add (k * 4)).add 2) = some (.int .u8 (ds.getD k (0, 0, 0, 0)).2.2.1) ∧ w.cell? ((ad.add (k * 4)).add 3) = some (.int .u64 (ds.getD k (0, 0, 0, 0)).2.2.2)
def PutsOk (ds : List (Int × Int × Int × Int)) : Prop := ∀ k, k < ds.length → (0 ≤ (ds.getD k (0, 0, 0, 0)).1 ∧ (ds.getD k (0, 0, 0, 0)).1 < 65536) ∧ (0 ≤ (ds.getD k (0, 0, 0, 0)).2.1 ∧ (ds.getD k (0, 0, 0, 0)).2.1 < 65536) ∧ (0 ≤ (ds.getD k (0, 0, 0, 0)).2.2.1 ∧ (ds.getD k (0, 0, 0, 0)).2.2.1 < 256)

def putSt (ds : List (Int × Int × Int × Int)) : Nat → (Int → Int)
  | 0 => fun _ => 0
  | k + 1 => storeS 16 (putSt ds k) (atS (ds.getD k (0, 0, 0, 0)).1) (atX (ds.getD k (0, 0, 0, 0)).2.1 (ds.getD k (0, 0, 0, 0)).2.2.1 (ds.getD k (0, 0, 0, 0)).2.2.2)
/-- how many are written -/
def mostP (ds : List (Int × Int × Int × Int)) : Nat := min ds.length 100

theorem puts_below {w w' : World} {A : Option Addr} {ds : List (Int × Int × Int × Int)} (h : PutsIn w A ds) (hb : Below w.heap.size w w') : PutsIn w' A ds := by
  intro k hk
  obtain ⟨ad, e, c0, c1, c2, c3⟩ := h k hk
  exact ⟨ad, e, (hb.cell (World.block_lt_of_cell? _ _ c0)).trans c0, (hb.cell (World.block_lt_of_cell? _ _ c1)).trans c1, (hb.cell (World.block_lt_of_cell? _ _ c2)).trans c2, (hb.cell (World.block_lt_of_cell? _ _ c3)).trans c3⟩

set_option maxRecDepth 100000 in
theorem built_any (w : World) (A : Option Addr) (c : Nat) (ds : List (Int × Int × Int × Int)) (hl : ds.length ≤ maxLen) (hd : PutsIn w A ds) (hok : PutsOk ds) :
    Calls Tryd.prog 10 #[.slice A ds.length c] w fun e w' => e = .returned (.pointer (some ⟨w.heap.size + 1, 0, none⟩)) ∧ Mem w' (From w.heap.size) (w.heap.size + 1) 16 (putSt ds (mostP ds)) [] 100 ∧ Below w.heap.size w w' := by
  unfold maxLen at hl
  go_enter Tryd.func10, Tryd.ntmps10
  go_wp2_with (go_at_call 32; refine (newMem_any 16 _ ⟨by decide, by decide⟩).mono ?_; rintro e w1 ⟨rfl, hM1, hB1⟩)
  go_loopw [4] (fun i wr => ∃ k : Nat, k ≤ mostP ds ∧ i = .int .i64 k ∧ Mem wr (From w.heap.size) (w.heap.size + 1) 16 (putSt ds k) [] k ∧ Below w.heap.size w wr) (fun i _ => (100 - intOf i).toNat)
  case atStart => exact ⟨0, Nat.zero_le _, rfl, hM1, hB1⟩
  case round =>
    obtain ⟨k, hk, rfl, hM, hB⟩ := hrel
    have hm0 : mostP ds ≤ 100 := by unfold mostP; omega
    have hm1 : mostP ds ≤ ds.length := by unfold mostP; omega
    by_cases hlt : k < mostP ds
    · obtain ⟨ad, rfl, c0, c1, c2, c3⟩ := puts_below hd hB k (by omega)
      obtain ⟨⟨s0, s1⟩, ⟨f0, f1⟩, l0, l1⟩ := hok k (by omega)
      have hF : putSt ds (k + 1) = storeS 16 (putSt ds k) (atS (ds.getD k (0, 0, 0, 0)).1) (atX (ds.getD k (0, 0, 0, 0)).2.1 (ds.getD k (0, 0, 0, 0)).2.2.1 (ds.getD k (0, 0, 0, 0)).2.2.2) := rfl
      have c1' : wr.cell? ⟨(ad.add (k * 4)).block, (ad.add (k * 4)).off + 1, none⟩ = some (.int .u16 (ds.getD k (0, 0, 0, 0)).2.1) := c1
      have c2' : wr.cell? ⟨(ad.add (k * 4)).block, (ad.add (k * 4)).off + 2, none⟩ = some (.int .u8 (ds.getD k (0, 0, 0, 0)).2.2.1) := c2
      have c3' : wr.cell? ⟨(ad.add (k * 4)).block, (ad.add (k * 4)).off + 3, none⟩ = some (.int .u64 (ds.getD k (0, 0, 0, 0)).2.2.2) := c3
      have hks : k < ds.length := by omega
      have h100 : (k : Int) < 100 := by omega
      generalize (ds.getD k (0, 0, 0, 0)).1 = sl at *
      generalize (ds.getD k (0, 0, 0, 0)).2.1 = fr at *
      generalize (ds.getD k (0, 0, 0, 0)).2.2.1 = fl at *
      generalize (ds.getD k (0, 0, 0, 0)).2.2.2 = mo at *
      have HF := Lib.hid hF
      have CA := fun w' => at_any sl fr fl mo w' s0 s1 f0 f1 l0 l1
      clear hF c1 c2 c3 hd hok s0 s1 f0 f1 l0 l1
      go_wp2_with (first | (go_at_call 23; refine (CA _).mono ?_; rintro e w2 ⟨rfl, hB2⟩; have hM2 := hM.kept hB2) | (go_at_call 25; refine (bstore hM2 (by omega) _ _ (atS_w _) (atX_w _ _ _)).mono ?_; rintro e w3 ⟨rfl, hM3, hB3⟩))
      rw [← HF.out] at hM3
      have RB := (hB.trans (hB2.mono hB.size)).trans hB3
      go_roundw
      case rel => exact ⟨k + 1, by omega, by go_num, hM3, RB⟩
      case measure => simp [intOf]; omega
    · have e : k = mostP ds := by omega
      by_cases h1 : k < ds.length
      · have h2 : k = 100 := by unfold mostP at e; omega
        subst h2
        go_wp2
        go_ret
        exact ⟨rfl, by rw [e] at hM; rw [← e]; rw [← e] at hM; exact hM, hB⟩
      · have h2 : ds.length ≤ k := by omega
        clear hd hok
        go_wp2
        go_ret
        exact ⟨rfl, by rw [← e]; exact hM.more (by omega), hB⟩

def tinyP : List (Int × Int × Int × Int) := [(0, 1, 7, 0), (8, 2, 7, 0), (16, 3, 7, 0), (24, 4, 7, 0)]

theorem tiny_any (w : World) :
    Calls Tryd.prog 33 #[] w fun e w' => e = .returned (.slice (some ⟨w.heap.size, 0, none⟩) 4 4) ∧ PutsIn w' (some ⟨w.heap.size, 0, none⟩) tinyP ∧ Below w.heap.size w w' := by
  go_enter Tryd.func33, Tryd.ntmps33
  go_wp2
  go_ret
  refine ⟨rfl, ?_, below_alloc1 _ _⟩
  intro k hk
  have hk4 : k < 4 := hk
  have : k = 0 ∨ k = 1 ∨ k = 2 ∨ k = 3 := by omega
  rcases this with rfl | rfl | rfl | rfl <;> exact ⟨_, rfl, by simp [Addr.add, tinyP], by simp [Addr.add, tinyP], by simp [Addr.add, tinyP], by simp [Addr.add, tinyP]⟩
theorem tiny_ok : PutsOk tinyP := by
  intro k hk
  have hk4 : k < 4 := hk
  have : k = 0 ∨ k = 1 ∨ k = 2 ∨ k = 3 := by omega
  rcases this with rfl | rfl | rfl | rfl <;> decide
end Go.Proofs.YtlpjbmlkpmhdlaaDoor
/- awake of layer 8. -/
namespace Go.Proofs.YtlpjbmlkpmhdlaaDoor
set_option linter.unusedVariables false
set_option linter.unusedSimpArgs false
open Go.ChangeShapes Go.WideShapes Go.ChangeAt Go.RowKit Go.Joins

theorem aw8a : walkZ 16 (fun _ => 0) 0 true 4 (tableF 4096) true true true = ⟨[(4, 4096, 0)], 1, false, false, false, 0, 0⟩ := by kernel_rfl
theorem aw8b : walkZ 16 (putSt tinyP 4) 0 true 4 (tableF 0) true true true = ⟨[(4, 0, 4103), (3, 4096, 8199), (2, 8192, 12295), (1, 12288, 16391)], 0, true, true, true, 1, 16384⟩ := by kernel_rfl

theorem w4096 : W64 4096 := ⟨by decide, by decide⟩
theorem w0 : W64 0 := ⟨by decide, by decide⟩

theorem from_not0 {B : Nat} (h : 0 < B) : ¬ From B 0 := fun h' => by have : B ≤ 0 := h'; omega

theorem wk_below {w wr : World} {B m : Nat} {M : Int} {f : Int → Int} {tr : List Int} {n : Nat} {G : Nat → Prop} (h : Wk w wr (From B) m M f tr n G) (hB : B ≤ w.heap.size) : Below B w wr := h.turn.below (fun _ hi => hi) hB

theorem shifts_under {w w' : World} {B : Nat} (hs : Shifts w) (hb : Below B w w') (hB : 0 < B) : Shifts w' :=
  shifts_turn hs (Turn.of_below hb) (by omega)
theorem size_shifts {w : World} (hs : Shifts w) : 0 < w.heap.size := World.block_lt_of_cell? _ _ hs.1

theorem Wk.below {w wr w3 : World} {F G : Nat → Prop} {m : Nat} {M : Int} {f : Int → Int} {tr : List Int} {n B : Nat} (h : Wk w wr F m M f tr n G) (hb : Below B wr w3) (hB : wr.heap.size ≤ B) : Wk w w3 F m M f tr n G :=
  h.quiet (hb.mono hB)

set_option maxRecDepth 100000 in
set_option maxHeartbeats 3200000 in
theorem awake8_any (w : World) (hs : Shifts w) :
    Calls Tryd.prog 9 #[] w fun e w' => e = .returned (.bool true) ∧ Below w.heap.size w w' := by
  have HS := Lib.hid hs
  have hz := size_shifts hs
  clear hs
  go_enter Tryd.func9, Tryd.ntmps9
  go_upto_region 5 with (first | (go_at_call 32; refine (newMem_any 16 _ ⟨by decide, by decide⟩).mono ?_; rintro e w1 ⟨rfl, hM1, hB1⟩; have HM1 := Lib.hid hM1; have HB1 := Lib.hid hB1; clear hM1 hB1) | (go_at_call 19; refine (top_any 4096 _ w4096).mono ?_; rintro e w2 ⟨rfl, hB2⟩; have HM2 := Lib.hid (HM1.out.kept hB2); have HB2 := Lib.hid (HB1.out.trans (hB2.mono HB1.out.size)); have HS2 := Lib.hid (shifts_under HS.out HB2.out hz); clear hB2) | (go_at_call 12; refine (from_any HM2.out (by decide) (from_not0 hz) HS2.out 4 (tableF 4096) 0 true true true true (w64_table _) w0).mono ?_; rw [aw8a]; rintro e w3 ⟨v, G, rfl, hW3, hS3, hn3, hsh3⟩; obtain ⟨A, c, rfl⟩ := hS3.form; have HW3 := Lib.hid hW3; have HS3 := Lib.hid hS3; have HN3 := Lib.hid hn3; have HSh3 := Lib.hid hsh3; clear hW3 hS3 hn3 hsh3))
  generalize hw4 : w3.alloc _ = w4
  have HP4 : Hid (Blk w4 w3.heap.size #[.slice A 1 c, .int .i64 1, .bool false, .bool false, .bool false, .int .i64 0, .int .u64 0] 38) := Lib.hid (by rw [← hw4]; exact Blk.new _ _ _)
  have hk4 : Below w3.heap.size w3 w4 := by rw [← hw4]; exact below_alloc1 _ _
  have HB4 := Lib.hid ((HB2.out.trans (wk_below HW3.out HB2.out.size)).trans (hk4.mono (Nat.le_trans HB2.out.size HW3.out.turn.size)))
  have HW4 := Lib.hid (HW3.out.quiet hk4)
  have HS4 := Lib.hid (HS3.out.below hk4)
  have HSh4 := Lib.hid (shifts_under HSh3.out hk4 (size_shifts HSh3.out))
  clear hw4 hk4 HW3 HS3 HSh3 HM1 HM2 HS2 HB1 HB2
  go_upto_region 6 with (first | (go_at_call 33; refine (tiny_any _).mono ?_; rintro e w5 ⟨rfl, hT5, hB5⟩; have HT5 := Lib.hid hT5; have HB5 := Lib.hid hB5; clear hT5 hB5) | (go_at_call 10; refine (built_any _ _ 4 tinyP (by decide) HT5.out tiny_ok).mono ?_; rintro e w6 ⟨rfl, hM6, hB6⟩; have HM6 := Lib.hid hM6; have HB6 := Lib.hid hB6; clear hM6 hB6))
  have hz5 : 0 < w5.heap.size := Nat.lt_of_lt_of_le HP4.out.lt HB5.out.size |> Nat.lt_of_le_of_lt (Nat.zero_le _)
  have HK6 := Lib.hid (HB5.out.trans (HB6.out.mono HB5.out.size))
  have HW6 := Lib.hid (HW4.out.quiet HK6.out)
  have HS6 := Lib.hid (HS4.out.below HK6.out)
  have HP6 := Lib.hid (HP4.out.below HK6.out)
  have HSh6 := Lib.hid (shifts_under HSh4.out HK6.out (size_shifts HSh4.out))
  have HB6' := Lib.hid (HB4.out.trans (HK6.out.mono HB4.out.size))
  have HP4l : Hid (w3.heap.size < w4.heap.size) := Lib.hid HP4.out.lt
  have HB4l : Hid (w.heap.size ≤ w4.heap.size) := Lib.hid HB4.out.size
  have HS4l : Hid (∀ i, (Value.slice A 1 c).ownBlock = some i → i < w4.heap.size) := Lib.hid (fun i hi => (HS4.out.lt hi).2)
  have HG4 : Hid (∀ i, G i → i < w4.heap.size) := Lib.hid (fun i hi => (HW4.out.foot i hi).1)
  clear HW4 HS4 HP4 HSh4 HB4
  go_upto_region 7 with (first | (go_at_call 19; refine (top_any 0 _ w0).mono ?_; rintro e w7 ⟨rfl, hB7⟩; have HK7 := Lib.hid hB7; have HM7 := Lib.hid (HM6.out.kept hB7); have HSh7 := Lib.hid (shifts_under HSh6.out hB7 (size_shifts HSh6.out)); clear hB7) | (go_at_call 12; refine (from_any HM7.out (by decide) (from_not0 hz5) HSh7.out 4 (tableF 0) 0 true true true true (w64_table _) w0).mono ?_; rw [show mostP tinyP = 4 from rfl, aw8b]; rintro e w8 ⟨v, G8, rfl, hW8, hS8, hn8, hsh8⟩; obtain ⟨A8, c8, rfl⟩ := hS8.form; have HW8 := Lib.hid hW8; have HS8 := Lib.hid hS8; have HSh8 := Lib.hid hsh8; clear hW8 hS8 hn8 hsh8))
  generalize hw9 : w8.alloc _ = w9
  have HQ9 : Hid (Blk w9 w8.heap.size #[.slice A8 4 c8, .int .i64 0, .bool true, .bool true, .bool true, .int .i64 1, .int .u64 16384] 38) := Lib.hid (by rw [← hw9]; exact Blk.new _ _ _)
  have hk9 : Below w8.heap.size w8 w9 := by rw [← hw9]; exact below_alloc1 _ _
  have hk8 : Below w5.heap.size w7 w8 := wk_below HW8.out (Nat.le_trans HB6.out.size HK7.out.size)
  have hk79 : Below w4.heap.size w6 w9 := ((HK7.out.mono HK6.out.size).trans (hk8.mono HB5.out.size)).trans (hk9.mono (Nat.le_trans HK6.out.size (Nat.le_trans HK7.out.size HW8.out.turn.size)))
  have hl3 : w3.heap.size < w4.heap.size := HP4l.out
  have HT9 : Turn (From w4.heap.size) w6 w9 := Turn.of_below hk79
  have HP9 := Lib.hid (HP6.out.turn HT9 (fun h => by have : w4.heap.size ≤ w3.heap.size := h; omega))
  have HS9 := Lib.hid (HS6.out.turn HT9 (fun i hi h => by have h1 := HS4l.out i hi; have h2 : w4.heap.size ≤ i := h; omega))
  have HW9 := Lib.hid (HW6.out.other HT9 (fun i hl h hg => by have h1 := HG4.out i hg; have h2 : w4.heap.size ≤ i := h; omega) (fun i h => Or.inl (Nat.le_trans HB4l.out h)))
  have HB9 := Lib.hid (HB6'.out.trans (hk79.mono HB4l.out))
  clear hw9 hk9 hk8 hk79 HT9 HP6 HS6 HW6 HB6'
  obtain ⟨p0, p1, p2, p3, p4, p5, p6⟩ := HP9.out.seven
  obtain ⟨r0, r1, r2, r3, r4, r5, r6⟩ := HQ9.out.seven
  obtain ⟨A', c', hv, hc⟩ := HS9.out.into
  obtain ⟨ad, hA, d0, d1, d2⟩ := hc 0 (by decide)
  obtain ⟨rfl, _, rfl⟩ : A = A' ∧ True ∧ c = c' := by simpa using hv
  subst hA
  have e0 : w9.cell? ⟨ad.block, ad.off + 1, none⟩ = some (.int .u64 4096) := by simpa [Addr.add] using d1
  clear hv hc d0 d1 d2
  go_wp2_with (first | (go_at_call 29; refine (mtrace_any HW9.out.mem (by decide)).mono ?_; rintro e wa ⟨v', rfl, hO', hB'⟩; obtain ⟨A'', c'', rfl⟩ := own_len hO'; have HBa := Lib.hid hB'; have HQa := Lib.hid (HQ9.out.below hB'); clear hB' hO' p0 p1 p2 p3 p4 p5 p6 r0 r1 r2 r3 r4 r5 r6; obtain ⟨r0, r1, r2, r3, r4, r5, r6⟩ := HQa.out.seven))
  go_ret
  exact ⟨rfl, HB9.out.trans (HBa.out.mono HB9.out.size)⟩
end Go.Proofs.YtlpjbmlkpmhdlaaDoor
/- What is true of every walk: its levels, its words, why it ended. Nothing of the program. -/
namespace Go.Proofs.YtlpjbmlkpmhdlaaDoor
set_option linter.unusedVariables false
set_option linter.unusedSimpArgs false

abbrev stepAt (S : List (Int × Int × Int)) (k : Nat) : Int × Int × Int := S.getD k (0, 0, 0)

theorem odd_bit {x : Int} (hx : W64 x) : bitF x 0 = decide (x % 2 = 1) := by
  have e := bit_nat hx (k := 0) (by decide)
  rw [show ((0 : Nat) : Int) = 0 from rfl] at e
  rw [e]
  unfold tb
  have h0 := hx.1
  rw [Nat.testBit_zero]
  by_cases h : x % 2 = 1
  · rw [decide_eq_true h, decide_eq_true (by omega)]
  · rw [decide_eq_false h, decide_eq_false (by omega)]

theorem bits16 {x : Int} (hx : W64 x) (h : hasF x (beyondF 16) = false) : tableF x < 65536 := by
  have e := has_get hx (lo := 16) (n := 36) (by decide) (by simpa [beyondF, lowB] using h)
  have h0 := hx.1
  have e' : x / 65536 % 68719476736 = 0 := by simpa using e
  unfold tableF
  omega

theorem res16 {x l : Int} {nxe : Bool} (hx : W64 x) (h : resF x l 16 nxe = false) : tableF x < 65536 := by
  apply bits16 hx
  unfold resF at h
  cases hh : hasF x (beyondF 16)
  · rfl
  · rw [hh] at h; simp at h

theorem frame_le (x l : Int) : 0 ≤ frameF x l ∧ frameF x l ≤ tableF x := by
  have h := table_bd x
  unfold frameF pageF
  split
  · have h1 : 0 ≤ lowF (tableF x) l ∧ lowF (tableF x) l ≤ tableF x := low_bd h.1 l
    omega
  · omega

theorem leaf4 {x : Int} : leafF x 4 = false := by unfold leafF; simp

structure Snd (f : Int → Int) (l : Int) (P : Pth) : Prop where
  len : (P.steps.length : Int) ≤ l
  lev : ∀ k, k < P.steps.length → (stepAt P.steps k).1 = l - k
  odd : ∀ k, k < P.steps.length → (stepAt P.steps k).2.2 % 2 = if k + 1 = P.steps.length ∧ P.why = 1 then 0 else 1
  off : P.why ≠ 0 → P.W = false ∧ P.U = false ∧ P.X = false ∧ P.lev = 0 ∧ P.fr = 0
  yes : P.why = 0 → P.lev = l + 1 - P.steps.length ∧ 1 ≤ P.lev ∧ P.lev ≤ 3 ∧ 0 ≤ P.fr ∧ P.fr < 65536
  kind : P.why = 0 ∨ P.why = 1 ∨ P.why = 2
  some : P.why ≠ 2 → 1 ≤ P.steps.length
  at_ : ∀ k, k < P.steps.length → errS 16 (stepAt P.steps k).2.1 = 0 ∧ (stepAt P.steps k).2.2 = f ((stepAt P.steps k).2.1 / 8) ∧ 0 ≤ (stepAt P.steps k).2.1

theorem snd_off2 (f : Int → Int) {l : Int} (hl : 0 ≤ l) : Snd f l (offP 2) :=
  ⟨hl, fun k hk => absurd hk (by simp [offP]), fun k hk => absurd hk (by simp [offP]), fun _ => ⟨rfl, rfl, rfl, rfl, rfl⟩, fun h => absurd h (by decide), Or.inr (Or.inr rfl), fun h => absurd rfl h, fun k hk => absurd hk (by simp [offP])⟩

section
variable {f : Int → Int} {l s x : Int} {Q : Pth}

theorem snd_cons (h : Snd f (l - 1) Q) (hx : x % 2 = 1) (he : errS 16 s = 0) (hs : 0 ≤ s) (hw : x = f (s / 8)) : Snd f l (preP [(l, s, x)] Q) := by
  have e : (preP [(l, s, x)] Q).steps.length = Q.steps.length + 1 := by simp [preP]
  have h0 : stepAt (preP [(l, s, x)] Q).steps 0 = (l, s, x) := rfl
  have hS : ∀ k, stepAt (preP [(l, s, x)] Q).steps (k + 1) = stepAt Q.steps k := fun k => by simp [preP, stepAt]
  refine ⟨?_, ?_, ?_, h.off, ?_, h.kind, ?_, ?_⟩
  · have := h.len; rw [e]; omega
  · intro k hk
    rcases k with _ | k
    · rw [h0]; simp
    · rw [hS]
      have := h.lev k (by omega)
      omega
  · intro k hk
    rcases k with _ | k
    · rw [h0, e]
      rw [if_neg]
      · exact hx
      · rintro ⟨h1, h2⟩
        have : 1 ≤ Q.steps.length := h.some (by rw [show Q.why = 1 from h2]; decide)
        omega
    · rw [hS, h.odd k (by omega), e]
      have : (k + 1 = Q.steps.length ∧ Q.why = 1) ↔ (k + 1 + 1 = Q.steps.length + 1 ∧ (preP [(l, s, x)] Q).why = 1) := by
        show _ ↔ (_ ∧ Q.why = 1)
        constructor <;> rintro ⟨a, b⟩ <;> exact ⟨by omega, b⟩
      by_cases c : k + 1 = Q.steps.length ∧ Q.why = 1
      · rw [if_pos c, if_pos (this.1 c)]
      · rw [if_neg c, if_neg (fun h => c (this.2 h))]
  · intro hy
    obtain ⟨a, b⟩ := h.yes hy
    refine ⟨?_, b⟩
    rw [e]
    show Q.lev = _
    rw [a]
    push_cast
    omega
  · intro _; rw [e]; omega
  · intro k hk
    rcases k with _ | k
    · rw [h0]; exact ⟨he, hw, hs⟩
    · rw [hS]; exact h.at_ k (by omega)

theorem snd_last {y : Int} {W U X : Bool} {lv fr : Int} (hl : 1 ≤ l) (hodd : x % 2 = if y = 1 then 0 else 1) (he : errS 16 s = 0) (hs : 0 ≤ s) (hw : x = f (s / 8)) (hy : y = 0 ∨ y = 1 ∨ y = 2)
    (hoff : y ≠ 0 → W = false ∧ U = false ∧ X = false ∧ lv = 0 ∧ fr = 0) (hyes : y = 0 → lv = l ∧ 1 ≤ lv ∧ lv ≤ 3 ∧ 0 ≤ fr ∧ fr < 65536) : Snd f l (preP [(l, s, x)] ⟨[], y, W, U, X, lv, fr⟩) := by
  have h0 : ∀ k, k < 1 → k = 0 := fun k hk => by omega
  refine ⟨by simpa [preP] using hl, ?_, ?_, hoff, ?_, hy, by simp [preP], ?_⟩
  · intro k hk
    obtain rfl := h0 k (by simpa [preP] using hk)
    simp [preP, stepAt]
  · intro k hk
    obtain rfl := h0 k (by simpa [preP] using hk)
    simpa [preP, stepAt] using hodd
  · intro h
    obtain ⟨a, b⟩ := hyes h
    refine ⟨?_, b⟩
    show lv = _
    simp [preP]
    omega
  · intro k hk
    obtain rfl := h0 k (by simpa [preP] using hk)
    exact ⟨he, hw, hs⟩
end

theorem walk_snd (f : Int → Int) (hw : ∀ s, W64 (f s)) (a : Int) (nxe : Bool) : ∀ (n : Nat), n ≤ 4 → ∀ (t : Int) (W U X : Bool), Snd f n (walkZ 16 f a nxe n t W U X)
  | 0, _, t, W, U, X => by
    rw [walk_off (by omega)]; exact snd_off2 f (by omega)
  | n + 1, hn, t, W, U, X => by
    rw [walk_in (by omega) (by omega)]
    by_cases he : errS 16 (slotF t a ((n + 1 : Nat) : Int)) = 0
    · rw [if_pos he]
      have hs := (slot_bd t a ((n + 1 : Nat) : Int)).1
      generalize slotF t a ((n + 1 : Nat) : Int) = s at *
      obtain ⟨x, hx⟩ : ∃ x, f (s / 8) = x := ⟨_, rfl⟩
      have hxw : W64 x := hx ▸ hw _
      rw [hx]
      cases hP : bitF x 0
      · rw [on_abs hP]
        rw [odd_bit hxw] at hP
        have : ¬ x % 2 = 1 := by simpa using hP
        have h0 := hxw.1
        exact snd_last (by omega) (by rw [if_pos rfl]; omega) he hs hx.symm (Or.inr (Or.inl rfl)) (fun _ => ⟨rfl, rfl, rfl, rfl, rfl⟩) (fun h => absurd h (by decide))
      · have hodd : x % 2 = 1 := by rw [odd_bit hxw] at hP; simpa using hP
        cases hR : resF x ((n + 1 : Nat) : Int) 16 nxe
        · cases hL : leafF x ((n + 1 : Nat) : Int)
          · rw [on_on hP hR hL, show (((n + 1 : Nat) : Int)) - 1 = (n : Int) by omega]
            refine snd_cons ?_ hodd he hs hx.symm
            rw [show (((n + 1 : Nat) : Int)) - 1 = (n : Int) by omega]
            exact walk_snd f hw a nxe n (by omega) _ _ _ _
          · rw [on_leaf hP hR hL]
            have h3 : n + 1 ≠ 4 := fun e => by rw [e] at hL; rw [show ((4 : Nat) : Int) = 4 from rfl, leaf4] at hL; cases hL
            have := frame_le x ((n + 1 : Nat) : Int)
            have := res16 hxw hR
            exact snd_last (by omega) (by rw [if_neg (by decide)]; exact hodd) he hs hx.symm (Or.inl rfl) (fun h => absurd rfl h) (fun _ => ⟨rfl, by omega, by omega, by omega, by omega⟩)
        · rw [on_res hP hR]
          exact snd_last (by omega) (by rw [if_neg (by decide)]; exact hodd) he hs hx.symm (Or.inr (Or.inr rfl)) (fun _ => ⟨rfl, rfl, rfl, rfl, rfl⟩) (fun h => absurd h (by decide))
    · rw [if_neg he]; exact snd_off2 f (by omega)

/-- a root's walk has a step -/
theorem root_step (f : Int → Int) (a : Int) (nxe : Bool) (r : Int) (h0 : 0 ≤ r) (h1 : r < 16) (W U X : Bool) : 1 ≤ (walkZ 16 f a nxe 4 (tableF (r * 4096)) W U X).steps.length := by
  have ht : tableF (tableF (r * 4096)) = r * 4096 := by rw [table_table]; unfold tableF; omega
  have hi := index_bd0 a 4
  have he : errS 16 (slotF (tableF (r * 4096)) a 4) = 0 := by
    have e : sizeM 16 = 65536 := by decide
    unfold errS slotF
    rw [ht, if_neg (by omega), if_pos (by omega)]
  rw [walk_in (by omega) (by omega), if_pos he]
  simp [preP]
end Go.Proofs.YtlpjbmlkpmhdlaaDoor
