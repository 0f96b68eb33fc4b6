/- The walk of MemCopies. -/
import Derived.Test.YtfakfmefjfemhaaDk
import Derived.Test.YtfakfmefjfemhaaL4b
import Derived.Deep.Cut
namespace Go.Proofs.Ytfakfmefjfemhaa
set_option linter.unusedVariables false
set_option linter.unusedSimpArgs false
open Go.ChangeShapes Go.WideShapes Go.ChangeAt Go.RowKit Go.Joins

/-- the blocks from B on, below C -/
def Foot (B C : Nat) : Nat → Prop := fun i => B ≤ i ∧ i < C

section
variable {w : World} {F F' : Nat → Prop} {B m m' : Nat} {M : Int} {f g : Int → Int} {tr tr' : List Int} {n n' : Nat}

theorem Mem.foot (h : Mem w (From B) m M f tr n) : Mem w (Foot B w.heap.size) m M f tr n := by
  obtain ⟨mb, v, D, h, hF⟩ := h
  exact ⟨mb, v, D, h, fun i hi => ⟨hF i hi, h.own_lt hi⟩⟩

theorem diff_mem (h : Mem w F m 16 f tr n) (h' : Mem w F' m' 16 g tr' n') (hn : n ≤ 100000) (hn' : n' ≤ 100000) :
    Calls Try.prog 24 #[.pointer (some ⟨m, 0, none⟩), .pointer (some ⟨m', 0, none⟩)] w fun e w' => ∃ A c ds, e = .returned (.slice A ds.length c) ∧ Lst w' w.heap.size (.slice A ds.length c) ds ∧ IsDif f g ds ∧ Below w.heap.size w w' := by
  obtain ⟨mb, v, D, h, hF⟩ := h
  obtain ⟨mb', v', D', h', hF'⟩ := h'
  exact diff_any w h h' hn hn'

theorem copy_mem (h : Mem w F m M f tr n) (hn : n ≤ 100000) :
    Calls Try.prog 26 #[.pointer (some ⟨m, 0, none⟩)] w fun e w' => e = .returned (.pointer (some ⟨w.heap.size + 1, 0, none⟩)) ∧ Mem w' (From w.heap.size) (w.heap.size + 1) M f [] n ∧ Below w.heap.size w w' := by
  obtain ⟨mb, v, D, h, hF⟩ := h
  exact copy_any h hn
end

theorem dif_one {f : Int → Int} {a x y : Int} (h2 : a % 8 = 0) (he : errS 16 a = 0) (hxy : x ≠ y) : IsDif (storeS 16 f a x) (storeS 16 f a y) [a] := by
  refine ⟨by simp, fun z => ?_⟩
  unfold storeS updF Dif
  simp only [he, if_true, List.mem_singleton]
  constructor
  · rintro rfl
    exact ⟨h2, by simpa using hxy⟩
  · rintro ⟨h3, h4⟩
    by_cases e : z / 8 = a / 8
    · omega
    · rw [if_neg e, if_neg e] at h4
      exact absurd rfl h4

theorem u64_max : (if IntKind.u64.signed = true then (-1 : Int) else IntKind.u64.max) = 18446744073709551615 := by decide

theorem not_word {x : Int} (hx : W64 x) : W64 (bits .xor .u64 (if IntKind.u64.signed = true then -1 else IntKind.u64.max) x) ∧ bits .xor .u64 (if IntKind.u64.signed = true then -1 else IntKind.u64.max) x ≠ x := by
  rw [u64_max]
  have e : bits .xor .u64 18446744073709551615 x = ((BitVec.ofInt 64 18446744073709551615 ^^^ BitVec.ofInt 64 x).toNat : Int) := wrap_bv _
  refine ⟨?_, fun h => ?_⟩
  · rw [e]
    have := (BitVec.ofInt 64 18446744073709551615 ^^^ BitVec.ofInt 64 x).isLt
    exact ⟨by omega, by omega⟩
  · have := tb_xor (a := 18446744073709551615) (b := x) (by decide) hx.1 0
    rw [h, show tb 18446744073709551615 0 = true by decide +kernel] at this
    cases tb x 0 <;> simp at this

set_option maxRecDepth 100000 in
set_option maxHeartbeats 4000000 in
theorem memCopies_walk (A : Option Addr) (c : Nat) (ds : List (Int × Int × Int)) (p x : Int) (w : World) (hl : ds.length ≤ maxLen) (hd : DeedsIn w A ds) (hok : DeedsOk ds)
    (hp : 0 ≤ p ∧ p ≤ 65535) (hx : W64 x) :
    Calls Try.prog 7 #[.slice A ds.length c, .int .u16 p, .int .u64 x] w fun e w' => e = .returned (.bool true) ∧ Below w.heap.size w w' := by
  obtain ⟨s, a, e1, e2, s0, s1, a0, a1, a2⟩ := slot_of hp.1 hp.2
  obtain ⟨p0, p1⟩ := hp
  have ea := err16 a1 a2
  have HE := Lib.hid ea
  have HA2 := Lib.hid a2
  have HX := Lib.hid hx
  have HD := Lib.hid hd
  have HOK := Lib.hid hok
  clear hd hok a2 hx
  obtain ⟨f, hf⟩ : ∃ f, playF 16 ds (many ds) = f := ⟨_, rfl⟩
  obtain ⟨tr, ht⟩ : ∃ tr, playT 16 ds (many ds) = tr := ⟨_, rfl⟩
  have HR := Lib.hid (fun w' hb => run_any w' A c ds hl (deeds_below HD.out hb) HOK.out)
  rw [hf, ht] at HR
  clear hf ht
  go_enter Try.func7, Try.ntmps7
  go_upto_region 8 with (first | (go_at_call 9; refine (awake4_any _).mono ?_; rintro e w1 ⟨rfl, hB1⟩; have HB1 := Lib.hid hB1; clear hB1) | (go_at_call 16; refine (HR.out _ HB1.out).mono ?_; rintro e w2 ⟨rfl, hM2, hB2⟩; have HM2 := Lib.hid hM2.foot; have HB2 := Lib.hid (HB1.out.trans (hB2.mono HB1.out.size)); have hs1 : w1.heap.size ≤ w2.heap.size := hB2.size; clear hB2 hM2) | (go_at_call 26; refine (copy_mem HM2.out (by decide)).mono ?_; rintro e w3 ⟨rfl, hC3, hB3⟩; have HC3 := Lib.hid hC3; have HM3 := Lib.hid (HM2.out.kept hB3); have HB3 := Lib.hid (HB2.out.trans (hB3.mono HB2.out.size)); clear hB3 hC3))
  obtain ⟨m, hm⟩ : ∃ m, w1.heap.size + 1 = m := ⟨_, rfl⟩
  obtain ⟨d, hd⟩ : ∃ d, w2.heap.size + 1 = d := ⟨_, rfl⟩
  rw [hm] at HM3
  rw [hd] at HC3
  rw [hm, hd]
  have hw1 : w.heap.size ≤ w1.heap.size := HB1.out.size
  obtain ⟨B1, hb1⟩ : ∃ B1, w1.heap.size = B1 := ⟨_, rfl⟩
  obtain ⟨B2, hb2⟩ : ∃ B2, w2.heap.size = B2 := ⟨_, rfl⟩
  rw [hb1, hb2] at HM3
  rw [hb2] at HC3
  rw [hb1] at hw1 hs1
  rw [hb2] at hs1
  clear hm hd HM2 HB1 HB2 hb1 hb2
  go_upto_region 10 with (first | (go_at_call 24; refine (diff_mem HM3.out HC3.out (by decide) (by decide)).mono ?_; rintro e w4 ⟨A4, c4, d4, rfl, _, hI4, hB4⟩; obtain rfl := hI4.none; have HM4 := Lib.hid (HM3.out.kept hB4); have HC4 := Lib.hid (HC3.out.kept hB4); have HB4 := Lib.hid (HB3.out.trans (hB4.mono HB3.out.size)); clear hB4 hI4) | (go_at_call 14; refine (mtrace_any HC4.out (by decide)).mono ?_; rintro e w5 ⟨v5, rfl, hO5, hB5⟩; obtain ⟨A5, c5, rfl⟩ := own_len hO5; have HM5 := HM4.out.kept hB5; have HC5 := HC4.out.kept hB5; have HB5 := Lib.hid (HB4.out.trans (hB5.mono HB4.out.size)); clear hB5 hO5) | (go_at_call 15; with_reducible refine (mbits_any (by assumption)).mono ?_; rintro e w' ⟨rfl, rfl⟩))
  have HM5 := Lib.hid HM5
  have HC5 := Lib.hid HC5
  have ha : W64 a := w64_16 a0 a1
  have HA := Lib.hid ha
  clear HM3 HC3 HM4 HC4 HB3 HB4 ha
  go_upto_region 11 with (go_at_call 17; refine (mpeek_any HM5.out a HA.out).mono ?_; rintro e w' ⟨rfl, rfl⟩)
  go_upto_region 12 with (go_at_call 18; refine (bstore HC5.out (by decide) a x HA.out HX.out).mono ?_; rintro e w6 ⟨rfl, hC6, hB6⟩)
  have HC6 := Lib.hid hC6
  have HM6 := Lib.hid (HM5.out.turned (Turn.of_below hB6) (fun i _ hi hj => by have h1 := hi.2; omega))
  have HB6 := Lib.hid (HB5.out.trans (hB6.mono (by omega)))
  clear hC6 hB6 HM5 HC5 HB5
  go_upto_region 13 with (go_at_call 17; refine (mpeek_any HM6.out a HA.out).mono ?_; rintro e w' ⟨rfl, rfl⟩)
  obtain ⟨HN, HNE⟩ := not_word HX.out
  have HN := Lib.hid HN
  have HNE := Lib.hid HNE
  go_upto_region 14 with (go_at_call 18; refine (mstore_any HM6.out (by decide) a _ HA.out HN.out).mono ?_; rintro e w7 ⟨rfl, hM7, hT7⟩)
  have HM7 := Lib.hid hM7
  have HC7 := Lib.hid (HC6.out.turned hT7 (fun i _ hi hj => by have h1 : B2 ≤ i := hi; have h2 := hj.2; omega))
  have HB7 := Lib.hid (HB6.out.trans (hT7.below (B := w.heap.size) (fun i hi => Nat.le_trans hw1 hi.1) HB6.out.size))
  have ep := peekV_store (x := x) (f := f) ea
  clear hM7 hT7 HM6 HC6 HB6
  go_upto_region 15 with (go_at_call 17; refine (mpeek_any HC7.out a HA.out).mono ?_; rintro e w' ⟨rfl, rfl⟩)
  have HI := Lib.hid (dif_one (f := f) HA2.out ea HNE.out)
  go_wp2_with (go_at_call 24; refine (diff_mem HM7.out HC7.out (by decide) (by decide)).mono ?_; rintro e w8 ⟨A8, c8, d8, rfl, _, hI8, hB8⟩; obtain rfl := hI8.same HI.out)
  go_ret
  exact ⟨rfl, HB7.out.trans (hB8.mono HB7.out.size)⟩

end Go.Proofs.Ytfakfmefjfemhaa
