/- Several texts of ours in one: Hf, Hg, Gc. -/
import Derived.Test.YtopmmlcjlopmaaaGreatDoorGHcEbHd
import Derived.Test.YtopmmlcjlopmaaaGreatDoorGMeEmEa
import Derived.BigQuiet
import Derived.Test.YtopmmlcjlopmaaaGreatDoorGRfSmHe
import Derived.Test.YtopmmlcjlopmaaaGreatDoorGHaGmGa
/- Words that are written: At, Near, built of the law's own; tiny. -/
namespace Go.Proofs.YtopmmlcjlopmaaaGreatDoor
set_option linter.unusedVariables false
set_option linter.unusedSimpArgs false
open Go.ChangeShapes Go.WideShapes Go.ChangeAt Go.RowKit Go.Joins

/-- a written word's slot, and the word -/
def atS (sl : Int) : Int := sl / 8 % 16 * 4096 + 8 * (sl % 8)
def atX (fr fl mo : Int) : Int := bits .xor .u64 (fr % 16 * 4096 + fl % 8 + (if 24 ≤ fl % 32 then 128 else 0)) mo
theorem atS_bd (sl : Int) : 0 ≤ atS sl ∧ atS sl < 65536 ∧ atS sl % 8 = 0 := by unfold atS; omega
theorem atS_w (sl : Int) : W64 (atS sl) := by have := atS_bd sl; unfold W64; omega
theorem atX_w (fr fl mo : Int) : W64 (atX fr fl mo) := w64_bits _ _ _
abbrev putV (sl fr fl mo : Int) : Value := .agg #[.int .u16 sl, .int .u16 fr, .int .u8 fl, .int .u64 mo]

theorem wrap16 {a : Int} (h0 : 0 ≤ a) (h1 : a < 65536) : IntKind.u16.wrap a = a := by
  show a % 65536 = a
  omega
theorem wrap8 {a : Int} (h0 : 0 ≤ a) (h1 : a < 256) : IntKind.u8.wrap a = a := by
  show a % 256 = a
  omega

set_option maxRecDepth 100000 in
set_option maxHeartbeats 1600000 in
theorem at_any (sl fr fl mo : Int) (w : World) (s0 : 0 ≤ sl) (s1 : sl < 65536) (f0 : 0 ≤ fr) (f1 : fr < 65536) (l0 : 0 ≤ fl) (l1 : fl < 256) :
    Calls Tryz.prog 25 #[putV sl fr fl mo] w fun e w' => e = .returned (.tuple #[.int .u64 (atS sl), .int .u64 (atX fr fl mo)]) ∧ Below w.heap.size w w' := by
  obtain ⟨q, hq⟩ : ∃ q, sl / 8 = q := ⟨_, rfl⟩
  obtain ⟨r, hr⟩ : ∃ r, q % 16 = r := ⟨_, rfl⟩
  obtain ⟨t, ht⟩ : ∃ t, r * 4096 = t := ⟨_, rfl⟩
  obtain ⟨p, hp⟩ : ∃ p, sl % 8 = p := ⟨_, rfl⟩
  obtain ⟨k, hk⟩ : ∃ k, 8 * p = k := ⟨_, rfl⟩
  obtain ⟨a, ha⟩ : ∃ a, t + k = a := ⟨_, rfl⟩
  obtain ⟨b, hb⟩ : ∃ b, fr % 16 = b := ⟨_, rfl⟩
  obtain ⟨c, hc⟩ : ∃ c, b * 4096 = c := ⟨_, rfl⟩
  obtain ⟨d, hd⟩ : ∃ d, fl % 8 = d := ⟨_, rfl⟩
  obtain ⟨g, hg⟩ : ∃ g, c + d = g := ⟨_, rfl⟩
  obtain ⟨o, ho⟩ : ∃ o, fl % 32 = o := ⟨_, rfl⟩
  have e1 : sl.tdiv 8 = q := by rw [Int.tdiv_eq_ediv_of_nonneg s0, hq]
  have e2 : IntKind.u16.wrap q = q := wrap16 (by omega) (by omega)
  have e3 : IntKind.u64.wrap q = q := wrap_in (by omega) (by omega)
  have e4 : q.tmod 16 = r := by rw [Int.tmod_eq_emod_of_nonneg (by omega), hr]
  have e5 : IntKind.u64.wrap r = r := wrap_in (by omega) (by omega)
  have e6 : IntKind.u64.wrap t = t := wrap_in (by omega) (by omega)
  have e7 : IntKind.u64.wrap sl = sl := wrap_in (by omega) (by omega)
  have e8 : sl.tmod 8 = p := by rw [Int.tmod_eq_emod_of_nonneg s0, hp]
  have e9 : IntKind.u64.wrap p = p := wrap_in (by omega) (by omega)
  have e10 : IntKind.u64.wrap k = k := wrap_in (by omega) (by omega)
  have e11 : IntKind.u64.wrap a = a := wrap_in (by omega) (by omega)
  have e12 : IntKind.u64.wrap fr = fr := wrap_in (by omega) (by omega)
  have e13 : fr.tmod 16 = b := by rw [Int.tmod_eq_emod_of_nonneg f0, hb]
  have e14 : IntKind.u64.wrap b = b := wrap_in (by omega) (by omega)
  have e15 : IntKind.u64.wrap c = c := wrap_in (by omega) (by omega)
  have e16 : IntKind.u64.wrap fl = fl := wrap_in (by omega) (by omega)
  have e17 : fl.tmod 8 = d := by rw [Int.tmod_eq_emod_of_nonneg l0, hd]
  have e18 : IntKind.u64.wrap d = d := wrap_in (by omega) (by omega)
  have e19 : IntKind.u64.wrap g = g := wrap_in (by omega) (by omega)
  have e20 : fl.tmod 32 = o := by rw [Int.tmod_eq_emod_of_nonneg l0, ho]
  have e21 : IntKind.u8.wrap o = o := wrap8 (by omega) (by omega)
  have e22 : IntKind.u64.wrap (g + 128) = g + 128 := wrap_in (by omega) (by omega)
  have ES := Lib.hid (show atS sl = a by unfold atS; rw [hq, hr, ht, hp, hk, ha])
  by_cases h : 24 ≤ o
  · have EX := Lib.hid (show atX fr fl mo = bits .xor .u64 (g + 128) mo by unfold atX; rw [hb, hc, hd, hg, ho, if_pos h])
    clear hq hr hp hb hd ho
    rw [ES.out, EX.out]
    go_enter Tryz.func25, Tryz.ntmps25
    go_wp2
    go_quiet (fail)
    go_wp2
    go_ret2
    exact ⟨rfl, below_drewN (below_alloc1 _ _) _⟩
  · have EX := Lib.hid (show atX fr fl mo = bits .xor .u64 g mo by unfold atX; rw [hb, hc, hd, hg, ho, if_neg h]; simp)
    have h' : o < 24 := by omega
    clear hq hr hp hb hd ho h
    rw [ES.out, EX.out]
    go_enter Tryz.func25, Tryz.ntmps25
    go_wp2
    go_quiet (fail)
    go_wp2
    go_ret2
    exact ⟨rfl, below_drewN (below_alloc1 _ _) _⟩

/-- the slice's puts -/
def PutsIn (w : World) (A : Option Addr) (ds : List (Int × Int × Int × Int)) : Prop := ∀ k, k < ds.length → ∃ ad, A = some ad ∧ w.cell? (ad.add (k * 4)) = some (.int .u16 (ds.getD k (0, 0, 0, 0)).1) ∧ w.cell? ((ad.add (k * 4)).add 1) = some (.int .u16 (ds.getD k (0, 0, 0, 0)).2.1) ∧ w.cell? ((ad.add (k * 4)).add 2) = some (.int .u8 (ds.getD k (0, 0, 0, 0)).2.2.1) ∧ w.cell? ((ad.add (k * 4)).add 3) = some (.int .u64 (ds.getD k (0, 0, 0, 0)).2.2.2)
def PutsOk (ds : List (Int × Int × Int × Int)) : Prop := ∀ k, k < ds.length → (0 ≤ (ds.getD k (0, 0, 0, 0)).1 ∧ (ds.getD k (0, 0, 0, 0)).1 < 65536) ∧ (0 ≤ (ds.getD k (0, 0, 0, 0)).2.1 ∧ (ds.getD k (0, 0, 0, 0)).2.1 < 65536) ∧ (0 ≤ (ds.getD k (0, 0, 0, 0)).2.2.1 ∧ (ds.getD k (0, 0, 0, 0)).2.2.1 < 256)

def putSt (ds : List (Int × Int × Int × Int)) : Nat → (Int → Int)
  | 0 => fun _ => 0
  | k + 1 => storeS 16 (putSt ds k) (atS (ds.getD k (0, 0, 0, 0)).1) (atX (ds.getD k (0, 0, 0, 0)).2.1 (ds.getD k (0, 0, 0, 0)).2.2.1 (ds.getD k (0, 0, 0, 0)).2.2.2)
/-- how many are written -/
def mostP (ds : List (Int × Int × Int × Int)) : Nat := min ds.length 100

theorem puts_below {w w' : World} {A : Option Addr} {ds : List (Int × Int × Int × Int)} (h : PutsIn w A ds) (hb : Below w.heap.size w w') : PutsIn w' A ds := by
  intro k hk
  obtain ⟨ad, e, c0, c1, c2, c3⟩ := h k hk
  exact ⟨ad, e, (hb.cell (World.block_lt_of_cell? _ _ c0)).trans c0, (hb.cell (World.block_lt_of_cell? _ _ c1)).trans c1, (hb.cell (World.block_lt_of_cell? _ _ c2)).trans c2, (hb.cell (World.block_lt_of_cell? _ _ c3)).trans c3⟩

set_option maxRecDepth 100000 in
theorem built_any (w : World) (A : Option Addr) (c : Nat) (ds : List (Int × Int × Int × Int)) (hl : ds.length ≤ maxLen) (hd : PutsIn w A ds) (hok : PutsOk ds) :
    Calls Tryz.prog 8 #[.slice A ds.length c] w fun e w' => e = .returned (.pointer (some ⟨w.heap.size + 1, 0, none⟩)) ∧ Mem w' (From w.heap.size) (w.heap.size + 1) 16 (putSt ds (mostP ds)) [] 100 ∧ Below w.heap.size w w' := by
  unfold maxLen at hl
  go_enter Tryz.func8, Tryz.ntmps8
  go_wp2_with (go_at_call 24; refine (newMem_any 16 _ ⟨by decide, by decide⟩).mono ?_; rintro e w1 ⟨rfl, hM1, hB1⟩)
  go_loopw [4] (fun i wr => ∃ k : Nat, k ≤ mostP ds ∧ i = .int .i64 k ∧ Mem wr (From w.heap.size) (w.heap.size + 1) 16 (putSt ds k) [] k ∧ Below w.heap.size w wr) (fun i _ => (100 - intOf i).toNat)
  case atStart => exact ⟨0, Nat.zero_le _, rfl, hM1, hB1⟩
  case round =>
    obtain ⟨k, hk, rfl, hM, hB⟩ := hrel
    have hm0 : mostP ds ≤ 100 := by unfold mostP; omega
    have hm1 : mostP ds ≤ ds.length := by unfold mostP; omega
    by_cases hlt : k < mostP ds
    · obtain ⟨ad, rfl, c0, c1, c2, c3⟩ := puts_below hd hB k (by omega)
      obtain ⟨⟨s0, s1⟩, ⟨f0, f1⟩, l0, l1⟩ := hok k (by omega)
      have hF : putSt ds (k + 1) = storeS 16 (putSt ds k) (atS (ds.getD k (0, 0, 0, 0)).1) (atX (ds.getD k (0, 0, 0, 0)).2.1 (ds.getD k (0, 0, 0, 0)).2.2.1 (ds.getD k (0, 0, 0, 0)).2.2.2) := rfl
      have c1' : wr.cell? ⟨(ad.add (k * 4)).block, (ad.add (k * 4)).off + 1, none⟩ = some (.int .u16 (ds.getD k (0, 0, 0, 0)).2.1) := c1
      have c2' : wr.cell? ⟨(ad.add (k * 4)).block, (ad.add (k * 4)).off + 2, none⟩ = some (.int .u8 (ds.getD k (0, 0, 0, 0)).2.2.1) := c2
      have c3' : wr.cell? ⟨(ad.add (k * 4)).block, (ad.add (k * 4)).off + 3, none⟩ = some (.int .u64 (ds.getD k (0, 0, 0, 0)).2.2.2) := c3
      have hks : k < ds.length := by omega
      have h100 : (k : Int) < 100 := by omega
      generalize (ds.getD k (0, 0, 0, 0)).1 = sl at *
      generalize (ds.getD k (0, 0, 0, 0)).2.1 = fr at *
      generalize (ds.getD k (0, 0, 0, 0)).2.2.1 = fl at *
      generalize (ds.getD k (0, 0, 0, 0)).2.2.2 = mo at *
      have HF := Lib.hid hF
      have CA := fun w' => at_any sl fr fl mo w' s0 s1 f0 f1 l0 l1
      clear hF c1 c2 c3 hd hok s0 s1 f0 f1 l0 l1
      go_wp2_with (first | (go_at_call 25; refine (CA _).mono ?_; rintro e w2 ⟨rfl, hB2⟩; have hM2 := hM.kept hB2) | (go_at_call 26; refine (bstore hM2 (by omega) _ _ (atS_w _) (atX_w _ _ _)).mono ?_; rintro e w3 ⟨rfl, hM3, hB3⟩))
      rw [← HF.out] at hM3
      have RB := (hB.trans (hB2.mono hB.size)).trans hB3
      go_roundw
      case rel => exact ⟨k + 1, by omega, by go_num, hM3, RB⟩
      case measure => simp [intOf]; omega
    · have e : k = mostP ds := by omega
      by_cases h1 : k < ds.length
      · have h2 : k = 100 := by unfold mostP at e; omega
        subst h2
        go_wp2
        go_ret
        exact ⟨rfl, by rw [e] at hM; rw [← e]; rw [← e] at hM; exact hM, hB⟩
      · have h2 : ds.length ≤ k := by omega
        clear hd hok
        go_wp2
        go_ret
        exact ⟨rfl, by rw [← e]; exact hM.more (by omega), hB⟩

def tinyP : List (Int × Int × Int × Int) := [(0, 1, 7, 0), (8, 2, 7, 0), (16, 3, 7, 0), (24, 4, 7, 0)]

theorem tiny_ok : PutsOk tinyP := by
  intro k hk
  have hk4 : k < 4 := hk
  have : k = 0 ∨ k = 1 ∨ k = 2 ∨ k = 3 := by omega
  rcases this with rfl | rfl | rfl | rfl <;> decide
end Go.Proofs.YtopmmlcjlopmaaaGreatDoor
/- awake of layer 8. -/
namespace Go.Proofs.YtopmmlcjlopmaaaGreatDoor
set_option linter.unusedVariables false
set_option linter.unusedSimpArgs false
open Go.ChangeShapes Go.WideShapes Go.ChangeAt Go.RowKit Go.Joins

theorem w0 : W64 0 := ⟨by decide, by decide⟩

theorem from_not0 {B : Nat} (h : 1 < B) : ¬ From B 1 := fun h' => by have : B ≤ 1 := h'; omega

theorem wk_below {w wr : World} {B m : Nat} {M : Int} {f : Int → Int} {tr : List Int} {n : Nat} {G : Nat → Prop} (h : Wk w wr (From B) m M f tr n G) (hB : B ≤ w.heap.size) : Below B w wr := h.turn.below (fun _ hi => hi) hB

theorem shifts_under {w w' : World} {B : Nat} (hs : Shifts w) (hb : Below B w w') (hB : 1 < B) : Shifts w' :=
  shifts_turn hs (Turn.of_below hb) (by omega)
theorem size_shifts {w : World} (hs : Shifts w) : 1 < w.heap.size := World.block_lt_of_cell? _ _ hs.1

theorem Wk.below {w wr w3 : World} {F G : Nat → Prop} {m : Nat} {M : Int} {f : Int → Int} {tr : List Int} {n B : Nat} (h : Wk w wr F m M f tr n G) (hb : Below B wr w3) (hB : wr.heap.size ≤ B) : Wk w w3 F m M f tr n G :=
  h.quiet (hb.mono hB)

end Go.Proofs.YtopmmlcjlopmaaaGreatDoor
/- Contracts of package right: Code. -/
namespace Go.Proofs.YtopmmlcjlopmaaaGreatDoor
set_option linter.unusedVariables false
set_option linter.unusedSimpArgs false
open Go.ChangeShapes Go.WideShapes Go.ChangeAt Go.RowKit Go.Joins

theorem fet3 (smep nxe : Bool) : fetF 3 smep nxe = (smep || nxe) := rfl
theorem fet0 {k : Int} (smep nxe : Bool) (h : (k == 3) = false) : fetF k smep nxe = false := by unfold fetF; rw [h]; rfl

set_option maxHeartbeats 1600000 in
theorem code_any (k : Int) (user ac wp nxe smep smap p r : Bool) (w : World) :
    Calls Tryz.prog 68 #[accV k user ac, ctlV wp nxe smep smap, .bool p, .bool r] w fun e w' => e = .returned (.int .i64 (codeF p (k == 2) user r (fetF k smep nxe))) ∧ Below w.heap.size w w' := by
  have e := Lib.hid (code_or p (k == 2) user r (fetF k smep nxe))
  by_cases h3 : k = 3
  · subst h3
    rw [fet3] at e
    rw [fet3]
    cases smep
    · go_enter Tryz.func68, Tryz.ntmps68
      go_wp2
      go_quiet (first | (go_at_call 107; exact quietOf (part_any _ _ _)))
      go_wp2
      go_ret
      exact ⟨ret_int e.out, below_drewN (below2 _ _ _) _⟩
    · go_enter Tryz.func68, Tryz.ntmps68
      go_wp2
      go_quiet (first | (go_at_call 107; exact quietOf (part_any _ _ _)))
      go_wp2
      go_ret
      exact ⟨ret_int e.out, below_drewN (below2 _ _ _) _⟩
  · have c3 : (k == 3) = false := by simp [h3]
    rw [fet0 _ _ c3] at e
    rw [fet0 _ _ c3]
    clear h3
    go_enter Tryz.func68, Tryz.ntmps68
    go_wp2
    go_quiet (first | (go_at_call 107; exact quietOf (part_any _ _ _)))
    go_wp2
    go_ret
    exact ⟨ret_int e.out, below_drewN (below2 _ _ _) _⟩
end Go.Proofs.YtopmmlcjlopmaaaGreatDoor
