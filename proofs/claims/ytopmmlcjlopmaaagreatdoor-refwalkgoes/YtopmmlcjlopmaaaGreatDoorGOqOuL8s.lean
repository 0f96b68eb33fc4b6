/- Several texts of ours in one: Oq, Ou, L8s. -/
import Derived.Test.YtopmmlcjlopmaaaGreatDoorGHfHgGc
import Derived.Test.YtopmmlcjlopmaaaGreatDoorGVaVrFr
import Derived.Deep.Slices
import Derived.Deep.Strs
import Derived.Deep.FieldsWide
import Derived.Test.YtopmmlcjlopmaaaGreatDoorGVmRN
import Derived.ProofKit
import Derived.OpenShut
import Derived.ChangeArms
import Derived.Test.YtopmmlcjlopmaaaGreatDoorGKaHmHn
import Derived.Test.YtopmmlcjlopmaaaGreatDoorGRlRsRp
/- A slice of puts that came in. -/
namespace Go.Proofs.YtopmmlcjlopmaaaGreatDoor
set_option linter.unusedVariables false
set_option linter.unusedSimpArgs false
open Go.ChangeShapes Go.WideShapes Go.ChangeAt Go.RowKit Go.Joins

section
variable {H : Type} {enc : TypeId × Value → H} {w : World} {base : Nat} {spare : Nat → Bool} {held : Bool}

theorem list4q {α : Type} {zs : List α} (h : zs.length = 4) : ∃ t u v x, zs = [t, u, v, x] := by
  match zs, h with
  | [t, u, v, x], _ => exact ⟨t, u, v, x, rfl⟩

abbrev Put4 (y : Int × Int × Int × Int) : Prop := (0 ≤ y.1 ∧ y.1 < 65536) ∧ (0 ≤ y.2.1 ∧ y.2.1 < 65536) ∧ (0 ≤ y.2.2.1 ∧ y.2.2.1 < 256)

set_option maxRecDepth 100000 in
theorem open_put {n : Nat} {cs : List Value} {x : DataW H × List MemPlace} (h : DataW.trod enc Tryz.prog w base spare held n 76 cs = some x) :
    ∃ y : Int × Int × Int × Int, cs = [.int .u16 y.1, .int .u16 y.2.1, .int .u8 y.2.2.1, .int .u64 y.2.2.2] ∧ Put4 y := by
  obtain ⟨y0, y1, y2, y3, m, _, hl, h0, h1, h2, h3⟩ := Joins.trod_struct4 Tryz.underlying76 h
  rw [show Tryz.prog.cellsOf 76 = 4 by kernel_rfl] at hl
  have e1 : Tryz.prog.cellsOf 74 = 1 := by kernel_rfl
  have e2 : Tryz.prog.cellsOf 5 = 1 := by kernel_rfl
  have e3 : Tryz.prog.cellsOf 23 = 1 := by kernel_rfl
  obtain ⟨a, b, c, d, rfl⟩ := list4q hl
  simp [e1, e2, e3] at h0 h1 h2 h3
  obtain ⟨k, e4, _, w4⟩ := DataW.trod_int Tryz.underlying74 h0
  obtain ⟨p, e5, _, w5⟩ := DataW.trod_int Tryz.underlying74 h1
  obtain ⟨q, e6, _, w6⟩ := DataW.trod_int Tryz.underlying5 h2
  obtain ⟨r, e7, _, w7⟩ := DataW.trod_int Tryz.underlying23 h3
  simp at e4 e5 e6 e7
  subst e4 e5 e6 e7
  have b4 := bounds_u16 w4
  have b5 := bounds_u16 w5
  have b6 := bounds_u8 w6
  exact ⟨(k, p, q, r), rfl, ⟨b4.1, by show k < 65536; omega⟩, ⟨b5.1, by show p < 65536; omega⟩, ⟨b6.1, by show q < 256; omega⟩⟩

set_option maxRecDepth 100000 in
theorem open_puts {r : Reach} {b0 : Nat} {v : Value} {d : DataW H} {p : List MemPlace} (hv : Value.okWide Tryz.prog w r b0 22 v) (h : DataW.Trod enc Tryz.prog w base spare held 22 v d p) :
    ∃ A ds c, v = .slice A ds.length c ∧ ds.length ≤ maxLen ∧ PutsIn w A ds ∧ PutsOk ds := by
  obtain ⟨a, len, cap, rfl⟩ := okWide_slice Tryz.underlying22 hv
  obtain ⟨fuel, hf⟩ := h
  rcases Deep.open_slice Tryz.underlying22 hf with ⟨hcs, _⟩ | ⟨ad, len', cap', m, n, D, Pl, hcs, _, hl, hm, hmm, _, hel⟩
  · have e : Value.slice a len cap = .slice none 0 0 := by simpa [Value.cells] using hcs
    rw [e]
    exact ⟨none, [], 0, rfl, by simp [maxLen], fun k hk => absurd hk (by simp), fun k hk => absurd hk (by simp)⟩
  · have e : Value.slice a len cap = .slice (some ad) len' cap' := by simpa [Value.cells] using hcs
    rw [e]
    have e3 : Tryz.prog.cellsOf 76 = 4 := by kernel_rfl
    rw [e3] at hel
    have hle : len' ≤ m := by rw [hmm]; split <;> omega
    obtain ⟨g, hg⟩ := Deep.choose_lt (α := Int × Int × Int × Int) (n := len') (p := fun k y => (w.cell? (ad.add (k * 4)) = some (.int .u16 y.1) ∧ w.cell? ((ad.add (k * 4)).add 1) = some (.int .u16 y.2.1) ∧ w.cell? ((ad.add (k * 4)).add 2) = some (.int .u8 y.2.2.1) ∧ w.cell? ((ad.add (k * 4)).add 3) = some (.int .u64 y.2.2.2)) ∧ Put4 y) (fun k hk => by
      obtain ⟨cs', h1, h2⟩ := hel k (by omega)
      obtain ⟨y, rfl, w1⟩ := open_put h2
      obtain ⟨_, _, hc⟩ := World.cells?_some h1
      exact ⟨y, ⟨by simpa [Addr.add] using hc 0 (by omega), hc 1 (by omega), hc 2 (by omega), hc 3 (by omega)⟩, w1⟩)
    have hget : ∀ k, k < len' → ((List.range len').map g).getD k (0, 0, 0, 0) = g k := fun k hk => by simp [List.getD, hk]
    refine ⟨some ad, (List.range len').map g, cap', by simp, by simp; omega, fun k hk => ⟨ad, rfl, ?_⟩, fun k hk => ?_⟩
    · have hk' : k < len' := by simpa using hk
      rw [hget k hk']; exact (hg k hk').1
    · have hk' : k < len' := by simpa using hk
      rw [hget k hk']; exact (hg k hk').2
end

end Go.Proofs.YtopmmlcjlopmaaaGreatDoor
/- An access with a root and control bits, by value, as an argument. (Laid by tools/gen_ou.py.) -/
namespace Go.Proofs.YtopmmlcjlopmaaaGreatDoor
set_option linter.unusedVariables false
set_option linter.unusedSimpArgs false
open Go.ChangeShapes Go.WideShapes Go.ChangeAt Go.RowKit

theorem listN3 {α : Type} {zs : List α} (h : zs.length = 3) : ∃ x0 x1 x2, zs = [x0, x1, x2] := by
  match zs, h with
  | [x0, x1, x2], _ => exact ⟨x0, x1, x2, rfl⟩
theorem listN4 {α : Type} {zs : List α} (h : zs.length = 4) : ∃ x0 x1 x2 x3, zs = [x0, x1, x2, x3] := by
  match zs, h with
  | [x0, x1, x2, x3], _ => exact ⟨x0, x1, x2, x3, rfl⟩
theorem listN8 {α : Type} {zs : List α} (h : zs.length = 8) : ∃ x0 x1 x2 x3 x4 x5 x6 x7, zs = [x0, x1, x2, x3, x4, x5, x6, x7] := by
  match zs, h with
  | [x0, x1, x2, x3, x4, x5, x6, x7], _ => exact ⟨x0, x1, x2, x3, x4, x5, x6, x7, rfl⟩
theorem open_use_cq0 : Tryz.prog.cellsOf 25 = 3 := by kernel_rfl
theorem open_use_cq1 : Tryz.prog.cellsOf 27 = 4 := by kernel_rfl
theorem open_use_cq2 : Tryz.prog.cellsOf 4 = 1 := by kernel_rfl
theorem open_use_cq3 : Tryz.prog.cellsOf 3 = 1 := by kernel_rfl
theorem open_use_cq4 : Tryz.prog.cellsOf 23 = 1 := by kernel_rfl
theorem open_use_all : Tryz.prog.cellsOf 29 = 8 := by kernel_rfl

set_option maxRecDepth 100000 in
theorem open_use {H : Type} {enc : TypeId × Value → H} {w : World} {base : Nat} {spare : Nat → Bool} {held : Bool} {r : Reach} {b0 : Nat} {v : Value} {d : DataW H} {p : List MemPlace} (hv : Value.okWide Tryz.prog w r b0 29 v) (h : DataW.Trod enc Tryz.prog w base spare held 29 v d p) :
    ∃ (k0 : Int) (k1 : Int) (b0 : Bool) (b1 : Bool) (b2 : Bool) (b3 : Bool) (b4 : Bool) (b5 : Bool), v = .agg #[.int .u64 k0, .int .i64 k1, .bool b0, .bool b1, .bool b2, .bool b3, .bool b4, .bool b5] ∧ W64 k0 := by
  obtain ⟨cs, rfl, hsz, _⟩ : ∃ cs, v = .agg cs ∧ cs.size = Tryz.prog.cellsOf 29 ∧ Row.okWide Tryz.prog w r b0 29 cs := by
    simpa [Value.okWide, Tryz.underlying29] using hv
  obtain ⟨fuel, hf⟩ := h
  obtain ⟨cs⟩ := cs
  obtain ⟨c0, c1, c2, c3, c4, c5, c6, c7, rfl⟩ := listN8 (zs := cs) (by simpa using hsz.trans open_use_all)
  obtain ⟨xs0, m0, _, _, hl0, hxl0, hel0⟩ := DataW.trod_struct Tryz.underlying29 hf
  obtain ⟨y0_0, y0_1, y0_2, rfl⟩ := listN3 (zs := xs0) (by simpa using hxl0)
  have e0_0 := hel0 0 _ rfl
  have e0_1 := hel0 1 _ rfl
  have e0_2 := hel0 2 _ rfl
  simp [Value.cells, open_use_cq0, open_use_cq1, open_use_cq4] at e0_0 e0_1 e0_2
  obtain ⟨k0, g0_0, _, w0⟩ := DataW.trod_int Tryz.underlying23 e0_0
  obtain ⟨xs1, m1, _, _, hl1, hxl1, hel1⟩ := DataW.trod_struct Tryz.underlying25 e0_1
  obtain ⟨y1_0, y1_1, y1_2, rfl⟩ := listN3 (zs := xs1) (by simpa using hxl1)
  have e1_0 := hel1 0 _ rfl
  have e1_1 := hel1 1 _ rfl
  have e1_2 := hel1 2 _ rfl
  simp [Value.cells, open_use_cq2, open_use_cq3] at e1_0 e1_1 e1_2
  obtain ⟨k1, g1_0, _, w1⟩ := DataW.trod_int Tryz.underlying3 e1_0
  obtain ⟨b0, g1_1, _⟩ := DataW.trod_bool Tryz.underlying4 e1_1
  obtain ⟨b1, g1_2, _⟩ := DataW.trod_bool Tryz.underlying4 e1_2
  obtain ⟨xs2, m2, _, _, hl2, hxl2, hel2⟩ := DataW.trod_struct Tryz.underlying27 e0_2
  obtain ⟨y2_0, y2_1, y2_2, y2_3, rfl⟩ := listN4 (zs := xs2) (by simpa using hxl2)
  have e2_0 := hel2 0 _ rfl
  have e2_1 := hel2 1 _ rfl
  have e2_2 := hel2 2 _ rfl
  have e2_3 := hel2 3 _ rfl
  simp [Value.cells, open_use_cq2] at e2_0 e2_1 e2_2 e2_3
  obtain ⟨b2, g2_0, _⟩ := DataW.trod_bool Tryz.underlying4 e2_0
  obtain ⟨b3, g2_1, _⟩ := DataW.trod_bool Tryz.underlying4 e2_1
  obtain ⟨b4, g2_2, _⟩ := DataW.trod_bool Tryz.underlying4 e2_2
  obtain ⟨b5, g2_3, _⟩ := DataW.trod_bool Tryz.underlying4 e2_3
  simp at g0_0 g1_0 g1_1 g1_2 g2_0 g2_1 g2_2 g2_3
  subst g0_0 g1_0 g1_1 g1_2 g2_0 g2_1 g2_2 g2_3
  exact ⟨k0, k1, b0, b1, b2, b3, b4, b5, rfl, w64_of w0⟩
end Go.Proofs.YtopmmlcjlopmaaaGreatDoor
/- The walk of WalkSteps. -/
namespace Go.Proofs.YtopmmlcjlopmaaaGreatDoor
set_option linter.unusedVariables false
set_option linter.unusedSimpArgs false
open Go.ChangeShapes Go.WideShapes Go.ChangeAt Go.RowKit Go.Joins

/-- what lies where: the path's box, the steps, the trace -/
structure Sc (w0 wr : World) (b : Nat) (v vt : Value) (P : Pth) : Prop where
  box : Blk wr b (pathCells v P) 37
  steps : StepsIn wr v P.steps
  trace : WordsOwn wr vt (slotsP P.steps)
  below : Below w0.heap.size w0 wr

theorem Sc.quiet {w0 wr w3 : World} {b : Nat} {v vt : Value} {P : Pth} (h : Sc w0 wr b v vt P) (hb : Below wr.heap.size wr w3) : Sc w0 w3 b v vt P :=
  ⟨h.box.below hb, h.steps.below hb, own_below h.trace hb, h.below.trans (hb.mono h.below.size)⟩

end Go.Proofs.YtopmmlcjlopmaaaGreatDoor
