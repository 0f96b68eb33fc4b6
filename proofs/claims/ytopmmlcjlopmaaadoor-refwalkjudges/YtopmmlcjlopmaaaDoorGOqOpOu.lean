/- Several texts of ours in one: Oq, Op, Ou. -/
import Derived.Test.YtopmmlcjlopmaaaDoorGHfHgGc
import Derived.Test.YtopmmlcjlopmaaaDoorGVaVrFr
import Derived.Deep.Slices
import Derived.Deep.Strs
import Derived.Deep.FieldsWide
import Derived.Test.YtopmmlcjlopmaaaDoorGHsHvL9j
import Derived.Test.YtopmmlcjlopmaaaDoorGVmRN
import Derived.SizedLaws
import Derived.ProofKit
import Derived.OpenShut
import Derived.ChangeArms
/- A slice of puts that came in. -/
namespace Go.Proofs.YtopmmlcjlopmaaaDoor
set_option linter.unusedVariables false
set_option linter.unusedSimpArgs false
open Go.ChangeShapes Go.WideShapes Go.ChangeAt Go.RowKit Go.Joins

section
variable {H : Type} {enc : TypeId × Value → H} {w : World} {base : Nat} {spare : Nat → Bool} {held : Bool}

theorem list4q {α : Type} {zs : List α} (h : zs.length = 4) : ∃ t u v x, zs = [t, u, v, x] := by
  match zs, h with
  | [t, u, v, x], _ => exact ⟨t, u, v, x, rfl⟩

abbrev Put4 (y : Int × Int × Int × Int) : Prop := (0 ≤ y.1 ∧ y.1 < 65536) ∧ (0 ≤ y.2.1 ∧ y.2.1 < 65536) ∧ (0 ≤ y.2.2.1 ∧ y.2.2.1 < 256)

set_option maxRecDepth 100000 in
theorem open_put {n : Nat} {cs : List Value} {x : DataW H × List MemPlace} (h : DataW.trod enc Tryd.prog w base spare held n 62 cs = some x) :
    ∃ y : Int × Int × Int × Int, cs = [.int .u16 y.1, .int .u16 y.2.1, .int .u8 y.2.2.1, .int .u64 y.2.2.2] ∧ Put4 y := by
  obtain ⟨y0, y1, y2, y3, m, _, hl, h0, h1, h2, h3⟩ := Joins.trod_struct4 Tryd.underlying62 h
  rw [show Tryd.prog.cellsOf 62 = 4 by kernel_rfl] at hl
  have e1 : Tryd.prog.cellsOf 60 = 1 := by kernel_rfl
  have e2 : Tryd.prog.cellsOf 5 = 1 := by kernel_rfl
  have e3 : Tryd.prog.cellsOf 25 = 1 := by kernel_rfl
  obtain ⟨a, b, c, d, rfl⟩ := list4q hl
  simp [e1, e2, e3] at h0 h1 h2 h3
  obtain ⟨k, e4, _, w4⟩ := DataW.trod_int Tryd.underlying60 h0
  obtain ⟨p, e5, _, w5⟩ := DataW.trod_int Tryd.underlying60 h1
  obtain ⟨q, e6, _, w6⟩ := DataW.trod_int Tryd.underlying5 h2
  obtain ⟨r, e7, _, w7⟩ := DataW.trod_int Tryd.underlying25 h3
  simp at e4 e5 e6 e7
  subst e4 e5 e6 e7
  have b4 := bounds_u16 w4
  have b5 := bounds_u16 w5
  have b6 := bounds_u8 w6
  exact ⟨(k, p, q, r), rfl, ⟨b4.1, by show k < 65536; omega⟩, ⟨b5.1, by show p < 65536; omega⟩, ⟨b6.1, by show q < 256; omega⟩⟩

set_option maxRecDepth 100000 in
theorem open_puts {r : Reach} {b0 : Nat} {v : Value} {d : DataW H} {p : List MemPlace} (hv : Value.okWide Tryd.prog w r b0 63 v) (h : DataW.Trod enc Tryd.prog w base spare held 63 v d p) :
    ∃ A ds c, v = .slice A ds.length c ∧ ds.length ≤ maxLen ∧ PutsIn w A ds ∧ PutsOk ds := by
  obtain ⟨a, len, cap, rfl⟩ := okWide_slice Tryd.underlying63 hv
  obtain ⟨fuel, hf⟩ := h
  rcases Deep.open_slice Tryd.underlying63 hf with ⟨hcs, _⟩ | ⟨ad, len', cap', m, n, D, Pl, hcs, _, hl, hm, hmm, _, hel⟩
  · have e : Value.slice a len cap = .slice none 0 0 := by simpa [Value.cells] using hcs
    rw [e]
    exact ⟨none, [], 0, rfl, by simp [maxLen], fun k hk => absurd hk (by simp), fun k hk => absurd hk (by simp)⟩
  · have e : Value.slice a len cap = .slice (some ad) len' cap' := by simpa [Value.cells] using hcs
    rw [e]
    have e3 : Tryd.prog.cellsOf 62 = 4 := by kernel_rfl
    rw [e3] at hel
    have hle : len' ≤ m := by rw [hmm]; split <;> omega
    obtain ⟨g, hg⟩ := Deep.choose_lt (α := Int × Int × Int × Int) (n := len') (p := fun k y => (w.cell? (ad.add (k * 4)) = some (.int .u16 y.1) ∧ w.cell? ((ad.add (k * 4)).add 1) = some (.int .u16 y.2.1) ∧ w.cell? ((ad.add (k * 4)).add 2) = some (.int .u8 y.2.2.1) ∧ w.cell? ((ad.add (k * 4)).add 3) = some (.int .u64 y.2.2.2)) ∧ Put4 y) (fun k hk => by
      obtain ⟨cs', h1, h2⟩ := hel k (by omega)
      obtain ⟨y, rfl, w1⟩ := open_put h2
      obtain ⟨_, _, hc⟩ := World.cells?_some h1
      exact ⟨y, ⟨by simpa [Addr.add] using hc 0 (by omega), hc 1 (by omega), hc 2 (by omega), hc 3 (by omega)⟩, w1⟩)
    have hget : ∀ k, k < len' → ((List.range len').map g).getD k (0, 0, 0, 0) = g k := fun k hk => by simp [List.getD, hk]
    refine ⟨some ad, (List.range len').map g, cap', by simp, by simp; omega, fun k hk => ⟨ad, rfl, ?_⟩, fun k hk => ?_⟩
    · have hk' : k < len' := by simpa using hk
      rw [hget k hk']; exact (hg k hk').1
    · have hk' : k < len' := by simpa using hk
      rw [hget k hk']; exact (hg k hk').2
end

theorem bounds_u32 {a : Int} (h : (Lit.int .u32 a).wf = true) : 0 ≤ a ∧ a < 4294967296 := by
  have h' : IntKind.u32.min ≤ a ∧ a ≤ IntKind.u32.max := by simpa [Lit.wf] using h
  have e1 : IntKind.u32.min = 0 := by decide
  have e2 : IntKind.u32.max = 4294967295 := by decide
  omega
theorem lt_u8 {a : Int} (h : (Lit.int .u8 a).wf = true) : a < 256 := by have := bounds_u8 h; omega
end Go.Proofs.YtopmmlcjlopmaaaDoor
/- A path, by value, as an argument: its steps lie in a slice of any length. -/
namespace Go.Proofs.YtopmmlcjlopmaaaDoor
set_option linter.unusedVariables false
set_option linter.unusedSimpArgs false
open Go.ChangeShapes Go.WideShapes Go.ChangeAt Go.RowKit Go.Joins

theorem list5p {α : Type} {zs : List α} (h : zs.length = 5) : ∃ a b c d e, zs = [a, b, c, d, e] := by
  match zs, h with
  | [a, b, c, d, e], _ => exact ⟨a, b, c, d, e, rfl⟩
theorem list7p {α : Type} {zs : List α} (h : zs.length = 7) : ∃ a b c d e f g, zs = [a, b, c, d, e, f, g] := by
  match zs, h with
  | [a, b, c, d, e, f, g], _ => exact ⟨a, b, c, d, e, f, g, rfl⟩
theorem list3p {α : Type} {zs : List α} (h : zs.length = 3) : ∃ a b c, zs = [a, b, c] := by
  match zs, h with
  | [a, b, c], _ => exact ⟨a, b, c, rfl⟩

section
variable {H : Type} {enc : TypeId × Value → H} {w : World} {base : Nat} {spare : Nat → Bool} {held : Bool}

theorem cp_step : Tryd.prog.cellsOf 73 = 3 := by kernel_rfl
theorem cp_bool : Tryd.prog.cellsOf 4 = 1 := by kernel_rfl
theorem cp_int : Tryd.prog.cellsOf 3 = 1 := by kernel_rfl
theorem cp_u64 : Tryd.prog.cellsOf 25 = 1 := by kernel_rfl
theorem cp_steps : Tryd.prog.cellsOf 22 = 1 := by kernel_rfl
theorem cp_right : Tryd.prog.cellsOf 24 = 3 := by kernel_rfl
theorem cp_path : Tryd.prog.cellsOf 27 = 7 := by kernel_rfl
theorem by_step : Tryd.prog.bytesOf 73 = 24 := by kernel_rfl

set_option maxRecDepth 100000 in
theorem open_step {n : Nat} {cs : List Value} {x : DataW H × List MemPlace} (h : DataW.trod enc Tryd.prog w base spare held n 73 cs = some x) :
    ∃ y : Int × Int × Int, cs = [.int .i64 y.1, .int .u64 y.2.1, .int .u64 y.2.2] ∧ W64 y.2.2 := by
  obtain ⟨xs, m, _, _, hl, hxl, hel⟩ := DataW.trod_struct Tryd.underlying73 h
  rw [cp_step] at hl
  obtain ⟨a, b, c, rfl⟩ := list3p hl
  obtain ⟨y0, y1, y2, rfl⟩ := list3p (zs := xs) (by simpa using hxl)
  have e0 := hel 0 _ rfl
  have e1 := hel 1 _ rfl
  have e2 := hel 2 _ rfl
  simp [cp_int, cp_u64] at e0 e1 e2
  obtain ⟨k, h0, _, w0⟩ := DataW.trod_int Tryd.underlying3 e0
  obtain ⟨p, h1, _, w1⟩ := DataW.trod_int Tryd.underlying25 e1
  obtain ⟨q, h2, _, w2⟩ := DataW.trod_int Tryd.underlying25 e2
  simp at h0 h1 h2
  subst h0 h1 h2
  exact ⟨(k, p, q), rfl, w64_of w2⟩

set_option maxRecDepth 100000 in
theorem open_steps {n : Nat} {cs : List Value} {x : DataW H × List MemPlace} (h : DataW.trod enc Tryd.prog w base spare held n 22 cs = some x) :
    ∃ A S c, cs = [.slice A S.length c] ∧ StepsIn w (.slice A S.length c) S ∧ (∀ k, k < S.length → W64 (stepAt S k).2.2) ∧ ((∀ m ∈ x.1.weights Tryd.prog 22, m ≤ reachBytes) → S.length * 24 ≤ 140737488351232) := by
  rcases Deep.open_slice Tryd.underlying22 h with ⟨hcs, _⟩ | ⟨ad, len', cap', m, n, D, Pl, hcs, _, hl, hm, hmm, hx, hel⟩
  · exact ⟨none, [], 0, hcs, ⟨none, 0, rfl, fun k hk => absurd hk (by simp)⟩, fun k hk => absurd hk (by simp), fun _ => by simp⟩
  · rw [cp_step] at hel
    have hle : len' ≤ m := by rw [hmm]; split <;> omega
    obtain ⟨g, hg⟩ := Deep.choose_lt (α := Int × Int × Int) (n := len') (p := fun k y => (w.cell? (ad.add (k * 3)) = some (.int .i64 y.1) ∧ w.cell? ((ad.add (k * 3)).add 1) = some (.int .u64 y.2.1) ∧ w.cell? ((ad.add (k * 3)).add 2) = some (.int .u64 y.2.2)) ∧ W64 y.2.2) (fun k hk => by
      obtain ⟨cs', h1, h2⟩ := hel k (by omega)
      obtain ⟨y, rfl, w1⟩ := open_step h2
      obtain ⟨_, _, hc⟩ := World.cells?_some h1
      exact ⟨y, ⟨by simpa [Addr.add] using hc 0 (by omega), hc 1 (by omega), hc 2 (by omega)⟩, w1⟩)
    have hget : ∀ k, k < len' → ((List.range len').map g).getD k (0, 0, 0) = g k := fun k hk => by simp [List.getD, hk]
    refine ⟨some ad, (List.range len').map g, cap', by simpa using hcs, ⟨some ad, cap', by simp, fun k hk => ⟨ad, rfl, ?_⟩⟩, fun k hk => ?_, fun hw => ?_⟩
    · have hk' : k < len' := by simpa using hk
      rw [hget k hk']; exact (hg k hk').1
    · have hk' : k < len' := by simpa using hk
      show W64 (((List.range len').map g).getD k (0, 0, 0)).2.2
      rw [hget k hk']; exact (hg k hk').2
    · have := hw (((List.range len').length + (List.range (m - len')).length) * 24) (by rw [hx]; simp [DataW.weights, Tryd.underlying22, by_step])
      simp [reachBytes] at this ⊢
      omega

set_option maxRecDepth 100000 in
theorem open_path {r : Reach} {b0 : Nat} {v : Value} {d : DataW H} {p : List MemPlace} (hv : Value.okWide Tryd.prog w r b0 27 v) (h : DataW.Trod enc Tryd.prog w base spare held 27 v d p) :
    ∃ (P : Pth) (A : Option Addr) (c : Nat), v = pathV (.slice A P.steps.length c) P.why P.W P.U P.X P.lev P.fr ∧ StepsIn w (.slice A P.steps.length c) P.steps ∧ (∀ k, k < P.steps.length → W64 (stepAt P.steps k).2.2) ∧ ((∀ m ∈ d.weights Tryd.prog 27, m ≤ reachBytes) → P.steps.length * 24 ≤ 140737488351232) := by
  obtain ⟨cs, rfl, hsz, _⟩ : ∃ cs, v = .agg cs ∧ cs.size = Tryd.prog.cellsOf 27 ∧ Row.okWide Tryd.prog w r b0 27 cs := by
    simpa [Value.okWide, Tryd.underlying27] using hv
  obtain ⟨fuel, hf⟩ := h
  obtain ⟨xs, m, _, hx, hl, hxl, hel⟩ := DataW.trod_struct Tryd.underlying27 hf
  obtain ⟨cs⟩ := cs
  obtain ⟨c0, c1, c2, c3, c4, c5, c6, rfl⟩ := list7p (zs := cs) (by simpa using hsz.trans cp_path)
  obtain ⟨y0, y1, y2, y3, y4, rfl⟩ := list5p (zs := xs) (by simpa using hxl)
  have e0 := hel 0 _ rfl
  have e1 := hel 1 _ rfl
  have e2 := hel 2 _ rfl
  have e3 := hel 3 _ rfl
  have e4 := hel 4 _ rfl
  simp [Value.cells, cp_int, cp_u64, cp_steps, cp_right] at e0 e1 e2 e3 e4
  obtain ⟨A, S, c, h0, hS, hW, hZ⟩ := open_steps e0
  obtain ⟨k1, h1, _, w1⟩ := DataW.trod_int Tryd.underlying3 e1
  obtain ⟨k3, h3, _, w3⟩ := DataW.trod_int Tryd.underlying3 e3
  obtain ⟨k4, h4, _, w4⟩ := DataW.trod_int Tryd.underlying25 e4
  obtain ⟨zs, m2, _, _, hl2, hzl, hel2⟩ := DataW.trod_struct Tryd.underlying24 e2
  obtain ⟨z0, z1, z2, rfl⟩ := list3p (zs := zs) (by simpa using hzl)
  have f0 := hel2 0 _ rfl
  have f1 := hel2 1 _ rfl
  have f2 := hel2 2 _ rfl
  simp [cp_bool] at f0 f1 f2
  obtain ⟨b0, g0, _⟩ := DataW.trod_bool Tryd.underlying4 f0
  obtain ⟨b1, g1, _⟩ := DataW.trod_bool Tryd.underlying4 f1
  obtain ⟨b2, g2, _⟩ := DataW.trod_bool Tryd.underlying4 f2
  simp at h0 h1 h3 h4 g0 g1 g2
  subst h0 h1 h3 h4 g0 g1 g2
  refine ⟨⟨S, k1, b0, b1, b2, k3, k4⟩, A, c, rfl, hS, hW, fun hh => hZ (fun z hz => hh z ?_)⟩
  have ed : d = DataW.agg [y0.1, y1.1, y2.1, y3.1, y4.1] := by have := congrArg Prod.fst hx; simpa using this
  rw [ed]
  simp only [DataW.weights, Tryd.underlying27, List.map_cons, List.map_nil, DataW.weightsEach, List.mem_append]
  exact Or.inl hz
end

theorem weights_of {H : Type} {ts : List TypeId} {ds : List (DataW H)} (h : (DataW.weightsEach Tryd.prog ts ds).all (· ≤ reachBytes) = true) {j : Nat} {t : TypeId} {d : DataW H} (ht : ts[j]? = some t) (hd : ds[j]? = some d) : ∀ m ∈ d.weights Tryd.prog t, m ≤ reachBytes := fun m hm => by
  simpa using List.all_eq_true.1 h _ (DataW.weights_mem_each ht hd m hm)
end Go.Proofs.YtopmmlcjlopmaaaDoor
/- An access with a root and control bits, by value, as an argument. (Laid by tools/gen_ou.py.) -/
namespace Go.Proofs.YtopmmlcjlopmaaaDoor
set_option linter.unusedVariables false
set_option linter.unusedSimpArgs false
open Go.ChangeShapes Go.WideShapes Go.ChangeAt Go.RowKit

theorem listN3 {α : Type} {zs : List α} (h : zs.length = 3) : ∃ x0 x1 x2, zs = [x0, x1, x2] := by
  match zs, h with
  | [x0, x1, x2], _ => exact ⟨x0, x1, x2, rfl⟩
theorem listN4 {α : Type} {zs : List α} (h : zs.length = 4) : ∃ x0 x1 x2 x3, zs = [x0, x1, x2, x3] := by
  match zs, h with
  | [x0, x1, x2, x3], _ => exact ⟨x0, x1, x2, x3, rfl⟩
theorem listN8 {α : Type} {zs : List α} (h : zs.length = 8) : ∃ x0 x1 x2 x3 x4 x5 x6 x7, zs = [x0, x1, x2, x3, x4, x5, x6, x7] := by
  match zs, h with
  | [x0, x1, x2, x3, x4, x5, x6, x7], _ => exact ⟨x0, x1, x2, x3, x4, x5, x6, x7, rfl⟩
theorem open_use_cq0 : Tryd.prog.cellsOf 29 = 3 := by kernel_rfl
theorem open_use_cq1 : Tryd.prog.cellsOf 31 = 4 := by kernel_rfl
theorem open_use_cq2 : Tryd.prog.cellsOf 4 = 1 := by kernel_rfl
theorem open_use_cq3 : Tryd.prog.cellsOf 3 = 1 := by kernel_rfl
theorem open_use_cq4 : Tryd.prog.cellsOf 25 = 1 := by kernel_rfl
theorem open_use_all : Tryd.prog.cellsOf 33 = 8 := by kernel_rfl

set_option maxRecDepth 100000 in
theorem open_use {H : Type} {enc : TypeId × Value → H} {w : World} {base : Nat} {spare : Nat → Bool} {held : Bool} {r : Reach} {b0 : Nat} {v : Value} {d : DataW H} {p : List MemPlace} (hv : Value.okWide Tryd.prog w r b0 33 v) (h : DataW.Trod enc Tryd.prog w base spare held 33 v d p) :
    ∃ (k0 : Int) (k1 : Int) (b0 : Bool) (b1 : Bool) (b2 : Bool) (b3 : Bool) (b4 : Bool) (b5 : Bool), v = .agg #[.int .u64 k0, .int .i64 k1, .bool b0, .bool b1, .bool b2, .bool b3, .bool b4, .bool b5] ∧ W64 k0 := by
  obtain ⟨cs, rfl, hsz, _⟩ : ∃ cs, v = .agg cs ∧ cs.size = Tryd.prog.cellsOf 33 ∧ Row.okWide Tryd.prog w r b0 33 cs := by
    simpa [Value.okWide, Tryd.underlying33] using hv
  obtain ⟨fuel, hf⟩ := h
  obtain ⟨cs⟩ := cs
  obtain ⟨c0, c1, c2, c3, c4, c5, c6, c7, rfl⟩ := listN8 (zs := cs) (by simpa using hsz.trans open_use_all)
  obtain ⟨xs0, m0, _, _, hl0, hxl0, hel0⟩ := DataW.trod_struct Tryd.underlying33 hf
  obtain ⟨y0_0, y0_1, y0_2, rfl⟩ := listN3 (zs := xs0) (by simpa using hxl0)
  have e0_0 := hel0 0 _ rfl
  have e0_1 := hel0 1 _ rfl
  have e0_2 := hel0 2 _ rfl
  simp [Value.cells, open_use_cq0, open_use_cq1, open_use_cq4] at e0_0 e0_1 e0_2
  obtain ⟨k0, g0_0, _, w0⟩ := DataW.trod_int Tryd.underlying25 e0_0
  obtain ⟨xs1, m1, _, _, hl1, hxl1, hel1⟩ := DataW.trod_struct Tryd.underlying29 e0_1
  obtain ⟨y1_0, y1_1, y1_2, rfl⟩ := listN3 (zs := xs1) (by simpa using hxl1)
  have e1_0 := hel1 0 _ rfl
  have e1_1 := hel1 1 _ rfl
  have e1_2 := hel1 2 _ rfl
  simp [Value.cells, open_use_cq2, open_use_cq3] at e1_0 e1_1 e1_2
  obtain ⟨k1, g1_0, _, w1⟩ := DataW.trod_int Tryd.underlying3 e1_0
  obtain ⟨b0, g1_1, _⟩ := DataW.trod_bool Tryd.underlying4 e1_1
  obtain ⟨b1, g1_2, _⟩ := DataW.trod_bool Tryd.underlying4 e1_2
  obtain ⟨xs2, m2, _, _, hl2, hxl2, hel2⟩ := DataW.trod_struct Tryd.underlying31 e0_2
  obtain ⟨y2_0, y2_1, y2_2, y2_3, rfl⟩ := listN4 (zs := xs2) (by simpa using hxl2)
  have e2_0 := hel2 0 _ rfl
  have e2_1 := hel2 1 _ rfl
  have e2_2 := hel2 2 _ rfl
  have e2_3 := hel2 3 _ rfl
  simp [Value.cells, open_use_cq2] at e2_0 e2_1 e2_2 e2_3
  obtain ⟨b2, g2_0, _⟩ := DataW.trod_bool Tryd.underlying4 e2_0
  obtain ⟨b3, g2_1, _⟩ := DataW.trod_bool Tryd.underlying4 e2_1
  obtain ⟨b4, g2_2, _⟩ := DataW.trod_bool Tryd.underlying4 e2_2
  obtain ⟨b5, g2_3, _⟩ := DataW.trod_bool Tryd.underlying4 e2_3
  simp at g0_0 g1_0 g1_1 g1_2 g2_0 g2_1 g2_2 g2_3
  subst g0_0 g1_0 g1_1 g1_2 g2_0 g2_1 g2_2 g2_3
  exact ⟨k0, k1, b0, b1, b2, b3, b4, b5, rfl, w64_of w0⟩
theorem open_rgt9_cq0 : Tryd.prog.cellsOf 4 = 1 := by kernel_rfl
theorem open_rgt9_all : Tryd.prog.cellsOf 24 = 3 := by kernel_rfl

set_option maxRecDepth 100000 in
theorem open_rgt9 {H : Type} {enc : TypeId × Value → H} {w : World} {base : Nat} {spare : Nat → Bool} {held : Bool} {r : Reach} {b0 : Nat} {v : Value} {d : DataW H} {p : List MemPlace} (hv : Value.okWide Tryd.prog w r b0 24 v) (h : DataW.Trod enc Tryd.prog w base spare held 24 v d p) :
    ∃ (b0 : Bool) (b1 : Bool) (b2 : Bool), v = .agg #[.bool b0, .bool b1, .bool b2] := by
  obtain ⟨cs, rfl, hsz, _⟩ : ∃ cs, v = .agg cs ∧ cs.size = Tryd.prog.cellsOf 24 ∧ Row.okWide Tryd.prog w r b0 24 cs := by
    simpa [Value.okWide, Tryd.underlying24] using hv
  obtain ⟨fuel, hf⟩ := h
  obtain ⟨cs⟩ := cs
  obtain ⟨c0, c1, c2, rfl⟩ := listN3 (zs := cs) (by simpa using hsz.trans open_rgt9_all)
  obtain ⟨xs0, m0, _, _, hl0, hxl0, hel0⟩ := DataW.trod_struct Tryd.underlying24 hf
  obtain ⟨y0_0, y0_1, y0_2, rfl⟩ := listN3 (zs := xs0) (by simpa using hxl0)
  have e0_0 := hel0 0 _ rfl
  have e0_1 := hel0 1 _ rfl
  have e0_2 := hel0 2 _ rfl
  simp [Value.cells, open_rgt9_cq0] at e0_0 e0_1 e0_2
  obtain ⟨b0, g0_0, _⟩ := DataW.trod_bool Tryd.underlying4 e0_0
  obtain ⟨b1, g0_1, _⟩ := DataW.trod_bool Tryd.underlying4 e0_1
  obtain ⟨b2, g0_2, _⟩ := DataW.trod_bool Tryd.underlying4 e0_2
  simp at g0_0 g0_1 g0_2
  subst g0_0 g0_1 g0_2
  exact ⟨b0, b1, b2, rfl⟩
end Go.Proofs.YtopmmlcjlopmaaaDoor
