/- An entry, and an ask, by value, as arguments. -/
import Derived.Test.YthcihailddcpdaaDoorEa
import Derived.Test.YthcihailddcpdaaDoorN
import Derived.ProofKit
import Derived.OpenShut
import Derived.ChangeArms
namespace Go.Proofs.YthcihailddcpdaaDoor
set_option linter.unusedVariables false
set_option linter.unusedSimpArgs false
open Go.ChangeShapes Go.WideShapes Go.ChangeAt Go.RowKit Go.Joins

theorem list3 {α : Type} {zs : List α} (h : zs.length = 3) : ∃ t u x, zs = [t, u, x] := by
  match zs, h with
  | [t, u, x], _ => exact ⟨t, u, x, rfl⟩
theorem listE {α : Type} {zs : List α} (h : zs.length = 8) : ∃ a b c d e f g i, zs = [a, b, c, d, e, f, g, i] := by
  match zs, h with
  | [a, b, c, d, e, f, g, i], _ => exact ⟨a, b, c, d, e, f, g, i, rfl⟩

section
variable {H : Type} {enc : TypeId × Value → H} {w : World} {base : Nat} {spare : Nat → Bool} {held : Bool}

theorem cells_bool : Tryd.prog.cellsOf 4 = 1 := by kernel_rfl
theorem cells_u64 : Tryd.prog.cellsOf 22 = 1 := by kernel_rfl
theorem cells_int : Tryd.prog.cellsOf 3 = 1 := by kernel_rfl
theorem cells_ent : Tryd.prog.cellsOf 24 = 8 := by kernel_rfl
theorem cells_ask : Tryd.prog.cellsOf 36 = 3 := by kernel_rfl

theorem open_ent {r : Reach} {b0 : Nat} {v : Value} {d : DataW H} {p : List MemPlace} (hv : Value.okWide Tryd.prog w r b0 24 v) (h : DataW.Trod enc Tryd.prog w base spare held 24 v d p) :
    ∃ (k0 k1 k2 k3 k4 k5 k6 : Bool) (f : Int), v = entV k0 k1 k2 k3 k4 k5 k6 f ∧ W64 f := by
  obtain ⟨cs, rfl, hsz, _⟩ : ∃ cs, v = .agg cs ∧ cs.size = Tryd.prog.cellsOf 24 ∧ Row.okWide Tryd.prog w r b0 24 cs := by
    simpa [Value.okWide, Tryd.underlying24] using hv
  obtain ⟨fuel, hf⟩ := h
  obtain ⟨xs, m, _, _, hl, hxl, hel⟩ := DataW.trod_struct Tryd.underlying24 hf
  obtain ⟨cs⟩ := cs
  obtain ⟨c0, c1, c2, c3, c4, c5, c6, c7, rfl⟩ := listE (zs := cs) (by simpa using hsz.trans cells_ent)
  obtain ⟨y0, y1, y2, y3, y4, y5, y6, y7, rfl⟩ := listE (zs := xs) (by simpa using hxl)
  have e0 := hel 0 _ rfl
  have e1 := hel 1 _ rfl
  have e2 := hel 2 _ rfl
  have e3 := hel 3 _ rfl
  have e4 := hel 4 _ rfl
  have e5 := hel 5 _ rfl
  have e6 := hel 6 _ rfl
  have e7 := hel 7 _ rfl
  simp [Value.cells, cells_bool, cells_u64] at e0 e1 e2 e3 e4 e5 e6 e7
  obtain ⟨k0, h0, _⟩ := DataW.trod_bool Tryd.underlying4 e0
  obtain ⟨k1, h1, _⟩ := DataW.trod_bool Tryd.underlying4 e1
  obtain ⟨k2, h2, _⟩ := DataW.trod_bool Tryd.underlying4 e2
  obtain ⟨k3, h3, _⟩ := DataW.trod_bool Tryd.underlying4 e3
  obtain ⟨k4, h4, _⟩ := DataW.trod_bool Tryd.underlying4 e4
  obtain ⟨k5, h5, _⟩ := DataW.trod_bool Tryd.underlying4 e5
  obtain ⟨k6, h6, _⟩ := DataW.trod_bool Tryd.underlying4 e6
  obtain ⟨f, h7, _, wf⟩ := DataW.trod_int Tryd.underlying22 e7
  simp at h0 h1 h2 h3 h4 h5 h6 h7
  subst h0 h1 h2 h3 h4 h5 h6 h7
  exact ⟨k0, k1, k2, k3, k4, k5, k6, f, rfl, w64_of wf⟩

theorem open_ask {r : Reach} {b0 : Nat} {v : Value} {d : DataW H} {p : List MemPlace} (hv : Value.okWide Tryd.prog w r b0 36 v) (h : DataW.Trod enc Tryd.prog w base spare held 36 v d p) :
    ∃ (l b : Int) (n : Bool), v = .agg #[.int .i64 l, .int .i64 b, .bool n] ∧ I64 l ∧ I64 b := by
  obtain ⟨cs, rfl, hsz, _⟩ : ∃ cs, v = .agg cs ∧ cs.size = Tryd.prog.cellsOf 36 ∧ Row.okWide Tryd.prog w r b0 36 cs := by
    simpa [Value.okWide, Tryd.underlying36] using hv
  obtain ⟨fuel, hf⟩ := h
  obtain ⟨xs, m, _, _, hl, hxl, hel⟩ := DataW.trod_struct Tryd.underlying36 hf
  obtain ⟨cs⟩ := cs
  obtain ⟨c0, c1, c2, rfl⟩ := list3 (zs := cs) (by simpa using hsz.trans cells_ask)
  obtain ⟨y0, y1, y2, rfl⟩ := list3 (zs := xs) (by simpa using hxl)
  have e0 := hel 0 _ rfl
  have e1 := hel 1 _ rfl
  have e2 := hel 2 _ rfl
  simp [Value.cells, cells_bool, cells_int] at e0 e1 e2
  obtain ⟨l, h0, _, wl⟩ := DataW.trod_int Tryd.underlying3 e0
  obtain ⟨b, h1, _, wb⟩ := DataW.trod_int Tryd.underlying3 e1
  obtain ⟨n, h2, _⟩ := DataW.trod_bool Tryd.underlying4 e2
  simp at h0 h1 h2
  subst h0 h1 h2
  exact ⟨l, b, n, rfl, i64_of wl, i64_of wb⟩
end
end Go.Proofs.YthcihailddcpdaaDoor
