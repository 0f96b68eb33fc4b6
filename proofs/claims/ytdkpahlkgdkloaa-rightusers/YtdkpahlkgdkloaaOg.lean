/- A right, two of them, and an access, by value, as arguments. -/
import Derived.Test.YtdkpahlkgdkloaaGa
import Derived.ProofKit
import Derived.OpenShut
import Derived.ChangeArms
namespace Go.Proofs.Ytdkpahlkgdkloaa
set_option linter.unusedVariables false
set_option linter.unusedSimpArgs false
open Go.ChangeShapes Go.WideShapes Go.ChangeAt Go.RowKit Go.Joins

theorem listG {α : Type} {zs : List α} (h : zs.length = 3) : ∃ t u x, zs = [t, u, x] := by
  match zs, h with
  | [t, u, x], _ => exact ⟨t, u, x, rfl⟩
theorem listH {α : Type} {zs : List α} (h : zs.length = 6) : ∃ a b c d e f, zs = [a, b, c, d, e, f] := by
  match zs, h with
  | [a, b, c, d, e, f], _ => exact ⟨a, b, c, d, e, f, rfl⟩

section
variable {H : Type} {enc : TypeId × Value → H} {w : World} {base : Nat} {spare : Nat → Bool} {held : Bool}

theorem one_bool : Try.prog.cellsOf 4 = 1 := by kernel_rfl
theorem one_int : Try.prog.cellsOf 3 = 1 := by kernel_rfl
theorem cells_rgt : Try.prog.cellsOf 23 = 3 := by kernel_rfl
theorem cells_acc : Try.prog.cellsOf 27 = 3 := by kernel_rfl
theorem cells_two : Try.prog.cellsOf 24 = 6 := by kernel_rfl

theorem rgt_of {fuel : Nat} {c0 c1 c2 : Value} {x : DataW H × List MemPlace} (hf : DataW.trod enc Try.prog w base spare held fuel 23 [c0, c1, c2] = some x) :
    ∃ a b c : Bool, c0 = .bool a ∧ c1 = .bool b ∧ c2 = .bool c := by
  obtain ⟨xs, m, _, _, hl, hxl, hel⟩ := DataW.trod_struct Try.underlying23 hf
  obtain ⟨y0, y1, y2, rfl⟩ := listG (zs := xs) (by simpa using hxl)
  have e0 := hel 0 _ rfl
  have e1 := hel 1 _ rfl
  have e2 := hel 2 _ rfl
  simp [one_bool] at e0 e1 e2
  obtain ⟨a, h0, _⟩ := DataW.trod_bool Try.underlying4 e0
  obtain ⟨b, h1, _⟩ := DataW.trod_bool Try.underlying4 e1
  obtain ⟨c, h2, _⟩ := DataW.trod_bool Try.underlying4 e2
  simp at h0 h1 h2
  exact ⟨a, b, c, h0, h1, h2⟩

theorem open_rgt {r : Reach} {b0 : Nat} {v : Value} {d : DataW H} {p : List MemPlace} (hv : Value.okWide Try.prog w r b0 23 v) (h : DataW.Trod enc Try.prog w base spare held 23 v d p) :
    ∃ a b c : Bool, v = rgtV a b c := by
  obtain ⟨cs, rfl, hsz, _⟩ : ∃ cs, v = .agg cs ∧ cs.size = Try.prog.cellsOf 23 ∧ Row.okWide Try.prog w r b0 23 cs := by
    simpa [Value.okWide, Try.underlying23] using hv
  obtain ⟨fuel, hf⟩ := h
  obtain ⟨cs⟩ := cs
  obtain ⟨c0, c1, c2, rfl⟩ := listG (zs := cs) (by simpa using hsz.trans cells_rgt)
  obtain ⟨a, b, c, rfl, rfl, rfl⟩ := rgt_of hf
  exact ⟨a, b, c, rfl⟩

theorem open_acc {r : Reach} {b0 : Nat} {v : Value} {d : DataW H} {p : List MemPlace} (hv : Value.okWide Try.prog w r b0 27 v) (h : DataW.Trod enc Try.prog w base spare held 27 v d p) :
    ∃ (k : Int) (u c : Bool), v = accV k u c := by
  obtain ⟨cs, rfl, hsz, _⟩ : ∃ cs, v = .agg cs ∧ cs.size = Try.prog.cellsOf 27 ∧ Row.okWide Try.prog w r b0 27 cs := by
    simpa [Value.okWide, Try.underlying27] using hv
  obtain ⟨fuel, hf⟩ := h
  obtain ⟨xs, m, _, _, hl, hxl, hel⟩ := DataW.trod_struct Try.underlying27 hf
  obtain ⟨cs⟩ := cs
  obtain ⟨c0, c1, c2, rfl⟩ := listG (zs := cs) (by simpa using hsz.trans cells_acc)
  obtain ⟨y0, y1, y2, rfl⟩ := listG (zs := xs) (by simpa using hxl)
  have e0 := hel 0 _ rfl
  have e1 := hel 1 _ rfl
  have e2 := hel 2 _ rfl
  simp [Value.cells, one_bool, one_int] at e0 e1 e2
  obtain ⟨k, h0, _, _⟩ := DataW.trod_int Try.underlying3 e0
  obtain ⟨u, h1, _⟩ := DataW.trod_bool Try.underlying4 e1
  obtain ⟨c, h2, _⟩ := DataW.trod_bool Try.underlying4 e2
  simp at h0 h1 h2
  subst h0 h1 h2
  exact ⟨k, u, c, rfl⟩

theorem open_two {r : Reach} {b0 : Nat} {v : Value} {d : DataW H} {p : List MemPlace} (hv : Value.okWide Try.prog w r b0 24 v) (h : DataW.Trod enc Try.prog w base spare held 24 v d p) :
    ∃ a b c a' b' c' : Bool, v = .agg #[.bool a, .bool b, .bool c, .bool a', .bool b', .bool c'] := by
  obtain ⟨cs, rfl, hsz, _⟩ : ∃ cs, v = .agg cs ∧ cs.size = Try.prog.cellsOf 24 ∧ Row.okWide Try.prog w r b0 24 cs := by
    simpa [Value.okWide, Try.underlying24] using hv
  obtain ⟨fuel, hf⟩ := h
  obtain ⟨xs, m, _, _, hl, hxl, hel⟩ := DataW.trod_array Try.underlying24 hf
  obtain ⟨cs⟩ := cs
  obtain ⟨c0, c1, c2, c3, c4, c5, rfl⟩ := listH (zs := cs) (by simpa using hsz.trans cells_two)
  obtain ⟨y0, y1, rfl⟩ := list2 hxl
  have e0 := hel 0 (by decide)
  have e1 := hel 1 (by decide)
  simp [Value.cells, cells_rgt] at e0 e1
  obtain ⟨a, b, c, rfl, rfl, rfl⟩ := rgt_of e0
  obtain ⟨a', b', c', rfl, rfl, rfl⟩ := rgt_of e1
  exact ⟨a, b, c, a', b', c', rfl⟩
end
end Go.Proofs.Ytdkpahlkgdkloaa
