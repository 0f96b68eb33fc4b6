/- A slice of deeds that came in. -/
import Derived.Test.YtfakfmefjfemhaaDp
import Derived.Test.YtfakfmefjfemhaaFr
import Derived.Deep.Slices
import Derived.Deep.Strs
namespace Go.Proofs.Ytfakfmefjfemhaa
set_option linter.unusedVariables false
set_option linter.unusedSimpArgs false
open Go.ChangeShapes Go.WideShapes Go.ChangeAt Go.RowKit Go.Joins

section
variable {H : Type} {enc : TypeId × Value → H} {w : World} {base : Nat} {spare : Nat → Bool} {held : Bool}

theorem list3 {α : Type} {zs : List α} (h : zs.length = 3) : ∃ t u v, zs = [t, u, v] := by
  match zs, h with
  | [t, u, v], _ => exact ⟨t, u, v, rfl⟩

set_option maxRecDepth 100000 in
theorem open_deed {n : Nat} {cs : List Value} {x : DataW H × List MemPlace} (h : DataW.trod enc Try.prog w base spare held n 34 cs = some x) :
    ∃ y : Int × Int × Int, cs = [.int .i64 y.1, .int .u64 y.2.1, .int .u64 y.2.2] ∧ W64 y.2.1 ∧ W64 y.2.2 := by
  obtain ⟨y0, y1, y2, m, _, hl, h0, h1, h2⟩ := Deep.trod_struct3 Try.underlying34 h
  rw [show Try.prog.cellsOf 34 = 3 by kernel_rfl] at hl
  have e1 : Try.prog.cellsOf 3 = 1 := by kernel_rfl
  have e2 : Try.prog.cellsOf 30 = 1 := by kernel_rfl
  obtain ⟨a, b, c, rfl⟩ := list3 hl
  simp [e1, e2] at h0 h1 h2
  obtain ⟨k, e3, _, _⟩ := DataW.trod_int Try.underlying3 h0
  obtain ⟨p, e4, _, w4⟩ := DataW.trod_int Try.underlying30 h1
  obtain ⟨q, e5, _, w5⟩ := DataW.trod_int Try.underlying30 h2
  simp at e3 e4 e5
  subst e3 e4 e5
  exact ⟨(k, p, q), rfl, w64_of w4, w64_of w5⟩

set_option maxRecDepth 100000 in
theorem open_deeds {r : Reach} {b0 : Nat} {v : Value} {d : DataW H} {p : List MemPlace} (hv : Value.okWide Try.prog w r b0 22 v) (h : DataW.Trod enc Try.prog w base spare held 22 v d p) :
    ∃ A ds c, v = .slice A ds.length c ∧ ds.length ≤ maxLen ∧ DeedsIn w A ds ∧ DeedsOk ds := by
  obtain ⟨a, len, cap, rfl⟩ := okWide_slice Try.underlying22 hv
  obtain ⟨fuel, hf⟩ := h
  rcases Deep.open_slice Try.underlying22 hf with ⟨hcs, _⟩ | ⟨ad, len', cap', m, n, D, Pl, hcs, _, hl, hm, hmm, _, hel⟩
  · have e : Value.slice a len cap = .slice none 0 0 := by simpa [Value.cells] using hcs
    rw [e]
    exact ⟨none, [], 0, rfl, by simp [maxLen], fun k hk => absurd hk (by simp), fun k hk => absurd hk (by simp)⟩
  · have e : Value.slice a len cap = .slice (some ad) len' cap' := by simpa [Value.cells] using hcs
    rw [e]
    have e3 : Try.prog.cellsOf 34 = 3 := by kernel_rfl
    rw [e3] at hel
    have hle : len' ≤ m := by rw [hmm]; split <;> omega
    obtain ⟨g, hg⟩ := Deep.choose_lt (α := Int × Int × Int) (n := len') (p := fun k y => (w.cell? (ad.add (k * 3)) = some (.int .i64 y.1) ∧ w.cell? ((ad.add (k * 3)).add 1) = some (.int .u64 y.2.1) ∧ w.cell? ((ad.add (k * 3)).add 2) = some (.int .u64 y.2.2)) ∧ W64 y.2.1 ∧ W64 y.2.2) (fun k hk => by
      obtain ⟨cs', h1, h2⟩ := hel k (by omega)
      obtain ⟨y, rfl, w1, w2⟩ := open_deed h2
      obtain ⟨_, _, hc⟩ := World.cells?_some h1
      exact ⟨y, ⟨by simpa [Addr.add] using hc 0 (by omega), hc 1 (by omega), hc 2 (by omega)⟩, w1, w2⟩)
    have hget : ∀ k, k < len' → ((List.range len').map g).getD k (0, 0, 0) = g k := fun k hk => by simp [List.getD, hk]
    refine ⟨some ad, (List.range len').map g, cap', by simp, by simp; omega, fun k hk => ⟨ad, rfl, ?_⟩, fun k hk => ?_⟩
    · have hk' : k < len' := by simpa using hk
      rw [hget k hk']; exact (hg k hk').1
    · have hk' : k < len' := by simpa using hk
      rw [hget k hk']; exact (hg k hk').2
end

end Go.Proofs.Ytfakfmefjfemhaa
