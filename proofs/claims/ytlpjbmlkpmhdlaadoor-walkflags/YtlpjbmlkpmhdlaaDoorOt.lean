/- A slice of turns (pairs of numbers) that came in. -/
import Derived.Test.YtlpjbmlkpmhdlaaDoorL8f
import Derived.Test.YtlpjbmlkpmhdlaaDoorOq
namespace Go.Proofs.YtlpjbmlkpmhdlaaDoor
set_option linter.unusedVariables false
set_option linter.unusedSimpArgs false
open Go.ChangeShapes Go.WideShapes Go.ChangeAt Go.RowKit Go.Joins

section
variable {H : Type} {enc : TypeId × Value → H} {w : World} {base : Nat} {spare : Nat → Bool} {held : Bool}

set_option maxRecDepth 100000 in
theorem open_turn {n : Nat} {cs : List Value} {x : DataW H × List MemPlace} (h : DataW.trod enc Tryd.prog w base spare held n 65 cs = some x) :
    ∃ y : Int × Int, cs = [.int .u16 y.1, .int .u16 y.2] ∧ (0 ≤ y.1 ∧ y.1 < 65536) ∧ (0 ≤ y.2 ∧ y.2 < 65536) := by
  obtain ⟨xs, m, _, _, hl, hxl, hel⟩ := DataW.trod_array Tryd.underlying65 h
  rw [show Tryd.prog.cellsOf 65 = 2 by kernel_rfl] at hl
  rw [show Tryd.prog.cellsOf 64 = 1 by kernel_rfl] at hel
  obtain ⟨zs, h1, h2, h3⟩ := ints_of Tryd.underlying64 2 cs xs (by simpa using hl) hxl (fun i hi => by simpa using hel i hi)
  obtain ⟨a, b, rfl⟩ := list2 h1
  have b4 := bounds_u16 (h3 a (by simp))
  have b5 := bounds_u16 (h3 b (by simp))
  exact ⟨(a, b), h2, ⟨b4.1, by show a < 65536; omega⟩, ⟨b5.1, by show b < 65536; omega⟩⟩

set_option maxRecDepth 100000 in
theorem open_turns {r : Reach} {b0 : Nat} {v : Value} {d : DataW H} {p : List MemPlace} (hv : Value.okWide Tryd.prog w r b0 61 v) (h : DataW.Trod enc Tryd.prog w base spare held 61 v d p) :
    ∃ A ds c, v = .slice A ds.length c ∧ ds.length ≤ maxLen ∧ TurnsIn w A ds ∧ TurnsOk ds := by
  obtain ⟨a, len, cap, rfl⟩ := okWide_slice Tryd.underlying61 hv
  obtain ⟨fuel, hf⟩ := h
  rcases Deep.open_slice Tryd.underlying61 hf with ⟨hcs, _⟩ | ⟨ad, len', cap', m, n, D, Pl, hcs, _, hl, hm, hmm, _, hel⟩
  · have e : Value.slice a len cap = .slice none 0 0 := by simpa [Value.cells] using hcs
    rw [e]
    exact ⟨none, [], 0, rfl, by simp [maxLen], fun k hk => absurd hk (by simp), fun k hk => absurd hk (by simp)⟩
  · have e : Value.slice a len cap = .slice (some ad) len' cap' := by simpa [Value.cells] using hcs
    rw [e]
    have e3 : Tryd.prog.cellsOf 65 = 2 := by kernel_rfl
    rw [e3] at hel
    have hle : len' ≤ m := by rw [hmm]; split <;> omega
    obtain ⟨g, hg⟩ := Deep.choose_lt (α := Int × Int) (n := len') (p := fun k y => (w.cell? (ad.add (k * 2)) = some (.int .u16 y.1) ∧ w.cell? ((ad.add (k * 2)).add 1) = some (.int .u16 y.2)) ∧ (0 ≤ y.1 ∧ y.1 < 65536) ∧ (0 ≤ y.2 ∧ y.2 < 65536)) (fun k hk => by
      obtain ⟨cs', h1, h2⟩ := hel k (by omega)
      obtain ⟨y, rfl, w1⟩ := open_turn h2
      obtain ⟨_, _, hc⟩ := World.cells?_some h1
      exact ⟨y, ⟨by simpa [Addr.add] using hc 0 (by omega), hc 1 (by omega)⟩, w1⟩)
    have hget : ∀ k, k < len' → ((List.range len').map g).getD k (0, 0) = g k := fun k hk => by simp [List.getD, hk]
    refine ⟨some ad, (List.range len').map g, cap', by simp, by simp; omega, fun k hk => ⟨ad, rfl, ?_⟩, fun k hk => ?_⟩
    · have hk' : k < len' := by simpa using hk
      rw [hget k hk']; exact (hg k hk').1
    · have hk' : k < len' := by simpa using hk
      rw [hget k hk']; exact (hg k hk').2
end
end Go.Proofs.YtlpjbmlkpmhdlaaDoor
