/- A slice of bytes that came in, opened. -/
import Derived.Test.YtfakfmefjfemhaaWm
import Derived.Test.YtfakfmefjfemhaaN
import Derived.Test.YtfakfmefjfemhaaFr
import Derived.ChangeSlices
namespace Go.Proofs.Ytfakfmefjfemhaa
set_option linter.unusedVariables false
set_option linter.unusedSimpArgs false
open Go.ChangeShapes Go.WideShapes Go.ChangeAt Go.RowKit Go.Joins

theorem u8s_of {zs : List Int} (h : ∀ z ∈ zs, (Lit.int .u8 z).wf = true) : U8s zs := fun z hz => by
  have := bounds_u8 (h z hz); omega

set_option maxRecDepth 100000 in
theorem open_bytes {H : Type} {enc : TypeId × Value → H} {w : World} {base : Nat} {spare : Nat → Bool} {held : Bool} {r : Reach} {b0 : Nat} {v : Value} {d : DataW H} {p : List MemPlace}
    (hv : Value.okWide Try.prog w r b0 55 v) (h : DataW.Trod enc Try.prog w base spare held 55 v d p) :
    ∃ A zs c, v = .slice A zs.length c ∧ zs.length ≤ maxLen ∧ U8s zs ∧ BytesIn w A zs := by
  obtain ⟨a, len, cap, rfl⟩ := okWide_slice Try.underlying55 hv
  obtain ⟨fuel, hf⟩ := h
  rcases open_ints Try.underlying55 Try.underlying5 (by kernel_rfl) hf with ⟨hcs, _⟩ | ⟨ad, len', cap', zs, hcs, _, hl, hm, hlen, _, hcell, hwf⟩
  · have e : Value.slice a len cap = .slice none 0 0 := by simpa [Value.cells] using hcs
    rw [e]
    exact ⟨none, [], 0, rfl, by simp [maxLen], (by intro z hz; cases hz), Or.inl rfl⟩
  · have e : Value.slice a len cap = .slice (some ad) len' cap' := by simpa [Value.cells] using hcs
    rw [e]
    have hle : len' ≤ zs.length := by rw [hlen]; split <;> omega
    have hlt : (zs.take len').length = len' := by rw [List.length_take]; omega
    refine ⟨some ad, zs.take len', cap', by rw [hlt], by rw [hlt]; omega, u8s_of (fun z hz => hwf z (List.mem_of_mem_take hz)), Or.inr ⟨ad, rfl, fun k hk => ?_⟩⟩
    rw [hlt] at hk
    rw [hcell k (by omega)]
    simp [List.getD, List.getElem?_take, hk]
end Go.Proofs.Ytfakfmefjfemhaa
