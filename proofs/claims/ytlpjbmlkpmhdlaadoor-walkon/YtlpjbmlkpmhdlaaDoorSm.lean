/- Same of dormerref04. -/
import Derived.Test.YtlpjbmlkpmhdlaaDoorRf
import Derived.BigQuiet
namespace Go.Proofs.YtlpjbmlkpmhdlaaDoor
set_option linter.unusedVariables false
set_option linter.unusedSimpArgs false
open Go.ChangeShapes Go.WideShapes Go.ChangeAt Go.RowKit Go.Joins

theorem drewN_below (v : World) (n : Nat) : Below v.heap.size v (v.drewN n) := ⟨rfl, rfl, rfl, Nat.le_refl _, fun _ _ => rfl⟩

theorem WordsOwn.form {w : World} {v : Value} {tr : List Int} (h : WordsOwn w v tr) :
    ∃ A c, v = .slice A tr.length c ∧ ∀ k, k < tr.length → ∃ g, A = some ⟨g, 0, none⟩ ∧ w.cell? ⟨g, k, none⟩ = some (.int .u64 (tr.getD k 0)) := by
  have h' := h
  rcases h.2 with ⟨rfl, hn⟩ | ⟨g, cap, cur, rfl, _⟩
  · exact ⟨none, 0, by rw [hn], fun k hk => by omega⟩
  · refine ⟨_, _, rfl, fun k hk => ⟨g, rfl, ?_⟩⟩
    have := World.ownsRow.cells h' (g := g) rfl k (.int .u64 (tr.getD k 0)) (by simp [List.getD, List.getElem?_eq_getElem hk])
    rwa [show (⟨g, 0, none⟩ : Addr).add k = ⟨g, k, none⟩ by unfold Addr.add; split <;> simp_all] at this

set_option maxRecDepth 100000 in
set_option maxHeartbeats 1000000 in
theorem same_any (w : World) (v1 v2 : Value) (zs : List Int) (h1 : WordsOwn w v1 zs) (h2 : WordsOwn w v2 zs) (hl : zs.length < 1000000) :
    Calls Tryd.prog 51 #[v1, v2] w fun e w' => e = .returned (.bool true) ∧ ∃ n, w' = w.drewN n := by
  obtain ⟨A, c, rfl, hA⟩ := h1.form
  obtain ⟨B, d, rfl, hB⟩ := h2.form
  have HA := Lib.hid hA
  have HB := Lib.hid hB
  clear hA hB h1 h2
  go_enter Tryd.func51, Tryd.ntmps51
  go_wp2
  go_loopw [5] (fun i wr => ∃ k n : Nat, k ≤ zs.length ∧ i = .int .i64 k ∧ wr = w.drewN n) (fun i _ => (zs.length - intOf i).toNat)
  case atStart => exact ⟨0, 0, by omega, rfl, rfl⟩
  case round =>
    obtain ⟨k, n, hk, rfl, rfl⟩ := hrel
    by_cases hlt : k < zs.length
    · obtain ⟨g, rfl, c0⟩ := HA.out k hlt
      obtain ⟨g', rfl, d0⟩ := HB.out k hlt
      generalize zs.getD k 0 = z at *
      have b1 : (k : Int) < (zs.length : Int) := by omega
      go_wp2
      go_quiet (fail)
      go_wp2
      go_roundw
      case rel => exact ⟨k + 1, _, by omega, by go_num, rfl⟩
      case measure => simp [intOf]; omega
    · have hle : zs.length ≤ k := by omega
      go_wp2
      go_ret
      exact ⟨rfl, n, rfl⟩

end Go.Proofs.YtlpjbmlkpmhdlaaDoor
