/- Join, of package va and of the document: four places' address. -/
import Derived.Test.YtlpjbmlkpmhdlaaDoorVr
import Derived.Test.YtlpjbmlkpmhdlaaDoorFr
namespace Go.Proofs.YtlpjbmlkpmhdlaaDoor
set_option linter.unusedVariables false
set_option linter.unusedSimpArgs false
open Go.ChangeShapes Go.WideShapes Go.ChangeAt Go.RowKit Go.Joins

theorem shifts_below {w w' : World} (hs : Shifts w) (h : 0 < w.heap.size) (hb : Below w.heap.size w w') : Shifts w' := by
  obtain ⟨s1, s2, s3, s4⟩ := hs
  exact ⟨(hb.cell h).trans s1, (hb.cell h).trans s2, (hb.cell h).trans s3, (hb.cell h).trans s4⟩

theorem shifts_alloc {w : World} (hs : Shifts w) (h : 0 < w.heap.size) (o : Obj) : Shifts (w.alloc o) := shifts_below hs h (below_alloc1 _ _)

/-- how far four places are set -/
def setK (low p q r s : Int) : Nat → Int
  | 0 => low % 4096
  | 1 => setF (low % 4096) 39 9 (IntKind.u64.wrap p)
  | 2 => setF (setF (low % 4096) 39 9 (IntKind.u64.wrap p)) 30 9 (IntKind.u64.wrap q)
  | 3 => setF (setF (setF (low % 4096) 39 9 (IntKind.u64.wrap p)) 30 9 (IntKind.u64.wrap q)) 21 9 (IntKind.u64.wrap r)
  | _ => setsF low p q r s

theorem w64_places (p q r s low : Int) : W64 (placesF p q r s low) := by unfold W64 placesF; omega

/-- how far four places are told -/
def rK (p q r s : Int) : Nat → Int
  | 0 => 0
  | 1 => p % 512
  | 2 => p % 512 * 512 + q % 512
  | 3 => (p % 512 * 512 + q % 512) * 512 + r % 512
  | _ => ((p % 512 * 512 + q % 512) * 512 + r % 512) * 512 + s % 512

theorem rK_bd (p q r s : Int) (k : Nat) : 0 ≤ rK p q r s k ∧ rK p q r s k < 68719476736 := by
  match k with
  | 0 => simp only [rK]; omega
  | 1 => simp only [rK]; omega
  | 2 => simp only [rK]; omega
  | 3 => simp only [rK]; omega
  | k + 4 => simp only [rK]; omega

theorem place_t (p : Int) : (wrap64 (p.tmod 512 + 512)).tmod 512 = p % 512 := by
  have h : -512 < p.tmod 512 ∧ p.tmod 512 < 512 ∧ ∃ m, p.tmod 512 = p + 512 * m := by
    have e := Int.mul_tdiv_add_tmod p 512
    refine ⟨?_, Int.tmod_lt_of_pos _ (by decide), - p.tdiv 512, by omega⟩
    by_cases c : 0 ≤ p
    · have := Int.tmod_nonneg 512 c; omega
    · have h1 := Int.tmod_lt_of_pos (-p) (show (0 : Int) < 512 by decide)
      rw [Int.neg_tmod] at h1
      omega
  obtain ⟨h1, h2, m, h3⟩ := h
  have e : wrap64 (p.tmod 512 + 512) = p.tmod 512 + 512 := by unfold wrap64; omega
  rw [e, Int.tmod_eq_emod_of_nonneg (by omega)]
  omega

theorem tell_one {x : Int} (p : Int) (h0 : 0 ≤ x) (h1 : x < 68719476736) :
    IntKind.u64.wrap (IntKind.u64.wrap (512 * x) + IntKind.u64.wrap ((wrap64 (p.tmod 512 + 512)).tmod 512)) = x * 512 + p % 512 := by
  rw [place_t, IntKind.wrap_u64, IntKind.wrap_u64, IntKind.wrap_u64]
  omega

theorem tell_all (p q r s low : Int) : IntKind.u64.wrap (IntKind.u64.wrap (4096 * rK p q r s 4) + low % 4096) = placesF p q r s low := by
  simp only [rK, placesF]
  rw [IntKind.wrap_u64, IntKind.wrap_u64]
  omega

theorem ret_u {a b : Int} (h : a = b) : Value.int .u64 a = .int .u64 b := by rw [h]

end Go.Proofs.YtlpjbmlkpmhdlaaDoor
