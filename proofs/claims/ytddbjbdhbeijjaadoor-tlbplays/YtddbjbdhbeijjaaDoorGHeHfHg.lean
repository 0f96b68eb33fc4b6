/- Several texts of ours in one: He, Hf, Hg. -/
import Derived.Test.YtddbjbdhbeijjaaDoorGCcHdSm
import Derived.BigQuiet
import Derived.Deep.Cut
import Derived.Test.YtddbjbdhbeijjaaDoorGHcDpWa
import Derived.Test.YtddbjbdhbeijjaaDoorGWmMdMe
/- Contracts of package walk: From. (Laid by tools/gen_he.py.) -/
namespace Go.Proofs.YtddbjbdhbeijjaaDoor
set_option linter.unusedVariables false
set_option linter.unusedSimpArgs false
open Go.ChangeShapes Go.WideShapes Go.ChangeAt Go.RowKit Go.Joins

end Go.Proofs.YtddbjbdhbeijjaaDoor
/- Words that are written: At, Near, built of the law's own; tiny. -/
namespace Go.Proofs.YtddbjbdhbeijjaaDoor
set_option linter.unusedVariables false
set_option linter.unusedSimpArgs false
open Go.ChangeShapes Go.WideShapes Go.ChangeAt Go.RowKit Go.Joins

def nearF (n : Int) : Int := n % 8 * 549755813888 + n / 8 % 8 * 1073741824 + n / 64 % 8 * 2097152 + n / 512 % 8 * 4096 + n / 4096 % 4096

theorem wrap32 {a : Int} (h0 : 0 ≤ a) (h1 : a < 4294967296) : IntKind.u32.wrap a = a := by
  show a % 4294967296 = a
  omega
set_option maxRecDepth 100000 in
theorem near_any (n : Int) (w : World) (n0 : 0 ≤ n) (n1 : n < 4294967296) :
    Calls Tryd.prog 27 #[.int .u32 n] w fun e w' => e = .returned (.int .u64 (nearF n)) ∧ w = w' := by
  obtain ⟨a, ha⟩ : ∃ a, n % 8 = a := ⟨_, rfl⟩
  obtain ⟨b, hb⟩ : ∃ b, n / 8 = b := ⟨_, rfl⟩
  obtain ⟨c, hc⟩ : ∃ c, b % 8 = c := ⟨_, rfl⟩
  obtain ⟨d, hd⟩ : ∃ d, n / 64 = d := ⟨_, rfl⟩
  obtain ⟨e, he⟩ : ∃ e, d % 8 = e := ⟨_, rfl⟩
  obtain ⟨f, hf⟩ : ∃ f, n / 512 = f := ⟨_, rfl⟩
  obtain ⟨g, hg⟩ : ∃ g, f % 8 = g := ⟨_, rfl⟩
  obtain ⟨h, hh⟩ : ∃ h, n / 4096 = h := ⟨_, rfl⟩
  obtain ⟨i, hi⟩ : ∃ i, h % 4096 = i := ⟨_, rfl⟩
  have E := Lib.hid (show nearF n = a * 549755813888 + c * 1073741824 + e * 2097152 + g * 4096 + i by unfold nearF; rw [ha, hb, hc, hd, he, hf, hg, hh, hi])
  have e1 : n.tmod 8 = a := by rw [Int.tmod_eq_emod_of_nonneg n0, ha]
  have e2 : n.tdiv 8 = b := by rw [Int.tdiv_eq_ediv_of_nonneg n0, hb]
  have e3 : b.tmod 8 = c := by rw [Int.tmod_eq_emod_of_nonneg (by omega), hc]
  have e4 : n.tdiv 64 = d := by rw [Int.tdiv_eq_ediv_of_nonneg n0, hd]
  have e5 : d.tmod 8 = e := by rw [Int.tmod_eq_emod_of_nonneg (by omega), he]
  have e6 : n.tdiv 512 = f := by rw [Int.tdiv_eq_ediv_of_nonneg n0, hf]
  have e7 : f.tmod 8 = g := by rw [Int.tmod_eq_emod_of_nonneg (by omega), hg]
  have e8 : n.tdiv 4096 = h := by rw [Int.tdiv_eq_ediv_of_nonneg n0, hh]
  have e9 : h.tmod 4096 = i := by rw [Int.tmod_eq_emod_of_nonneg (by omega), hi]
  have f1 : IntKind.u32.wrap a = a := wrap32 (by omega) (by omega)
  have f2 : IntKind.u32.wrap b = b := wrap32 (by omega) (by omega)
  have f3 : IntKind.u32.wrap c = c := wrap32 (by omega) (by omega)
  have f4 : IntKind.u32.wrap d = d := wrap32 (by omega) (by omega)
  have f5 : IntKind.u32.wrap e = e := wrap32 (by omega) (by omega)
  have f6 : IntKind.u32.wrap f = f := wrap32 (by omega) (by omega)
  have f7 : IntKind.u32.wrap g = g := wrap32 (by omega) (by omega)
  have f8 : IntKind.u32.wrap h = h := wrap32 (by omega) (by omega)
  have f9 : IntKind.u32.wrap i = i := wrap32 (by omega) (by omega)
  have g1 : IntKind.u64.wrap a = a := wrap_in (by omega) (by omega)
  have g3 : IntKind.u64.wrap c = c := wrap_in (by omega) (by omega)
  have g5 : IntKind.u64.wrap e = e := wrap_in (by omega) (by omega)
  have g7 : IntKind.u64.wrap g = g := wrap_in (by omega) (by omega)
  have g9 : IntKind.u64.wrap i = i := wrap_in (by omega) (by omega)
  have k1 : IntKind.u64.wrap (a * 549755813888) = a * 549755813888 := wrap_in (by omega) (by omega)
  have k2 : IntKind.u64.wrap (c * 1073741824) = c * 1073741824 := wrap_in (by omega) (by omega)
  have k3 : IntKind.u64.wrap (e * 2097152) = e * 2097152 := wrap_in (by omega) (by omega)
  have k4 : IntKind.u64.wrap (g * 4096) = g * 4096 := wrap_in (by omega) (by omega)
  have k5 : IntKind.u64.wrap (a * 549755813888 + c * 1073741824) = a * 549755813888 + c * 1073741824 := wrap_in (by omega) (by omega)
  have k6 : IntKind.u64.wrap (a * 549755813888 + c * 1073741824 + e * 2097152) = a * 549755813888 + c * 1073741824 + e * 2097152 := wrap_in (by omega) (by omega)
  have k7 : IntKind.u64.wrap (a * 549755813888 + c * 1073741824 + e * 2097152 + g * 4096) = a * 549755813888 + c * 1073741824 + e * 2097152 + g * 4096 := wrap_in (by omega) (by omega)
  have k8 : IntKind.u64.wrap (a * 549755813888 + c * 1073741824 + e * 2097152 + g * 4096 + i) = a * 549755813888 + c * 1073741824 + e * 2097152 + g * 4096 + i := wrap_in (by omega) (by omega)
  rw [E.out]
  clear ha hb hc hd he hf hg hh hi
  go_enter Tryd.func27, Tryd.ntmps27
  go_wp2
  go_ret
  exact ⟨rfl, rfl⟩

end Go.Proofs.YtddbjbdhbeijjaaDoor
/- awake of layer 8. -/
namespace Go.Proofs.YtddbjbdhbeijjaaDoor
set_option linter.unusedVariables false
set_option linter.unusedSimpArgs false
open Go.ChangeShapes Go.WideShapes Go.ChangeAt Go.RowKit Go.Joins

theorem w0 : W64 0 := ⟨by decide, by decide⟩

theorem shifts_under {w w' : World} {B : Nat} (hs : Shifts w) (hb : Below B w w') (hB : 1 < B) : Shifts w' :=
  shifts_turn hs (Turn.of_below hb) (by omega)
theorem size_shifts {w : World} (hs : Shifts w) : 1 < w.heap.size := World.block_lt_of_cell? _ _ hs.1

end Go.Proofs.YtddbjbdhbeijjaaDoor
