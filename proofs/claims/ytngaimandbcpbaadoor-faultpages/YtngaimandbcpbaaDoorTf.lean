/- Layer 7: from the condition of FaultPages' row, which lists three tables beside package errors' own variable, to what its walk asks. -/
import Derived.Test.YtngaimandbcpbaaDoorTe
import Derived.Test.YtngaimandbcpbaaDoorL7p
import Derived.Lib.LaidTab
import Derived.Stop.LaidErr
namespace Go.Proofs.YtngaimandbcpbaaDoor
set_option linter.unusedVariables false
set_option linter.unusedSimpArgs false
open Go.ChangeShapes Go.WideShapes Go.ChangeAt Go.RowKit Go.Joins

def laidPages : List (String × DataW Unit) := [("math/bits.deBruijn32tab", Rows.laid_math_bits_deBruijn32tab), ("math/bits.deBruijn64tab", Rows.laid_math_bits_deBruijn64tab), ("internal/strconv.uint64pow10", Rows.laid_internal_strconv_uint64pow10), ("errors.errorType", Rows.laid_errors_errorType)]

theorem pages_met (os : Os) (args : Array Value) : laidMetH Tryd.prog laidPages ((World.doorLaid Tryd.prog 400 os).forCall (fun _ _ => 0) ⟨#[], args, []⟩).memory :=
  laidMetH_of_parts3 (fuel := 8) (laidMet_of_run' 8 (by kernel_rfl) (by kernel_rfl)) (by kernel_rfl) (by kernel_rfl)

theorem pages_parts {W : World} (h : laidMetH Tryd.prog laidPages W) : laidMet Tryd.prog [("math/bits.deBruijn32tab", Rows.laid_math_bits_deBruijn32tab), ("math/bits.deBruijn64tab", Rows.laid_math_bits_deBruijn64tab), ("internal/strconv.uint64pow10", Rows.laid_internal_strconv_uint64pow10)] W ∧ handlesMet Tryd.prog [("errors.errorType", Rows.laid_errors_errorType)] W := h

theorem errT_of_pages {W : World} (h : laidMetH Tryd.prog laidPages W) : ErrT W := errT_of_handles (pages_parts h).2 (List.mem_singleton.2 rfl)

theorem g64 : Tryd.prog.globalNamed "math/bits.deBruijn64tab" = some 3 := by kernel_rfl
theorem t64 : (Tryd.prog.globals[3]?).map (·.type) = some 109 := by kernel_rfl
theorem g10 : Tryd.prog.globalNamed "internal/strconv.uint64pow10" = some 1 := by kernel_rfl
theorem t10 : (Tryd.prog.globals[1]?).map (·.type) = some 101 := by kernel_rfl

set_option maxRecDepth 100000 in
theorem tz_of_pages {W : World} (h : laidMetH Tryd.prog laidPages W) : Tz W := by
  have hT : Lib.TabIs Tryd.prog W "math/bits.deBruijn64tab" .u8 [0, 1, 56, 2, 57, 49, 28, 3, 61, 58, 42, 50, 38, 29, 17, 4, 62, 47, 59, 36, 45, 43, 51, 22, 53, 39, 33, 30, 24, 18, 12, 5, 63, 55, 48, 27, 60, 41, 37, 16, 46, 35, 44, 21, 52, 32, 23, 11, 54, 26, 40, 15, 34, 20, 31, 10, 25, 14, 19, 9, 13, 8, 7, 6] :=
    Lib.tabIs_of_head g64 t64 Tryd.underlying109 Tryd.underlying5 (by kernel_rfl) (by kernel_rfl) (Go.laidMet.tail (pages_parts h).1)
  exact hT.cell g64 15 (by decide)
set_option maxRecDepth 100000 in
theorem pow_of_pages {W : World} (h : laidMetH Tryd.prog laidPages W) : Pow2 W := by
  have hT : Lib.TabIs Tryd.prog W "internal/strconv.uint64pow10" .u64 [1, 10, 100, 1000, 10000, 100000, 1000000, 10000000, 100000000, 1000000000, 10000000000, 100000000000, 1000000000000, 10000000000000, 100000000000000, 1000000000000000, 10000000000000000, 100000000000000000, 1000000000000000000, 10000000000000000000] :=
    Lib.tabIs_of_head g10 t10 Tryd.underlying101 Tryd.underlying22 (by kernel_rfl) (by kernel_rfl) (Go.laidMet.tail (Go.laidMet.tail (pages_parts h).1))
  exact hT.cell g10 2 (by decide)
end Go.Proofs.YtngaimandbcpbaaDoor
