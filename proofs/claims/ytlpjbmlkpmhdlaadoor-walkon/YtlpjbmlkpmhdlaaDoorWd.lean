/- Contracts of package word: the calls that make no memory. -/
import Derived.Test.YtlpjbmlkpmhdlaaDoorA
import Derived.Test.YtlpjbmlkpmhdlaaDoorBy
import Derived.Lib.Hide
namespace Go.Proofs.YtlpjbmlkpmhdlaaDoor
set_option linter.unusedVariables false
set_option linter.unusedSimpArgs false
open Go.ChangeShapes Go.WideShapes Go.ChangeAt Go.RowKit

theorem i64_bits {n : Int} (h0 : 1 ≤ n) (h1 : n ≤ 8) : I64 (8 * n) := by unfold I64; omega

theorem wrap_byte {x : Int} (hx : W64 x) (i : Int) : IntKind.u8.wrap (cutF x i 1) = byteF x i := by
  obtain ⟨h0, h1⟩ := byte_lt x i hx
  rw [IntKind.wrap_u8]
  exact Int.emod_eq_of_lt h0 h1

end Go.Proofs.YtlpjbmlkpmhdlaaDoor
