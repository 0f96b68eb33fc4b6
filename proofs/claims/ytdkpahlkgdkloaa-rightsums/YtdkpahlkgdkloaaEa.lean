/- Contracts of package entry: what each call returns; Parse and Word make memory of their own, the others leave the world as it was. -/
import Derived.Test.YtdkpahlkgdkloaaEm
import Derived.Test.YtdkpahlkgdkloaaVa
import Derived.Test.YtdkpahlkgdkloaaFr
import Derived.BigQuiet
import Derived.Deep.DrawnRows
import Derived.OwnWalk
import Derived.Laws.Rows
namespace Go.Proofs.Ytdkpahlkgdkloaa
set_option linter.unusedVariables false
set_option linter.unusedSimpArgs false
open Go.ChangeShapes Go.WideShapes Go.ChangeAt Go.RowKit Go.Joins

/-- an entry, by value -/
abbrev entV (p w u a d s n : Bool) (f : Int) : Value := .agg #[.bool p, .bool w, .bool u, .bool a, .bool d, .bool s, .bool n, .int .u64 f]
/-- what a word says -/
abbrev saysV (x : Int) : Value := entV (bitF x 0) (bitF x 1) (bitF x 2) (bitF x 5) (bitF x 6) (bitF x 7) (bitF x 63) (tableF x)

theorem below_drewN {n : Nat} {w w' : World} (h : Below n w w') (k : Nat) : Below n w (w'.drewN k) := h.trans ⟨rfl, rfl, rfl, Nat.le_refl _, fun _ _ => rfl⟩

theorem last_obj (w : World) (o : Obj) : (w.alloc o).heap[w.heap.size]? = some o := by
  show (w.heap.push o)[w.heap.size]? = some o
  simp

theorem i64_40 : I64 40 := ⟨by decide, by decide⟩
theorem i64_8 : I64 8 := ⟨by decide, by decide⟩
theorem i64_17 : I64 17 := ⟨by decide, by decide⟩

theorem says_has (x : Int) : entV (hasF x 1) (hasF x 2) (hasF x 4) (hasF x 32) (hasF x 64) (hasF x 128) (hasF x 9223372036854775808) (tableF x) = saysV x := by
  rw [has_b0, has_b1, has_b2, has_b5, has_b6, has_b7, has_b63]
theorem ret_val {v u : Value} (h : v = u) : Ending.returned v = .returned u := by rw [h]

end Go.Proofs.Ytdkpahlkgdkloaa
