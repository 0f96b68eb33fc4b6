/- What was there has not turned: Below, behind a name of its own. Nothing of the program. -/
import Derived.WalkKit
import Derived.ProofKit
import Derived.Below
namespace Go.Proofs.YtlpjbmlkpmhdlaaDoor
set_option linter.unusedVariables false
set_option linter.unusedSimpArgs false
open Go.ChangeShapes Go.WideShapes Go.ChangeAt Go.RowKit

/-- nothing that was there has turned -/
def Kept (w w' : World) : Prop := Below w.heap.size w w'
theorem Kept.drew0 (w : World) : Kept w w.drew := (Below.refl _ _).drew
theorem calls_kept {P : Program} {f : FuncId} {args : Array Value} {w : World} {v : Value} (h : Calls P f args w fun e w' => e = .returned v ∧ Below w.heap.size w w') : Calls P f args w fun e w' => e = .returned v ∧ Kept w w' := h
theorem Kept.step {w w' w2 : World} (hb : Kept w' w2) (h : Kept w w') : Kept w w2 := Below.trans h (Below.mono hb h.size)
theorem Kept.cell {w w' : World} (h : Kept w w') {p : Addr} {v : Value} (hc : w.cell? p = some v) (hp : p.block < w.heap.size) : w'.cell? p = some v := (Below.cell h hp).trans hc
theorem Kept.size {w w' : World} (h : Kept w w') : w.heap.size ≤ w'.heap.size := Below.size h

end Go.Proofs.YtlpjbmlkpmhdlaaDoor
