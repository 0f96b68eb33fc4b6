/- Several texts of ours in one: Gm, Ga, Kp. -/
import Derived.Test.YtlpjbmlkpmhdlaaDoorGEmEaHa
import Derived.Test.YtlpjbmlkpmhdlaaDoorGVaVrFr
import Derived.Test.YtlpjbmlkpmhdlaaDoorGVmRN
import Derived.BigQuiet
import Derived.Deep.DrawnRows
import Derived.OwnWalk
import Derived.Laws.Rows
import Derived.WalkKit
import Derived.ProofKit
import Derived.Below
/- Plain mathematics of rights: what is left behind a word, who may, and a fault's code. Nothing of the program. -/
namespace Go.Proofs.YtlpjbmlkpmhdlaaDoor
set_option linter.unusedVariables false
set_option linter.unusedSimpArgs false

def mayWF (W user wp : Bool) : Bool := W || (!user && !wp)
def mayRF (U user ac smap : Bool) : Bool := if user then U else !U || !smap || ac
def mayEF (U user smep : Bool) : Bool := if user then U else !U || !smep
def mayF (W U X : Bool) (k : Int) (user ac wp smep smap : Bool) : Bool :=
  if k = 2 then mayWF W user wp && mayRF U user ac smap else if k = 1 then mayRF U user ac smap else if k = 3 then X && mayEF U user smep else false
def leastF (w u x w' u' x' : Bool) : Bool := (w' || !w) && (u' || !u) && (x' || !x)
def fetF (k : Int) (smep nxe : Bool) : Bool := k == 3 && (smep || nxe)
def oneF (b : Bool) (n : Int) : Int := if b then n else 0
def codeF (p s u r f : Bool) : Int := oneF p 1 + oneF s 2 + oneF u 4 + oneF r 8 + oneF f 16

theorem may2 (W U X user ac wp smep smap : Bool) : mayF W U X 2 user ac wp smep smap = (mayWF W user wp && mayRF U user ac smap) := rfl
theorem may1 (W U X user ac wp smep smap : Bool) : mayF W U X 1 user ac wp smep smap = mayRF U user ac smap := rfl
theorem may3 (W U X user ac wp smep smap : Bool) : mayF W U X 3 user ac wp smep smap = (X && mayEF U user smep) := rfl
theorem may0 (W U X : Bool) {k : Int} (user ac wp smep smap : Bool) (h1 : k ≠ 1) (h2 : k ≠ 2) (h3 : k ≠ 3) : mayF W U X k user ac wp smep smap = false := by
  unfold mayF; rw [if_neg h2, if_neg h1, if_neg h3]

theorem code_or (p s u r f : Bool) : bits .or .i64 (bits .or .i64 (bits .or .i64 (bits .or .i64 (oneF p 1) (oneF s 2)) (oneF u 4)) (oneF r 8)) (oneF f 16) = codeF p s u r f := by
  cases p <;> cases s <;> cases u <;> cases r <;> cases f <;> decide +kernel
end Go.Proofs.YtlpjbmlkpmhdlaaDoor
/- Contracts of package right: what each call returns; those that take a struct make memory of their own. -/
namespace Go.Proofs.YtlpjbmlkpmhdlaaDoor
set_option linter.unusedVariables false
set_option linter.unusedSimpArgs false
open Go.ChangeShapes Go.WideShapes Go.ChangeAt Go.RowKit Go.Joins

/-- a right, an access, a control, by value -/
abbrev rgtV (w u x : Bool) : Value := .agg #[.bool w, .bool u, .bool x]
abbrev accV (k : Int) (u c : Bool) : Value := .agg #[.int .i64 k, .bool u, .bool c]
abbrev ctlV (p n e a : Bool) : Value := .agg #[.bool p, .bool n, .bool e, .bool a]

theorem below3 (w : World) (a b c : Obj) : Below w.heap.size w (((w.alloc a).alloc b).alloc c) :=
  ((below_alloc1 _ _).alloc (by simp) _).alloc (by simp; omega) _
theorem below2 (w : World) (a b : Obj) : Below w.heap.size w ((w.alloc a).alloc b) :=
  (below_alloc1 _ _).alloc (by simp) _

set_option maxRecDepth 100000 in
theorem all_any (w : World) :
    Calls Tryd.prog 27 #[] w fun e w' => e = .returned (rgtV true true true) ∧ Below w.heap.size w w' := by
  go_enter Tryd.func27, Tryd.ntmps27
  go_wp2
  refine bodyPost_ret (results_cell_row rfl _ _ w.heap.size _ _ _ _ rfl (last_obj _ _) Tryd.underlying25 rfl rfl) rfl ⟨rfl, below_alloc1 _ _⟩

end Go.Proofs.YtlpjbmlkpmhdlaaDoor
/- What was there has not turned: Below, behind a name of its own. Nothing of the program. -/
namespace Go.Proofs.YtlpjbmlkpmhdlaaDoor
set_option linter.unusedVariables false
set_option linter.unusedSimpArgs false
open Go.ChangeShapes Go.WideShapes Go.ChangeAt Go.RowKit

/-- nothing that was there has turned -/
def Kept (w w' : World) : Prop := Below w.heap.size w w'
theorem Kept.drew0 (w : World) : Kept w w.drew := (Below.refl _ _).drew
theorem calls_kept {P : Program} {f : FuncId} {args : Array Value} {w : World} {v : Value} (h : Calls P f args w fun e w' => e = .returned v ∧ Below w.heap.size w w') : Calls P f args w fun e w' => e = .returned v ∧ Kept w w' := h
theorem Kept.step {w w' w2 : World} (hb : Kept w' w2) (h : Kept w w') : Kept w w2 := Below.trans h (Below.mono hb h.size)
theorem Kept.cell {w w' : World} (h : Kept w w') {p : Addr} {v : Value} (hc : w.cell? p = some v) (hp : p.block < w.heap.size) : w'.cell? p = some v := (Below.cell h hp).trans hc
theorem Kept.size {w w' : World} (h : Kept w w') : w.heap.size ≤ w'.heap.size := Below.size h

end Go.Proofs.YtlpjbmlkpmhdlaaDoor
