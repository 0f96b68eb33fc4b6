/- Plain mathematics of rights: what is left behind a word, who may, and a fault's code. Nothing of the program. -/
import Derived.Test.YtlpjbmlkpmhdlaaDoorEm
namespace Go.Proofs.YtlpjbmlkpmhdlaaDoor
set_option linter.unusedVariables false
set_option linter.unusedSimpArgs false

def mayWF (W user wp : Bool) : Bool := W || (!user && !wp)
def mayRF (U user ac smap : Bool) : Bool := if user then U else !U || !smap || ac
def mayEF (U user smep : Bool) : Bool := if user then U else !U || !smep
def mayF (W U X : Bool) (k : Int) (user ac wp smep smap : Bool) : Bool :=
  if k = 2 then mayWF W user wp && mayRF U user ac smap else if k = 1 then mayRF U user ac smap else if k = 3 then X && mayEF U user smep else false
def leastF (w u x w' u' x' : Bool) : Bool := (w' || !w) && (u' || !u) && (x' || !x)
def fetF (k : Int) (smep nxe : Bool) : Bool := k == 3 && (smep || nxe)
def oneF (b : Bool) (n : Int) : Int := if b then n else 0
def codeF (p s u r f : Bool) : Int := oneF p 1 + oneF s 2 + oneF u 4 + oneF r 8 + oneF f 16

theorem may2 (W U X user ac wp smep smap : Bool) : mayF W U X 2 user ac wp smep smap = (mayWF W user wp && mayRF U user ac smap) := rfl
theorem may1 (W U X user ac wp smep smap : Bool) : mayF W U X 1 user ac wp smep smap = mayRF U user ac smap := rfl
theorem may3 (W U X user ac wp smep smap : Bool) : mayF W U X 3 user ac wp smep smap = (X && mayEF U user smep) := rfl
theorem may0 (W U X : Bool) {k : Int} (user ac wp smep smap : Bool) (h1 : k ≠ 1) (h2 : k ≠ 2) (h3 : k ≠ 3) : mayF W U X k user ac wp smep smap = false := by
  unfold mayF; rw [if_neg h2, if_neg h1, if_neg h3]

theorem code_or (p s u r f : Bool) : bits .or .i64 (bits .or .i64 (bits .or .i64 (bits .or .i64 (oneF p 1) (oneF s 2)) (oneF u 4)) (oneF r 8)) (oneF f 16) = codeF p s u r f := by
  cases p <;> cases s <;> cases u <;> cases r <;> cases f <;> decide +kernel
end Go.Proofs.YtlpjbmlkpmhdlaaDoor
