/- Several texts of ours in one: Ha, Gm, Ga. -/
import Derived.Test.YtopmmlcjlopmaaaGreatDoorGMeEmEa
import Derived.Test.YtopmmlcjlopmaaaGreatDoorGVaVrFr
import Derived.Test.YtopmmlcjlopmaaaGreatDoorGVmRN
import Derived.BigQuiet
import Derived.Deep.DrawnRows
import Derived.OwnWalk
import Derived.Laws.Rows
/- Plain mathematics of walks: the document's walk as a function of the memory's words. Nothing of the program. -/
namespace Go.Proofs.YtopmmlcjlopmaaaGreatDoor
set_option linter.unusedVariables false
set_option linter.unusedSimpArgs false

/-- a walk: its steps (level, slot, word), why it ended, the rights, the leaf's level, and its frame -/
structure Pth where
  steps : List (Int × Int × Int)
  why : Int
  W : Bool
  U : Bool
  X : Bool
  lev : Int
  fr : Int

def offP (y : Int) : Pth := ⟨[], y, false, false, false, 0, 0⟩
def preP (S : List (Int × Int × Int)) (p : Pth) : Pth := ⟨S ++ p.steps, p.why, p.W, p.U, p.X, p.lev, p.fr⟩

theorem preP_nil (p : Pth) : preP [] p = p := rfl
theorem preP_preP (S K : List (Int × Int × Int)) (p : Pth) : preP S (preP K p) = preP (S ++ K) p := by unfold preP; simp

/-- how a word x of a level goes on: k is what is behind it -/
def onP (M : Int) (nxe : Bool) (lev x : Int) (W U X : Bool) (k : Int → Bool → Bool → Bool → Pth) : Pth :=
  if bitF x 0 = false then offP 1
  else if resF x lev M nxe = true then offP 2
  else if leafF x lev = true then ⟨[], 0, W && bitF x 1, U && bitF x 2, X && !bitF x 63, lev, frameF x lev⟩
  else k (tableF x) (W && bitF x 1) (U && bitF x 2) (X && !bitF x 63)

def walkN (M : Int) (f : Int → Int) (a : Int) (nxe : Bool) : Nat → Int → Int → Bool → Bool → Bool → Pth
  | 0, _, _, _, _, _ => offP 2
  | n + 1, lev, t, W, U, X =>
    if errS M (slotF t a lev) = 0 then
      preP [(lev, slotF t a lev, f (slotF t a lev / 8))] (onP M nxe lev (f (slotF t a lev / 8)) W U X (walkN M f a nxe n (lev - 1)))
    else offP 2

/-- a walk from a level on, with a table, and the rights so far -/
def walkZ (M : Int) (f : Int → Int) (a : Int) (nxe : Bool) (lev t : Int) (W U X : Bool) : Pth :=
  if 1 ≤ lev ∧ lev ≤ 4 then walkN M f a nxe lev.toNat lev t W U X else offP 2

theorem walk_off {M : Int} {f : Int → Int} {a : Int} {nxe : Bool} {lev t : Int} {W U X : Bool} (h : ¬ (1 ≤ lev ∧ lev ≤ 4)) : walkZ M f a nxe lev t W U X = offP 2 := if_neg h

theorem walk_in {M : Int} {f : Int → Int} {a : Int} {nxe : Bool} {lev t : Int} {W U X : Bool} (h1 : 1 ≤ lev) (h4 : lev ≤ 4) :
    walkZ M f a nxe lev t W U X = if errS M (slotF t a lev) = 0 then
      preP [(lev, slotF t a lev, f (slotF t a lev / 8))] (onP M nxe lev (f (slotF t a lev / 8)) W U X (walkZ M f a nxe (lev - 1))) else offP 2 := by
  unfold walkZ
  rw [if_pos ⟨h1, h4⟩]
  obtain ⟨n, hn⟩ : ∃ n, lev.toNat = n + 1 := ⟨lev.toNat - 1, by omega⟩
  rw [hn]
  have e : walkN M f a nxe n (lev - 1) = walkZ M f a nxe (lev - 1) := by
    funext t W U X
    unfold walkZ
    by_cases h : 1 ≤ lev - 1 ∧ lev - 1 ≤ 4
    · rw [if_pos h, show (lev - 1).toNat = n by omega]
    · rw [if_neg h, show n = 0 by omega]; rfl
  show (if errS M (slotF t a lev) = 0 then _ else _) = _
  rw [e]
  rfl

section
variable {M : Int} {f : Int → Int} {a : Int} {nxe : Bool} {lev t s x : Int} {W U X : Bool}

theorem walk_err (h1 : 1 ≤ lev) (h4 : lev ≤ 4) (he : errS M (slotF t a lev) ≠ 0) : walkZ M f a nxe lev t W U X = offP 2 := by rw [walk_in h1 h4, if_neg he]
theorem walk_at (h1 : 1 ≤ lev) (h4 : lev ≤ 4) (hs : slotF t a lev = s) (he : errS M s = 0) (hx : f (s / 8) = x) :
    walkZ M f a nxe lev t W U X = preP [(lev, s, x)] (onP M nxe lev x W U X (walkZ M f a nxe (lev - 1))) := by
  subst hs; subst hx; rw [walk_in h1 h4, if_pos he]
theorem on_abs {k : Int → Bool → Bool → Bool → Pth} (h : bitF x 0 = false) : onP M nxe lev x W U X k = offP 1 := if_pos h
theorem on_res {k : Int → Bool → Bool → Bool → Pth} (h : bitF x 0 = true) (hr : resF x lev M nxe = true) : onP M nxe lev x W U X k = offP 2 := by
  unfold onP; rw [if_neg (by simp [h]), if_pos hr]
theorem on_leaf {k : Int → Bool → Bool → Bool → Pth} (h : bitF x 0 = true) (hr : resF x lev M nxe = false) (hl : leafF x lev = true) :
    onP M nxe lev x W U X k = ⟨[], 0, W && bitF x 1, U && bitF x 2, X && !bitF x 63, lev, frameF x lev⟩ := by
  unfold onP; rw [if_neg (by simp [h]), if_neg (by simp [hr]), if_pos hl]
theorem on_on {k : Int → Bool → Bool → Bool → Pth} (h : bitF x 0 = true) (hr : resF x lev M nxe = false) (hl : leafF x lev = false) :
    onP M nxe lev x W U X k = k (tableF x) (W && bitF x 1) (U && bitF x 2) (X && !bitF x 63) := by
  unfold onP; rw [if_neg (by simp [h]), if_neg (by simp [hr]), if_neg (by simp [hl])]
end

/-- what a walk laid on the trace -/
def slotsP (S : List (Int × Int × Int)) : List Int := S.map fun s => s.2.1
end Go.Proofs.YtopmmlcjlopmaaaGreatDoor
/- Plain mathematics of rights: what is left behind a word, who may, and a fault's code. Nothing of the program. -/
namespace Go.Proofs.YtopmmlcjlopmaaaGreatDoor
set_option linter.unusedVariables false
set_option linter.unusedSimpArgs false

def mayWF (W user wp : Bool) : Bool := W || (!user && !wp)
def mayRF (U user ac smap : Bool) : Bool := if user then U else !U || !smap || ac
def mayEF (U user smep : Bool) : Bool := if user then U else !U || !smep
def mayF (W U X : Bool) (k : Int) (user ac wp smep smap : Bool) : Bool :=
  if k = 2 then mayWF W user wp && mayRF U user ac smap else if k = 1 then mayRF U user ac smap else if k = 3 then X && mayEF U user smep else false
def fetF (k : Int) (smep nxe : Bool) : Bool := k == 3 && (smep || nxe)
def oneF (b : Bool) (n : Int) : Int := if b then n else 0
def codeF (p s u r f : Bool) : Int := oneF p 1 + oneF s 2 + oneF u 4 + oneF r 8 + oneF f 16

theorem may2 (W U X user ac wp smep smap : Bool) : mayF W U X 2 user ac wp smep smap = (mayWF W user wp && mayRF U user ac smap) := rfl
theorem may1 (W U X user ac wp smep smap : Bool) : mayF W U X 1 user ac wp smep smap = mayRF U user ac smap := rfl
theorem may3 (W U X user ac wp smep smap : Bool) : mayF W U X 3 user ac wp smep smap = (X && mayEF U user smep) := rfl
theorem may0 (W U X : Bool) {k : Int} (user ac wp smep smap : Bool) (h1 : k ≠ 1) (h2 : k ≠ 2) (h3 : k ≠ 3) : mayF W U X k user ac wp smep smap = false := by
  unfold mayF; rw [if_neg h2, if_neg h1, if_neg h3]

theorem code_or (p s u r f : Bool) : bits .or .i64 (bits .or .i64 (bits .or .i64 (bits .or .i64 (oneF p 1) (oneF s 2)) (oneF u 4)) (oneF r 8)) (oneF f 16) = codeF p s u r f := by
  cases p <;> cases s <;> cases u <;> cases r <;> cases f <;> decide +kernel
end Go.Proofs.YtopmmlcjlopmaaaGreatDoor
/- Contracts of package right: what each call returns; those that take a struct make memory of their own. -/
namespace Go.Proofs.YtopmmlcjlopmaaaGreatDoor
set_option linter.unusedVariables false
set_option linter.unusedSimpArgs false
open Go.ChangeShapes Go.WideShapes Go.ChangeAt Go.RowKit Go.Joins

/-- a right, an access, a control, by value -/
abbrev rgtV (w u x : Bool) : Value := .agg #[.bool w, .bool u, .bool x]
abbrev accV (k : Int) (u c : Bool) : Value := .agg #[.int .i64 k, .bool u, .bool c]
abbrev ctlV (p n e a : Bool) : Value := .agg #[.bool p, .bool n, .bool e, .bool a]

theorem below3 (w : World) (a b c : Obj) : Below w.heap.size w (((w.alloc a).alloc b).alloc c) :=
  ((below_alloc1 _ _).alloc (by simp) _).alloc (by simp; omega) _
theorem below2 (w : World) (a b : Obj) : Below w.heap.size w ((w.alloc a).alloc b) :=
  (below_alloc1 _ _).alloc (by simp) _

theorem part_any (b : Bool) (n : Int) (w : World) :
    Calls Tryz.prog 107 #[.bool b, .int .i64 n] w fun e w' => e = .returned (.int .i64 (oneF b n)) ∧ w = w' := by
  cases b
  · go_enter Tryz.func107, Tryz.ntmps107
    go_wp2
    go_ret
    exact ⟨rfl, rfl⟩
  · go_enter Tryz.func107, Tryz.ntmps107
    go_wp2
    go_ret
    exact ⟨rfl, rfl⟩

set_option maxRecDepth 100000 in
theorem all_any (w : World) :
    Calls Tryz.prog 64 #[] w fun e w' => e = .returned (rgtV true true true) ∧ Below w.heap.size w w' := by
  go_enter Tryz.func64, Tryz.ntmps64
  go_wp2
  refine bodyPost_ret (results_cell_row rfl _ _ w.heap.size _ _ _ _ rfl (last_obj _ _) Tryz.underlying35 rfl rfl) rfl ⟨rfl, below_alloc1 _ _⟩

theorem mayW_any (W U X : Bool) (k : Int) (user ac wp nxe smep smap : Bool) (w : World) :
    Calls Tryz.prog 103 #[rgtV W U X, accV k user ac, ctlV wp nxe smep smap] w fun e w' => e = .returned (.bool (mayWF W user wp)) ∧ Below w.heap.size w w' := by
  cases W <;> cases user <;> cases wp
  all_goals
    go_enter Tryz.func103, Tryz.ntmps103
    go_wp2
    go_ret
    exact ⟨rfl, below3 _ _ _ _⟩

theorem mayR_any (W U X : Bool) (k : Int) (user ac wp nxe smep smap : Bool) (w : World) :
    Calls Tryz.prog 104 #[rgtV W U X, accV k user ac, ctlV wp nxe smep smap] w fun e w' => e = .returned (.bool (mayRF U user ac smap)) ∧ Below w.heap.size w w' := by
  cases user <;> cases U <;> cases smap
  all_goals
    go_enter Tryz.func104, Tryz.ntmps104
    go_wp2
    go_ret
    exact ⟨rfl, below3 _ _ _ _⟩

theorem mayE_any (W U X : Bool) (k : Int) (user ac wp nxe smep smap : Bool) (w : World) :
    Calls Tryz.prog 105 #[rgtV W U X, accV k user ac, ctlV wp nxe smep smap] w fun e w' => e = .returned (.bool (mayEF U user smep)) ∧ Below w.heap.size w w' := by
  cases user <;> cases U
  all_goals
    go_enter Tryz.func105, Tryz.ntmps105
    go_wp2
    go_ret
    exact ⟨rfl, below3 _ _ _ _⟩

end Go.Proofs.YtopmmlcjlopmaaaGreatDoor
