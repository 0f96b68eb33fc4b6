/- Plain mathematics of walks: the document's walk as a function of the memory's words. Nothing of the program. -/
import Derived.Test.YtlpjbmlkpmhdlaaDoorMe
import Derived.Test.YtlpjbmlkpmhdlaaDoorEa
namespace Go.Proofs.YtlpjbmlkpmhdlaaDoor
set_option linter.unusedVariables false
set_option linter.unusedSimpArgs false

/-- a walk: its steps (level, slot, word), why it ended, the rights, the leaf's level, and its frame -/
structure Pth where
  steps : List (Int × Int × Int)
  why : Int
  W : Bool
  U : Bool
  X : Bool
  lev : Int
  fr : Int

def offP (y : Int) : Pth := ⟨[], y, false, false, false, 0, 0⟩
def preP (S : List (Int × Int × Int)) (p : Pth) : Pth := ⟨S ++ p.steps, p.why, p.W, p.U, p.X, p.lev, p.fr⟩

theorem preP_nil (p : Pth) : preP [] p = p := rfl
theorem preP_preP (S K : List (Int × Int × Int)) (p : Pth) : preP S (preP K p) = preP (S ++ K) p := by unfold preP; simp

/-- how a word x of a level goes on: k is what is behind it -/
def onP (M : Int) (nxe : Bool) (lev x : Int) (W U X : Bool) (k : Int → Bool → Bool → Bool → Pth) : Pth :=
  if bitF x 0 = false then offP 1
  else if resF x lev M nxe = true then offP 2
  else if leafF x lev = true then ⟨[], 0, W && bitF x 1, U && bitF x 2, X && !bitF x 63, lev, frameF x lev⟩
  else k (tableF x) (W && bitF x 1) (U && bitF x 2) (X && !bitF x 63)

def walkN (M : Int) (f : Int → Int) (a : Int) (nxe : Bool) : Nat → Int → Int → Bool → Bool → Bool → Pth
  | 0, _, _, _, _, _ => offP 2
  | n + 1, lev, t, W, U, X =>
    if errS M (slotF t a lev) = 0 then
      preP [(lev, slotF t a lev, f (slotF t a lev / 8))] (onP M nxe lev (f (slotF t a lev / 8)) W U X (walkN M f a nxe n (lev - 1)))
    else offP 2

/-- a walk from a level on, with a table, and the rights so far -/
def walkZ (M : Int) (f : Int → Int) (a : Int) (nxe : Bool) (lev t : Int) (W U X : Bool) : Pth :=
  if 1 ≤ lev ∧ lev ≤ 4 then walkN M f a nxe lev.toNat lev t W U X else offP 2

theorem walk_off {M : Int} {f : Int → Int} {a : Int} {nxe : Bool} {lev t : Int} {W U X : Bool} (h : ¬ (1 ≤ lev ∧ lev ≤ 4)) : walkZ M f a nxe lev t W U X = offP 2 := if_neg h

theorem walk_in {M : Int} {f : Int → Int} {a : Int} {nxe : Bool} {lev t : Int} {W U X : Bool} (h1 : 1 ≤ lev) (h4 : lev ≤ 4) :
    walkZ M f a nxe lev t W U X = if errS M (slotF t a lev) = 0 then
      preP [(lev, slotF t a lev, f (slotF t a lev / 8))] (onP M nxe lev (f (slotF t a lev / 8)) W U X (walkZ M f a nxe (lev - 1))) else offP 2 := by
  unfold walkZ
  rw [if_pos ⟨h1, h4⟩]
  obtain ⟨n, hn⟩ : ∃ n, lev.toNat = n + 1 := ⟨lev.toNat - 1, by omega⟩
  rw [hn]
  have e : walkN M f a nxe n (lev - 1) = walkZ M f a nxe (lev - 1) := by
    funext t W U X
    unfold walkZ
    by_cases h : 1 ≤ lev - 1 ∧ lev - 1 ≤ 4
    · rw [if_pos h, show (lev - 1).toNat = n by omega]
    · rw [if_neg h, show n = 0 by omega]; rfl
  show (if errS M (slotF t a lev) = 0 then _ else _) = _
  rw [e]
  rfl

section
variable {M : Int} {f : Int → Int} {a : Int} {nxe : Bool} {lev t s x : Int} {W U X : Bool}

theorem walk_err (h1 : 1 ≤ lev) (h4 : lev ≤ 4) (he : errS M (slotF t a lev) ≠ 0) : walkZ M f a nxe lev t W U X = offP 2 := by rw [walk_in h1 h4, if_neg he]
theorem walk_at (h1 : 1 ≤ lev) (h4 : lev ≤ 4) (hs : slotF t a lev = s) (he : errS M s = 0) (hx : f (s / 8) = x) :
    walkZ M f a nxe lev t W U X = preP [(lev, s, x)] (onP M nxe lev x W U X (walkZ M f a nxe (lev - 1))) := by
  subst hs; subst hx; rw [walk_in h1 h4, if_pos he]
theorem on_abs {k : Int → Bool → Bool → Bool → Pth} (h : bitF x 0 = false) : onP M nxe lev x W U X k = offP 1 := if_pos h
theorem on_res {k : Int → Bool → Bool → Bool → Pth} (h : bitF x 0 = true) (hr : resF x lev M nxe = true) : onP M nxe lev x W U X k = offP 2 := by
  unfold onP; rw [if_neg (by simp [h]), if_pos hr]
theorem on_leaf {k : Int → Bool → Bool → Bool → Pth} (h : bitF x 0 = true) (hr : resF x lev M nxe = false) (hl : leafF x lev = true) :
    onP M nxe lev x W U X k = ⟨[], 0, W && bitF x 1, U && bitF x 2, X && !bitF x 63, lev, frameF x lev⟩ := by
  unfold onP; rw [if_neg (by simp [h]), if_neg (by simp [hr]), if_pos hl]
theorem on_on {k : Int → Bool → Bool → Bool → Pth} (h : bitF x 0 = true) (hr : resF x lev M nxe = false) (hl : leafF x lev = false) :
    onP M nxe lev x W U X k = k (tableF x) (W && bitF x 1) (U && bitF x 2) (X && !bitF x 63) := by
  unfold onP; rw [if_neg (by simp [h]), if_neg (by simp [hr]), if_neg (by simp [hl])]
end

/-- what a walk laid on the trace -/
def slotsP (S : List (Int × Int × Int)) : List Int := S.map fun s => s.2.1
end Go.Proofs.YtlpjbmlkpmhdlaaDoor
