/- A walk goes on from the place to which a step leads as the whole one does. Nothing of the program. -/
import Derived.Test.YtlpjbmlkpmhdlaaDoorHm
namespace Go.Proofs.YtlpjbmlkpmhdlaaDoor
set_option linter.unusedVariables false
set_option linter.unusedSimpArgs false

theorem slot_table (t a l : Int) : tableF (slotF t a l) = tableF t := by
  have h := index_bd0 a l
  unfold slotF tableF
  omega
theorem slot_slot (t a l : Int) : slotF (slotF t a l) a l = slotF t a l := by
  show tableF (slotF t a l) + _ = tableF t + _
  rw [slot_table]

/-- the rights behind the first k words -/
def rgtF : Bool → Bool → Bool → List (Int × Int × Int) → Nat → Bool × Bool × Bool
  | W, U, X, _, 0 => (W, U, X)
  | W, U, X, [], _ + 1 => (W, U, X)
  | W, U, X, p :: S, k + 1 => rgtF (W && bitF p.2.2 1) (U && bitF p.2.2 2) (X && !bitF p.2.2 63) S k

theorem rgt_step : ∀ (S : List (Int × Int × Int)) (k : Nat) (W U X : Bool), k < S.length →
    rgtF W U X S (k + 1) = ((rgtF W U X S k).1 && bitF (stepAt S k).2.2 1, (rgtF W U X S k).2.1 && bitF (stepAt S k).2.2 2, (rgtF W U X S k).2.2 && !bitF (stepAt S k).2.2 63)
  | [], k, W, U, X, h => by simp at h
  | p :: S, 0, W, U, X, _ => by simp [rgtF, stepAt]
  | p :: S, k + 1, W, U, X, h => by
    have := rgt_step S k (W && bitF p.2.2 1) (U && bitF p.2.2 2) (X && !bitF p.2.2 63) (by simpa using h)
    simpa [rgtF, stepAt] using this

/-- the path from its step k on -/
def dropP (k : Nat) (P : Pth) : Pth := ⟨P.steps.drop k, P.why, P.W, P.U, P.X, P.lev, P.fr⟩

theorem walk_on {M : Int} {f : Int → Int} {a : Int} {nxe : Bool} : ∀ (k : Nat) (lev t : Int) (W U X : Bool), 1 ≤ lev → lev ≤ 4 → k < (walkZ M f a nxe lev t W U X).steps.length →
    walkZ M f a nxe (stepAt (walkZ M f a nxe lev t W U X).steps k).1 (stepAt (walkZ M f a nxe lev t W U X).steps k).2.1 (rgtF W U X (walkZ M f a nxe lev t W U X).steps k).1 (rgtF W U X (walkZ M f a nxe lev t W U X).steps k).2.1 (rgtF W U X (walkZ M f a nxe lev t W U X).steps k).2.2 = dropP k (walkZ M f a nxe lev t W U X)
  | 0, lev, t, W, U, X, h1, h4, hk => by
    have e : walkZ M f a nxe lev t W U X = walkZ M f a nxe lev t W U X := rfl
    by_cases he : errS M (slotF t a lev) = 0
    · have hw := walk_at (M := M) (f := f) (a := a) (nxe := nxe) (W := W) (U := U) (X := X) h1 h4 rfl he rfl
      have hw2 := walk_at (M := M) (f := f) (a := a) (nxe := nxe) (t := slotF t a lev) (W := W) (U := U) (X := X) h1 h4 (slot_slot t a lev) he rfl
      rw [hw]
      show walkZ M f a nxe lev (slotF t a lev) W U X = _
      rw [hw2]
      rfl
    · rw [walk_err h1 h4 he] at hk; simp [offP] at hk
  | k + 1, lev, t, W, U, X, h1, h4, hk => by
    by_cases he : errS M (slotF t a lev) = 0
    · have hw := walk_at (M := M) (f := f) (a := a) (nxe := nxe) (W := W) (U := U) (X := X) h1 h4 rfl he rfl
      generalize slotF t a lev = s at *
      generalize f (s / 8) = x at *
      rw [hw] at hk ⊢
      have hlen : k < (onP M nxe lev x W U X (walkZ M f a nxe (lev - 1))).steps.length := by simpa [preP] using hk
      have hon : onP M nxe lev x W U X (walkZ M f a nxe (lev - 1)) = walkZ M f a nxe (lev - 1) (tableF x) (W && bitF x 1) (U && bitF x 2) (X && !bitF x 63) := by
        cases hP : bitF x 0
        · rw [on_abs hP] at hlen; simp [offP] at hlen
        · cases hR : resF x lev M nxe
          · cases hL : leafF x lev
            · exact on_on hP hR hL
            · rw [on_leaf hP hR hL] at hlen; simp at hlen
          · rw [on_res hP hR] at hlen; simp [offP] at hlen
      rw [hon] at hlen ⊢
      have h1' : 1 ≤ lev - 1 := by
        apply Classical.byContradiction
        intro hn
        rw [walk_off (by omega)] at hlen
        simp [offP] at hlen
      have ih := walk_on (M := M) (f := f) (a := a) (nxe := nxe) k (lev - 1) (tableF x) (W && bitF x 1) (U && bitF x 2) (X && !bitF x 63) h1' (by omega) hlen
      generalize walkZ M f a nxe (lev - 1) (tableF x) (W && bitF x 1) (U && bitF x 2) (X && !bitF x 63) = Q at *
      have e1 : stepAt (preP [(lev, s, x)] Q).steps (k + 1) = stepAt Q.steps k := by simp [preP, stepAt]
      have e2 : rgtF W U X (preP [(lev, s, x)] Q).steps (k + 1) = rgtF (W && bitF x 1) (U && bitF x 2) (X && !bitF x 63) Q.steps k := rfl
      have e3 : dropP (k + 1) (preP [(lev, s, x)] Q) = dropP k Q := rfl
      rw [e1, e2, e3]
      exact ih
    · rw [walk_err h1 h4 he] at hk; simp [offP] at hk
end Go.Proofs.YtlpjbmlkpmhdlaaDoor
