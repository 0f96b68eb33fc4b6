/- Several texts of ours in one: Ea, Ha, Gm. -/
import Derived.Test.YtiihhlmddmicjaaDoorGMdMeEm
import Derived.Test.YtiihhlmddmicjaaDoorGVaVrFr
import Derived.BigQuiet
import Derived.Deep.DrawnRows
import Derived.OwnWalk
import Derived.Laws.Rows
/- Contracts of package entry: what each call returns; Parse and Word make memory of their own, the others leave the world as it was. -/
namespace Go.Proofs.YtiihhlmddmicjaaDoor
set_option linter.unusedVariables false
set_option linter.unusedSimpArgs false
open Go.ChangeShapes Go.WideShapes Go.ChangeAt Go.RowKit Go.Joins

theorem below_drewN {n : Nat} {w w' : World} (h : Below n w w') (k : Nat) : Below n w (w'.drewN k) := h.trans ⟨rfl, rfl, rfl, Nat.le_refl _, fun _ _ => rfl⟩

theorem last_obj (w : World) (o : Obj) : (w.alloc o).heap[w.heap.size]? = some o := by
  show (w.heap.push o)[w.heap.size]? = some o
  simp

theorem has_any (x m : Int) (w : World) :
    Calls Tryd.prog 81 #[.int .u64 x, .int .u64 m] w fun e w' => e = .returned (.bool (hasF x m)) ∧ w = w' := by
  go_enter Tryd.func81, Tryd.ntmps81
  go_wp2
  go_ret
  exact ⟨rfl, rfl⟩

theorem i64_40 : I64 40 := ⟨by decide, by decide⟩
theorem i64_8 : I64 8 := ⟨by decide, by decide⟩
theorem i64_17 : I64 17 := ⟨by decide, by decide⟩

theorem table_any (x : Int) (w : World) (hx : W64 x) :
    Calls Tryd.prog 56 #[.int .u64 x] w fun e w' => e = .returned (.int .u64 (tableF x)) ∧ w = w' := by
  have e := Lib.hid (table_and hx)
  go_enter Tryd.func56, Tryd.ntmps56
  go_wp2_with (go_at_call 83; refine (mask_any _ _ _ i64_40).mono ?_; rintro e w' ⟨rfl, rfl⟩)
  go_ret
  exact ⟨ret_int e.out, rfl⟩

theorem beyond_any (b : Int) (w : World) (hb : I64 b) :
    Calls Tryd.prog 82 #[.int .i64 b] w fun e w' => e = .returned (.int .u64 (beyondF b)) ∧ w = w' := by
  obtain ⟨h1, h2⟩ := hb
  by_cases c : b < 12
  · have e : beyondF b = maskF 12 40 := by unfold beyondF lowB; rw [if_pos c]; rfl
    rw [e]
    go_enter Tryd.func82, Tryd.ntmps82
    go_wp2_with (go_at_call 83; refine (mask_any _ _ _ i64_40).mono ?_; rintro e w' ⟨rfl, rfl⟩)
    go_ret
    exact ⟨rfl, rfl⟩
  · have e : beyondF b = maskF b (52 - b) := by unfold beyondF lowB; rw [if_neg c]
    rw [e]
    have hn : I64 (52 - b) := by unfold I64; omega
    go_enter Tryd.func82, Tryd.ntmps82
    go_wp2_with (go_at_call 83; refine (mask_any _ _ _ hn).mono ?_; rintro e w' ⟨rfl, rfl⟩)
    go_ret
    exact ⟨rfl, rfl⟩

theorem leaf_any (x l : Int) (w : World) :
    Calls Tryd.prog 52 #[.int .u64 x, .int .i64 l] w fun e w' => e = .returned (.bool (leafF x l)) ∧ w = w' := by
  have b7 := Lib.hid (has_b7 x)
  by_cases h1 : l = 1
  · subst h1
    go_enter Tryd.func52, Tryd.ntmps52
    go_wp2
    go_ret
    exact ⟨rfl, rfl⟩
  · by_cases h2 : l = 2
    · subst h2
      rw [leaf_two]
      go_enter Tryd.func52, Tryd.ntmps52
      go_wp2_with (go_at_call 81; refine (has_any _ _ _).mono ?_; rintro e w' ⟨rfl, rfl⟩)
      go_ret
      exact ⟨ret_bool b7.out, rfl⟩
    · by_cases h3 : l = 3
      · subst h3
        rw [leaf_three]
        go_enter Tryd.func52, Tryd.ntmps52
        go_wp2_with (go_at_call 81; refine (has_any _ _ _).mono ?_; rintro e w' ⟨rfl, rfl⟩)
        go_ret
        exact ⟨ret_bool b7.out, rfl⟩
      · rw [leaf_else x h1 h2 h3]
        have c1 : (l == 1) = false := by simp [h1]
        have c2 : (l == 2) = false := by simp [h2]
        have c3 : (l == 3) = false := by simp [h3]
        go_enter Tryd.func52, Tryd.ntmps52
        go_wp2
        go_ret
        exact ⟨rfl, rfl⟩

theorem slot_any (t a l : Int) (w : World) (hs : Shifts w) (ht : W64 t) (ha : W64 a) :
    Calls Tryd.prog 48 #[.int .u64 t, .int .u64 a, .int .i64 l] w fun e w' => e = .returned (.int .u64 (slotF t a l)) ∧ w = w' := by
  have e := Lib.hid (slot_wrap t a l)
  go_enter Tryd.func48, Tryd.ntmps48
  go_wp2_with (first | (go_at_call 56; refine (table_any _ _ ht).mono ?_; rintro e w' ⟨rfl, rfl⟩) | (go_at_call 79; refine (index_any _ _ _ hs ha).mono ?_; rintro e w' ⟨rfl, rfl⟩))
  go_ret
  exact ⟨ret_int e.out, rfl⟩

theorem frame_any (x l : Int) (w : World) (hs : Shifts w) (hx : W64 x) :
    Calls Tryd.prog 54 #[.int .u64 x, .int .i64 l] w fun e w' => e = .returned (.int .u64 (frameF x l)) ∧ w = w' := by
  have hT := w64_table x
  cases h : leafF x l
  · rw [frame_else h]
    go_enter Tryd.func54, Tryd.ntmps54
    go_wp2_with (first | (go_at_call 56; refine (table_any _ _ hx).mono ?_; rintro e w' ⟨rfl, rfl⟩) | (go_at_call 52; refine (leaf_any _ _ _).mono ?_; rintro e w' ⟨rfl, rfl⟩) | (go_at_call 84; refine (page_any _ _ _ hs hT).mono ?_; rintro e w' ⟨rfl, rfl⟩))
    go_ret
    exact ⟨rfl, rfl⟩
  · rw [frame_leaf h]
    go_enter Tryd.func54, Tryd.ntmps54
    go_wp2_with (first | (go_at_call 56; refine (table_any _ _ hx).mono ?_; rintro e w' ⟨rfl, rfl⟩) | (go_at_call 52; refine (leaf_any _ _ _).mono ?_; rintro e w' ⟨rfl, rfl⟩) | (go_at_call 84; refine (page_any _ _ _ hs hT).mono ?_; rintro e w' ⟨rfl, rfl⟩))
    go_ret
    exact ⟨rfl, rfl⟩

theorem ret_val {v u : Value} (h : v = u) : Ending.returned v = .returned u := by rw [h]

end Go.Proofs.YtiihhlmddmicjaaDoor
/- Plain mathematics of walks: the document's walk as a function of the memory's words. Nothing of the program. -/
namespace Go.Proofs.YtiihhlmddmicjaaDoor
set_option linter.unusedVariables false
set_option linter.unusedSimpArgs false

/-- a walk: its steps (level, slot, word), why it ended, the rights, the leaf's level, and its frame -/
structure Pth where
  steps : List (Int × Int × Int)
  why : Int
  W : Bool
  U : Bool
  X : Bool
  lev : Int
  fr : Int

def offP (y : Int) : Pth := ⟨[], y, false, false, false, 0, 0⟩
def preP (S : List (Int × Int × Int)) (p : Pth) : Pth := ⟨S ++ p.steps, p.why, p.W, p.U, p.X, p.lev, p.fr⟩

theorem preP_nil (p : Pth) : preP [] p = p := rfl
theorem preP_preP (S K : List (Int × Int × Int)) (p : Pth) : preP S (preP K p) = preP (S ++ K) p := by unfold preP; simp

/-- how a word x of a level goes on: k is what is behind it -/
def onP (M : Int) (nxe : Bool) (lev x : Int) (W U X : Bool) (k : Int → Bool → Bool → Bool → Pth) : Pth :=
  if bitF x 0 = false then offP 1
  else if resF x lev M nxe = true then offP 2
  else if leafF x lev = true then ⟨[], 0, W && bitF x 1, U && bitF x 2, X && !bitF x 63, lev, frameF x lev⟩
  else k (tableF x) (W && bitF x 1) (U && bitF x 2) (X && !bitF x 63)

def walkN (M : Int) (f : Int → Int) (a : Int) (nxe : Bool) : Nat → Int → Int → Bool → Bool → Bool → Pth
  | 0, _, _, _, _, _ => offP 2
  | n + 1, lev, t, W, U, X =>
    if errS M (slotF t a lev) = 0 then
      preP [(lev, slotF t a lev, f (slotF t a lev / 8))] (onP M nxe lev (f (slotF t a lev / 8)) W U X (walkN M f a nxe n (lev - 1)))
    else offP 2

/-- a walk from a level on, with a table, and the rights so far -/
def walkZ (M : Int) (f : Int → Int) (a : Int) (nxe : Bool) (lev t : Int) (W U X : Bool) : Pth :=
  if 1 ≤ lev ∧ lev ≤ 4 then walkN M f a nxe lev.toNat lev t W U X else offP 2

theorem walk_off {M : Int} {f : Int → Int} {a : Int} {nxe : Bool} {lev t : Int} {W U X : Bool} (h : ¬ (1 ≤ lev ∧ lev ≤ 4)) : walkZ M f a nxe lev t W U X = offP 2 := if_neg h

theorem walk_in {M : Int} {f : Int → Int} {a : Int} {nxe : Bool} {lev t : Int} {W U X : Bool} (h1 : 1 ≤ lev) (h4 : lev ≤ 4) :
    walkZ M f a nxe lev t W U X = if errS M (slotF t a lev) = 0 then
      preP [(lev, slotF t a lev, f (slotF t a lev / 8))] (onP M nxe lev (f (slotF t a lev / 8)) W U X (walkZ M f a nxe (lev - 1))) else offP 2 := by
  unfold walkZ
  rw [if_pos ⟨h1, h4⟩]
  obtain ⟨n, hn⟩ : ∃ n, lev.toNat = n + 1 := ⟨lev.toNat - 1, by omega⟩
  rw [hn]
  have e : walkN M f a nxe n (lev - 1) = walkZ M f a nxe (lev - 1) := by
    funext t W U X
    unfold walkZ
    by_cases h : 1 ≤ lev - 1 ∧ lev - 1 ≤ 4
    · rw [if_pos h, show (lev - 1).toNat = n by omega]
    · rw [if_neg h, show n = 0 by omega]; rfl
  show (if errS M (slotF t a lev) = 0 then _ else _) = _
  rw [e]
  rfl

section
variable {M : Int} {f : Int → Int} {a : Int} {nxe : Bool} {lev t s x : Int} {W U X : Bool}

theorem walk_err (h1 : 1 ≤ lev) (h4 : lev ≤ 4) (he : errS M (slotF t a lev) ≠ 0) : walkZ M f a nxe lev t W U X = offP 2 := by rw [walk_in h1 h4, if_neg he]
theorem walk_at (h1 : 1 ≤ lev) (h4 : lev ≤ 4) (hs : slotF t a lev = s) (he : errS M s = 0) (hx : f (s / 8) = x) :
    walkZ M f a nxe lev t W U X = preP [(lev, s, x)] (onP M nxe lev x W U X (walkZ M f a nxe (lev - 1))) := by
  subst hs; subst hx; rw [walk_in h1 h4, if_pos he]
theorem on_abs {k : Int → Bool → Bool → Bool → Pth} (h : bitF x 0 = false) : onP M nxe lev x W U X k = offP 1 := if_pos h
theorem on_res {k : Int → Bool → Bool → Bool → Pth} (h : bitF x 0 = true) (hr : resF x lev M nxe = true) : onP M nxe lev x W U X k = offP 2 := by
  unfold onP; rw [if_neg (by simp [h]), if_pos hr]
theorem on_leaf {k : Int → Bool → Bool → Bool → Pth} (h : bitF x 0 = true) (hr : resF x lev M nxe = false) (hl : leafF x lev = true) :
    onP M nxe lev x W U X k = ⟨[], 0, W && bitF x 1, U && bitF x 2, X && !bitF x 63, lev, frameF x lev⟩ := by
  unfold onP; rw [if_neg (by simp [h]), if_neg (by simp [hr]), if_pos hl]
theorem on_on {k : Int → Bool → Bool → Bool → Pth} (h : bitF x 0 = true) (hr : resF x lev M nxe = false) (hl : leafF x lev = false) :
    onP M nxe lev x W U X k = k (tableF x) (W && bitF x 1) (U && bitF x 2) (X && !bitF x 63) := by
  unfold onP; rw [if_neg (by simp [h]), if_neg (by simp [hr]), if_neg (by simp [hl])]
end

/-- what a walk laid on the trace -/
def slotsP (S : List (Int × Int × Int)) : List Int := S.map fun s => s.2.1
end Go.Proofs.YtiihhlmddmicjaaDoor
/- Plain mathematics of rights: what is left behind a word, who may, and a fault's code. Nothing of the program. -/
namespace Go.Proofs.YtiihhlmddmicjaaDoor
set_option linter.unusedVariables false
set_option linter.unusedSimpArgs false

end Go.Proofs.YtiihhlmddmicjaaDoor
