/- Several texts of ours in one: Nb, Tp, Vr. -/
import Derived.Test.YtmglikmphddicaaDoorGNaVaFr
import Derived.Test.YtmglikmphddicaaDoorGEaEbGa
import Derived.Test.YtmglikmphddicaaDoorGKpGbMc
import Derived.Test.YtmglikmphddicaaDoorGRsRjBx
import Derived.Test.YtmglikmphddicaaDoorRows
import Derived.ProofKit
import Derived.LaidMore
import Derived.Lib.LaidTab
import Derived.OpenShut
import Derived.Stop.Joined
import Derived.Test.YtmglikmphddicaaDoorGCaRN
/- Package group: the table of bits; bit, frame, mapped, Has. -/
namespace Go.Proofs.YtmglikmphddicaaDoor
set_option linter.unusedVariables false
set_option linter.unusedSimpArgs false
open Go.ChangeShapes Go.WideShapes Go.ChangeAt Go.RowKit Go.Joins

/-- the table of bits, as it is laid -/
def PagesT (w : World) : Prop :=
  w.cell? ⟨0, 0, none⟩ = some (.int .u8 1) ∧ w.cell? ⟨0, 1, none⟩ = some (.int .u8 2) ∧ w.cell? ⟨0, 2, none⟩ = some (.int .u8 4) ∧ w.cell? ⟨0, 3, none⟩ = some (.int .u8 8) ∧ w.cell? ⟨0, 4, none⟩ = some (.int .u8 16) ∧ w.cell? ⟨0, 5, none⟩ = some (.int .u8 32) ∧ w.cell? ⟨0, 6, none⟩ = some (.int .u8 64) ∧ w.cell? ⟨0, 7, none⟩ = some (.int .u8 128)
theorem pages_lt {w : World} (h : PagesT w) : 0 < w.heap.size := World.block_lt_of_cell? _ _ h.1
theorem pages_keep {w w' : World} {n : Nat} (h : PagesT w) (hb : Below n w w') (hn : w.heap.size ≤ n) : PagesT w' := by
  have hz := pages_lt h
  have hb' : Below w.heap.size w w' := hb.mono hn
  obtain ⟨h0, h1, h2, h3, h4, h5, h6, h7⟩ := h
  exact ⟨(hb'.cell hz).trans h0, (hb'.cell (p := ⟨_, 1, none⟩) hz).trans h1, (hb'.cell (p := ⟨_, 2, none⟩) hz).trans h2, (hb'.cell (p := ⟨_, 3, none⟩) hz).trans h3, (hb'.cell (p := ⟨_, 4, none⟩) hz).trans h4, (hb'.cell (p := ⟨_, 5, none⟩) hz).trans h5, (hb'.cell (p := ⟨_, 6, none⟩) hz).trans h6, (hb'.cell (p := ⟨_, 7, none⟩) hz).trans h7⟩
theorem pages_below {w w' : World} (h : PagesT w) (hb : Below w.heap.size w w') : PagesT w' := pages_keep h hb (Nat.le_refl _)

theorem gbit_any (i : Int) (w : World) (hp : PagesT w) :
    Calls Tryd.prog 25 #[.int .i64 i] w fun e w' => e = .returned (.int .u8 (bit8 i)) ∧ w = w' := by
  obtain ⟨h0, h1, h2, h3, h4, h5, h6, h7⟩ := hp
  by_cases c0 : i < 0
  · have e : bit8 i = 0 := by unfold bit8; rw [if_neg (by omega)]
    rw [e]
    go_enter Tryd.func25, Tryd.ntmps25
    go_wp2
    go_ret
    exact ⟨rfl, rfl⟩
  · by_cases c7 : 8 ≤ i
    · have e : bit8 i = 0 := by unfold bit8; rw [if_neg (by omega)]
      rw [e]
      go_enter Tryd.func25, Tryd.ntmps25
      go_wp2
      go_ret
      exact ⟨rfl, rfl⟩
    · obtain rfl | rfl | rfl | rfl | rfl | rfl | rfl | rfl : i = 0 ∨ i = 1 ∨ i = 2 ∨ i = 3 ∨ i = 4 ∨ i = 5 ∨ i = 6 ∨ i = 7 := by omega
      all_goals
        clear c0 c7
        go_enter Tryd.func25, Tryd.ntmps25
        go_wp2
        go_ret
        exact ⟨rfl, rfl⟩

theorem gframe_any (f i : Int) (w : World) :
    Calls Tryd.prog 27 #[.int .u64 f, .int .i64 i] w fun e w' => e = .returned (.int .u64 (frmF f i)) ∧ w = w' := by
  have e := Lib.hid (frm_code f i)
  go_enter Tryd.func27, Tryd.ntmps27
  go_wp2
  go_ret
  exact ⟨ret_int e.out, rfl⟩

/-- what was seen -/
structure Sn where
  x0 : Int
  x1 : Int
  x2 : Int
  x3 : Int
  x4 : Int
  x5 : Int
  x6 : Int
  x7 : Int
  a : Int
  W : Bool
  U : Bool
  Y : Bool
  b : Int
  n : Bool
abbrev Sn.X (s : Sn) : List Int := [s.x0, s.x1, s.x2, s.x3, s.x4, s.x5, s.x6, s.x7]
abbrev seenC (s : Sn) : Array Value := #[.int .u64 s.x0, .int .u64 s.x1, .int .u64 s.x2, .int .u64 s.x3, .int .u64 s.x4, .int .u64 s.x5, .int .u64 s.x6, .int .u64 s.x7, .int .i64 s.a, .bool s.W, .bool s.U, .bool s.Y, .int .i64 s.b, .bool s.n]
abbrev seenV (s : Sn) : Value := .agg (seenC s)
theorem Blk.seen {w : World} {b : Nat} {s : Sn} {t : TypeId} (h : Blk w b (seenC s) t) : w.cell? ⟨b, 0, none⟩ = some (.int .u64 s.x0) ∧ w.cell? ⟨b, 1, none⟩ = some (.int .u64 s.x1) ∧ w.cell? ⟨b, 2, none⟩ = some (.int .u64 s.x2) ∧ w.cell? ⟨b, 3, none⟩ = some (.int .u64 s.x3) ∧ w.cell? ⟨b, 4, none⟩ = some (.int .u64 s.x4) ∧ w.cell? ⟨b, 5, none⟩ = some (.int .u64 s.x5) ∧ w.cell? ⟨b, 6, none⟩ = some (.int .u64 s.x6) ∧ w.cell? ⟨b, 7, none⟩ = some (.int .u64 s.x7) ∧ w.cell? ⟨b, 8, none⟩ = some (.int .i64 s.a) ∧ w.cell? ⟨b, 9, none⟩ = some (.bool s.W) ∧ w.cell? ⟨b, 10, none⟩ = some (.bool s.U) ∧ w.cell? ⟨b, 11, none⟩ = some (.bool s.Y) ∧ w.cell? ⟨b, 12, none⟩ = some (.int .i64 s.b) ∧ w.cell? ⟨b, 13, none⟩ = some (.bool s.n) :=
  ⟨(cell_of_block h 0).trans rfl, (cell_of_block h 1).trans rfl, (cell_of_block h 2).trans rfl, (cell_of_block h 3).trans rfl, (cell_of_block h 4).trans rfl, (cell_of_block h 5).trans rfl, (cell_of_block h 6).trans rfl, (cell_of_block h 7).trans rfl, (cell_of_block h 8).trans rfl, (cell_of_block h 9).trans rfl, (cell_of_block h 10).trans rfl, (cell_of_block h 11).trans rfl, (cell_of_block h 12).trans rfl, (cell_of_block h 13).trans rfl⟩
structure OkS (s : Sn) : Prop where
  h0 : W64 s.x0
  h1 : W64 s.x1
  h2 : W64 s.x2
  h3 : W64 s.x3
  h4 : W64 s.x4
  h5 : W64 s.x5
  h6 : W64 s.x6
  h7 : W64 s.x7
  hb : I64 s.b
  ha : I64 s.a
theorem OkS.at_ {s : Sn} (h : OkS s) (i : Int) : W64 (thW s.X i) := by
  unfold thW
  obtain ⟨h0, h1, h2, h3, h4, h5, h6, h7, _, _⟩ := h
  match hk : i.toNat with
  | 0 => exact h0
  | 1 => exact h1
  | 2 => exact h2
  | 3 => exact h3
  | 4 => exact h4
  | 5 => exact h5
  | 6 => exact h6
  | 7 => exact h7
  | k + 8 => exact w64_zero

/-- a line, by value -/
abbrev lineC (l : Ln) : Array Value := #[.int .u64 l.1, .bool l.2.1, .bool l.2.2.1, .bool l.2.2.2.1, .bool l.2.2.2.2.1, .int .u8 l.2.2.2.2.2]
abbrev lineV (l : Ln) : Value := .agg (lineC l)

theorem bit0_and (x : Int) : (bits .and .u64 x 1 != 0) = bitF x 0 := has_b0 x

theorem mapped_any (s : Sn) (x : Int) (w : World) (hb : I64 s.b) :
    Calls Tryd.prog 26 #[seenV s, .int .u64 x] w fun e w' => e = .returned (.bool (mapW x s.b s.n)) ∧ Below w.heap.size w w' := by
  have e := bit0_and x
  cases h : bitF x 0
  · rw [h] at e
    have e2 : mapW x s.b s.n = false := by unfold mapW; rw [h]; rfl
    rw [e2]
    clear h e2
    go_enter Tryd.func26, Tryd.ntmps26
    go_wp2
    go_ret
    exact ⟨rfl, below_alloc1 _ _⟩
  · rw [h] at e
    have e2 : mapW x s.b s.n = !resF x 1 s.b s.n := by unfold mapW; rw [h]; rfl
    rw [e2]
    clear h e2
    go_enter Tryd.func26, Tryd.ntmps26
    go_wp2_with (go_at_call 39; refine (res_any _ _ _ _ _ hb).mono ?_; rintro e w' ⟨rfl, rfl⟩)
    go_ret
    exact ⟨rfl, below_alloc1 _ _⟩

theorem at_yes {l : Ln} {i : Int} (h : hasG l i = true) : atG l i = frmF l.1 i := by unfold atG; rw [h]; rfl
theorem at_no {l : Ln} {i : Int} (h : hasG l i = false) : atG l i = 0 := by unfold atG; rw [h]; rfl
theorem ghas_any (l : Ln) (i : Int) (w : World) (hp : PagesT w) (hl : OkL l) :
    Calls Tryd.prog 14 #[lineV l, .int .i64 i] w fun e w' => e = .returned (.tuple #[.int .u64 (atG l i), .bool (hasG l i)]) ∧ Below w.heap.size w w' := by
  have e := has_and hl i
  have hp1 := pages_below hp (below_alloc1 w (.cells (lineC l) 34))
  cases h : hasG l i
  · rw [at_no h]
    rw [show hasM l.2.2.2.2.2 i = false from h] at e
    clear h
    go_enter Tryd.func14, Tryd.ntmps14
    go_wp2
    go_quiet (first | (go_at_call 25; exact quietOf (gbit_any _ _ hp1)))
    go_wp2
    go_ret2
    exact ⟨rfl, below_drewN (below_alloc1 _ _) _⟩
  · rw [at_yes h]
    rw [show hasM l.2.2.2.2.2 i = true from h] at e
    clear h
    go_enter Tryd.func14, Tryd.ntmps14
    go_wp2
    go_quiet (first | (go_at_call 25; exact quietOf (gbit_any _ _ hp1)))
    go_wp2_with (go_at_call 27; refine (gframe_any _ _ _).mono ?_; rintro e w' ⟨rfl, rfl⟩)
    go_ret2
    exact ⟨rfl, below_drewN (below_alloc1 _ _) _⟩
end Go.Proofs.YtmglikmphddicaaDoor
/- Layer 12's table of bits: from the row's condition to the eight cells that the walks ask; the world that the program's own initialiser leaves meets it. -/
namespace Go.Proofs.YtmglikmphddicaaDoor
set_option linter.unusedVariables false
set_option linter.unusedSimpArgs false
open Go.ChangeShapes Go.WideShapes Go.ChangeAt Go.RowKit

def laidGroup : List (String × DataW Unit) := [("dormer/group.pages", Rows.laid_dormer_group_pages)]

theorem gPages : Tryd.prog.globalNamed "dormer/group.pages" = some 0 := by kernel_rfl
theorem tPages : (Tryd.prog.globals[0]?).map (·.type) = some 68 := by kernel_rfl

theorem met_pages (os : Os) (args : Array Value) : laidMetH Tryd.prog laidGroup ((World.doorLaid Tryd.prog 400 os).forCall (fun _ _ => 0) ⟨#[], args, []⟩).memory :=
  laidMetH_of_parts3 (fuel := 8) (laidMet_of_run' 8 (by kernel_rfl) (by kernel_rfl)) (by kernel_rfl) (by kernel_rfl)

theorem pages_of_laid {W : World} (h : laidMetH Tryd.prog laidGroup W) : PagesT W := by
  rw [MakeChecks.laidMetH_plain _ _ _ (by kernel_rfl)] at h
  have hT : Lib.TabIs Tryd.prog W "dormer/group.pages" .u8 [1, 2, 4, 8, 16, 32, 64, 128] :=
    Lib.tabIs_of_head gPages tPages Tryd.underlying68 Tryd.underlying5 (by kernel_rfl) (by kernel_rfl) h
  exact ⟨hT.cell gPages 0 (by decide), hT.cell gPages 1 (by decide), hT.cell gPages 2 (by decide), hT.cell gPages 3 (by decide), hT.cell gPages 4 (by decide), hT.cell gPages 5 (by decide), hT.cell gPages 6 (by decide), hT.cell gPages 7 (by decide)⟩
end Go.Proofs.YtmglikmphddicaaDoor
/- Contracts of dormerref03: what each call of the document's own answer returns. -/
namespace Go.Proofs.YtmglikmphddicaaDoor
set_option linter.unusedVariables false
set_option linter.unusedSimpArgs false
open Go.ChangeShapes Go.WideShapes Go.ChangeAt Go.RowKit

end Go.Proofs.YtmglikmphddicaaDoor
