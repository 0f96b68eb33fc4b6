/- Several texts of ours in one: Gu, Kc, Ke. -/
import Derived.Test.YtopmmlcjlopmaaaGreatDoorGGbRgHb
import Derived.Test.YtopmmlcjlopmaaaGreatDoorGHfHgGc
import Derived.Test.YtopmmlcjlopmaaaGreatDoorGKaHmHn
import Derived.Test.YtopmmlcjlopmaaaGreatDoorGRjIaEr
import Derived.Test.YtopmmlcjlopmaaaGreatDoorGIeKbGt
import Derived.Test.YtopmmlcjlopmaaaGreatDoorGVaVrFr
import Derived.Test.YtopmmlcjlopmaaaGreatDoorGEsEtGs
import Derived.StillTailTactics
/- Contracts of dormerref06: Code. -/
namespace Go.Proofs.YtopmmlcjlopmaaaGreatDoor
set_option linter.unusedVariables false
set_option linter.unusedSimpArgs false
open Go.ChangeShapes Go.WideShapes Go.ChangeAt Go.RowKit Go.Joins

end Go.Proofs.YtopmmlcjlopmaaaGreatDoor
/- Layer 9: the document's answer; contract of dormerref09.Judge. -/
namespace Go.Proofs.YtopmmlcjlopmaaaGreatDoor
set_option linter.unusedVariables false
set_option linter.unusedSimpArgs false
open Go.ChangeShapes Go.WideShapes Go.ChangeAt Go.RowKit Go.Joins

/-- an address, or a fault -/
structure Ans where
  pa : Int
  bad : Int
  addr : Int
  code : Int
abbrev ansCells (x : Ans) : Array Value := #[.int .u64 x.pa, .int .i64 x.bad, .int .u64 x.addr, .int .i64 x.code]
def ans0 : Ans := ⟨0, 0, 0, 0⟩
section
variable {w w' : World} {b : Nat} {t : TypeId} {x0 x1 x2 x3 : Value}
theorem turn4 (w : World) (b : Nat) (y0 y1 y2 y3 : Value) : Turn (fun i => i = b) w ((((w.setCell ⟨b, 0, none⟩ y0).setCell ⟨b, 1, none⟩ y1).setCell ⟨b, 2, none⟩ y2).setCell ⟨b, 3, none⟩ y3) :=
  (((turn1 _ _ _ _).and (turn1 _ _ _ _)).and (turn1 _ _ _ _)).and (turn1 _ _ _ _)
end

/-- three boxes: a path's, an access's, and the answer's -/
structure RJdg (w wr : World) (v : Value) (P : Pth) (u : Usx) : Prop where
  two : Jdg w wr 51 55 v P u
  res : Blk wr (w.heap.size + 2) (ansCells ans0) 47
theorem RJdg.start (w : World) (v : Value) (P : Pth) (u : Usx) : RJdg w (((w.alloc (.cells (pathCells v P) 51)).alloc (.cells (useCells u) 55)).alloc (.cells (ansCells ans0) 47)) v P u := by
  have e2 : ∀ o o', ((w.alloc o).alloc o').heap.size = w.heap.size + 2 := fun o o' => by simp
  refine ⟨(Jdg.start w _ _ v P u).quiet (below_alloc1 _ _), ?_⟩
  have := Blk.new ((w.alloc (.cells (pathCells v P) 51)).alloc (.cells (useCells u) 55)) (ansCells ans0) 47
  rwa [e2] at this
theorem RJdg.quiet {w wr w3 : World} {v : Value} {P : Pth} {u : Usx} (h : RJdg w wr v P u) (hb : Below wr.heap.size wr w3) : RJdg w w3 v P u := ⟨h.two.quiet hb, h.res.below hb⟩
theorem RJdg.done {w wr : World} {v : Value} {P : Pth} {u : Usx} (h : RJdg w wr v P u) (y0 y1 y2 y3 : Value) : Below w.heap.size w ((((wr.setCell ⟨w.heap.size + 2, 0, none⟩ y0).setCell ⟨w.heap.size + 2, 1, none⟩ y1).setCell ⟨w.heap.size + 2, 2, none⟩ y2).setCell ⟨w.heap.size + 2, 3, none⟩ y3) :=
  turn_below h.two.below (turn4 _ _ _ _ _ _) (by omega) h.two.below.size

end Go.Proofs.YtopmmlcjlopmaaaGreatDoor
/- Layer 9: answer: an address, or a fault, as the document has it. -/
namespace Go.Proofs.YtopmmlcjlopmaaaGreatDoor
set_option linter.unusedVariables false
set_option linter.unusedSimpArgs false
open Go.ChangeShapes Go.WideShapes Go.ChangeAt Go.RowKit Go.Joins

theorem Blk.two {w : World} {b : Nat} {t : TypeId} {x0 x1 : Value} (h : Blk w b #[x0, x1] t) : w.cell? ⟨b, 0, none⟩ = some x0 ∧ w.cell? ⟨b, 1, none⟩ = some x1 := by
  unfold Blk at h; simp [World.cell?, h]

/-- the answer's box, and what was there -/
structure Asw (w wr : World) : Prop where
  res : Blk wr w.heap.size (ansCells ans0) 47
  below : Below w.heap.size w wr
theorem Asw.start (w : World) : Asw w (w.alloc (.cells (ansCells ans0) 47)) := ⟨Blk.new _ _ _, below_alloc1 _ _⟩
theorem Asw.quiet {w wr w3 : World} (h : Asw w wr) (hb : Below wr.heap.size wr w3) : Asw w w3 := ⟨h.res.below hb, h.below.trans (hb.mono h.below.size)⟩
theorem Asw.done {w wr : World} (h : Asw w wr) (y0 y1 y2 y3 : Value) : Below w.heap.size w ((((wr.setCell ⟨w.heap.size, 0, none⟩ y0).setCell ⟨w.heap.size, 1, none⟩ y1).setCell ⟨w.heap.size, 2, none⟩ y2).setCell ⟨w.heap.size, 3, none⟩ y3) :=
  turn_below h.below (turn4 _ _ _ _ _ _) (Nat.le_refl _) h.below.size

end Go.Proofs.YtopmmlcjlopmaaaGreatDoor
