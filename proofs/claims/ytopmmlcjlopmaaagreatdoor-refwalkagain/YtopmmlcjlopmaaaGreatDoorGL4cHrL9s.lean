/- Several texts of ours in one: L4c, Hr, L9s. -/
import Derived.Test.YtopmmlcjlopmaaaGreatDoorGDkL4wL4b
import Derived.Deep.Cut
import Derived.Test.YtopmmlcjlopmaaaGreatDoorGHpHqHu
import Derived.Test.YtopmmlcjlopmaaaGreatDoorGBxKfSo
/- The walk of MemCopies. -/
namespace Go.Proofs.YtopmmlcjlopmaaaGreatDoor
set_option linter.unusedVariables false
set_option linter.unusedSimpArgs false
open Go.ChangeShapes Go.WideShapes Go.ChangeAt Go.RowKit Go.Joins

/-- the blocks from B on, below C -/
def Foot (B C : Nat) : Nat → Prop := fun i => B ≤ i ∧ i < C

section
variable {w : World} {F F' : Nat → Prop} {B m m' : Nat} {M : Int} {f g : Int → Int} {tr tr' : List Int} {n n' : Nat}

theorem Mem.foot (h : Mem w (From B) m M f tr n) : Mem w (Foot B w.heap.size) m M f tr n := by
  obtain ⟨mb, v, D, h, hF⟩ := h
  exact ⟨mb, v, D, h, fun i hi => ⟨hF i hi, h.own_lt hi⟩⟩

theorem diff_mem (h : Mem w F m 16 f tr n) (h' : Mem w F' m' 16 g tr' n') (hn : n ≤ 100000) (hn' : n' ≤ 100000) :
    Calls Tryz.prog 19 #[.pointer (some ⟨m, 0, none⟩), .pointer (some ⟨m', 0, none⟩)] w fun e w' => ∃ A c ds, e = .returned (.slice A ds.length c) ∧ Lst w' w.heap.size (.slice A ds.length c) ds ∧ IsDif f g ds ∧ Below w.heap.size w w' := by
  obtain ⟨mb, v, D, h, hF⟩ := h
  obtain ⟨mb', v', D', h', hF'⟩ := h'
  exact diff_any w h h' hn hn'

theorem copy_mem (h : Mem w F m M f tr n) (hn : n ≤ 100000) :
    Calls Tryz.prog 16 #[.pointer (some ⟨m, 0, none⟩)] w fun e w' => e = .returned (.pointer (some ⟨w.heap.size + 1, 0, none⟩)) ∧ Mem w' (From w.heap.size) (w.heap.size + 1) M f [] n ∧ Below w.heap.size w w' := by
  obtain ⟨mb, v, D, h, hF⟩ := h
  exact copy_any h hn
end

end Go.Proofs.YtopmmlcjlopmaaaGreatDoor
/- Two memories beside each other. -/
namespace Go.Proofs.YtopmmlcjlopmaaaGreatDoor
set_option linter.unusedVariables false
set_option linter.unusedSimpArgs false
open Go.ChangeShapes Go.WideShapes Go.ChangeAt Go.RowKit Go.Joins

/-- a memory beside another one, of which the blocks are G -/
structure Bes (wr : World) (G H : Nat → Prop) (m : Nat) (f : Int → Int) (tr : List Int) (n : Nat) : Prop where
  mem : Mem wr H m 16 f tr n
  lt : ∀ i, H i → i < wr.heap.size
  free : ∀ i, H i → ¬ G i

section
variable {w wr w3 w4 : World} {F G G' H : Nat → Prop} {m m' : Nat} {M : Int} {f f' : Int → Int} {tr tr' : List Int} {n n' : Nat}
theorem Bes.quiet (h : Bes wr G H m f tr n) (hb : Below wr.heap.size wr w3) : Bes w3 G H m f tr n := ⟨h.mem.kept hb, fun i hi => Nat.lt_of_lt_of_le (h.lt i hi) hb.size, h.free⟩
theorem Bes.step (h : Bes wr G H m f tr n) (k : Wk wr w4 G m' M f' tr' n' G') : Bes w4 G' H m f tr n :=
  ⟨h.mem.turned k.turn (fun i _ hi hg => h.free i hi hg), fun i hi => Nat.lt_of_lt_of_le (h.lt i hi) k.turn.size, fun i hi => k.free (h.free i hi) (h.lt i hi)⟩
theorem Bes.new (hw : Wk w wr F m' M f' tr' n' G) (h : Mem w3 (From wr.heap.size) m 16 f tr n) : Bes w3 G (Foot wr.heap.size w3.heap.size) m f tr n :=
  ⟨h.foot, fun i hi => hi.2, fun i hi hg => by have := (hw.foot i hg).1; have := hi.1; omega⟩
end

theorem Mem.all {w : World} {F : Nat → Prop} {m : Nat} {M : Int} {f : Int → Int} {tr : List Int} {n : Nat} (h : Mem w F m M f tr n) : Mem w (fun _ => True) m M f tr n := h.mono fun _ _ => trivial

/-- both memories, the copy, the path and the list of what differs -/
structure Mks (w wr : World) (b : Nat) (v : Value) (P : Pth) (m m0 m1 : Nat) (f g : Int → Int) (tr : List Int) (n : Nat) (vd : Value) (ds : List Int) : Prop where
  box : Blk wr b (pathCells v P) 37
  steps : StepsIn wr v P.steps
  mem : Mem wr (fun _ => True) m 16 g tr n
  was : Mem wr (fun _ => True) m0 16 f [] 100
  once : Mem wr (fun _ => True) m1 16 g [] n
  dif : WordsOwn wr vd ds
  below : Below w.heap.size w wr

theorem Mks.quiet {w wr w3 : World} {b : Nat} {v : Value} {P : Pth} {m m0 m1 : Nat} {f g : Int → Int} {tr : List Int} {n : Nat} {vd : Value} {ds : List Int} (h : Mks w wr b v P m m0 m1 f g tr n vd ds) (hb : Below wr.heap.size wr w3) : Mks w w3 b v P m m0 m1 f g tr n vd ds :=
  ⟨h.box.below hb, h.steps.below hb, h.mem.kept hb, h.was.kept hb, h.once.kept hb, own_below h.dif hb, h.below.trans (hb.mono h.below.size)⟩

end Go.Proofs.YtopmmlcjlopmaaaGreatDoor
/- The walk of RefwalkSets. -/
namespace Go.Proofs.YtopmmlcjlopmaaaGreatDoor
set_option linter.unusedVariables false
set_option linter.unusedSimpArgs false
open Go.ChangeShapes Go.WideShapes Go.ChangeAt Go.RowKit Go.Joins

theorem canon_cases (a : Int) : canonF a = false ∨ canonF a = true := by cases canonF a <;> simp

end Go.Proofs.YtopmmlcjlopmaaaGreatDoor
