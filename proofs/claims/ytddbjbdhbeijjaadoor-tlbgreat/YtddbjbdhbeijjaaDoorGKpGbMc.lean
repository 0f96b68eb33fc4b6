/- Several texts of ours in one: Kp, Gb, Mc. -/
import Derived.WalkKit
import Derived.ProofKit
import Derived.Below
import Derived.Test.YtddbjbdhbeijjaaDoorGEaEbGa
import Derived.Test.YtddbjbdhbeijjaaDoorGMmCaNa
import Derived.Test.YtddbjbdhbeijjaaDoorGVmRN
import Derived.WalkSpells
import Derived.Lib.SliceRun
/- What was there has not turned: Below, behind a name of its own. Nothing of the program. -/
namespace Go.Proofs.YtddbjbdhbeijjaaDoor
set_option linter.unusedVariables false
set_option linter.unusedSimpArgs false
open Go.ChangeShapes Go.WideShapes Go.ChangeAt Go.RowKit

/-- nothing that was there has turned -/
def Kept (w w' : World) : Prop := Below w.heap.size w w'
theorem Kept.drew0 (w : World) : Kept w w.drew := (Below.refl _ _).drew
theorem Kept.step {w w' w2 : World} (hb : Kept w' w2) (h : Kept w w') : Kept w w2 := Below.trans h (Below.mono hb h.size)
theorem Kept.cell {w w' : World} (h : Kept w w') {p : Addr} {v : Value} (hc : w.cell? p = some v) (hp : p.block < w.heap.size) : w'.cell? p = some v := (Below.cell h hp).trans hc
theorem Kept.size {w w' : World} (h : Kept w w') : w.heap.size ≤ w'.heap.size := Below.size h

end Go.Proofs.YtddbjbdhbeijjaaDoor
/- Contracts of package right: And, May, Code. -/
namespace Go.Proofs.YtddbjbdhbeijjaaDoor
set_option linter.unusedVariables false
set_option linter.unusedSimpArgs false
open Go.ChangeShapes Go.WideShapes Go.ChangeAt Go.RowKit Go.Joins

theorem last_obj2 (w : World) (a b : Obj) : ((w.alloc a).alloc b).heap[w.heap.size + 1]? = some b := by
  have h := last_obj (w.alloc a) b
  rwa [show (w.alloc a).heap.size = w.heap.size + 1 by simp] at h

/-- a right, an access, a control lie in block g -/
abbrev RgtAt (w : World) (g : Nat) (a b c : Bool) : Prop := w.cell? ⟨g, 0, none⟩ = some (.bool a) ∧ w.cell? ⟨g, 1, none⟩ = some (.bool b) ∧ w.cell? ⟨g, 2, none⟩ = some (.bool c)
abbrev AccAt (w : World) (g : Nat) (k : Int) (b c : Bool) : Prop := w.cell? ⟨g, 0, none⟩ = some (.int .i64 k) ∧ w.cell? ⟨g, 1, none⟩ = some (.bool b) ∧ w.cell? ⟨g, 2, none⟩ = some (.bool c)
abbrev CtlAt (w : World) (g : Nat) (a b c d : Bool) : Prop := w.cell? ⟨g, 0, none⟩ = some (.bool a) ∧ w.cell? ⟨g, 1, none⟩ = some (.bool b) ∧ w.cell? ⟨g, 2, none⟩ = some (.bool c) ∧ w.cell? ⟨g, 3, none⟩ = some (.bool d)

theorem rgt_keep {w1 w2 : World} {g : Nat} {a b c : Bool} (h : RgtAt w1 g a b c) (hg : g < w1.heap.size) (hk : Kept w1 w2) : RgtAt w2 g a b c :=
  ⟨hk.cell h.1 hg, hk.cell h.2.1 hg, hk.cell h.2.2 hg⟩
theorem acc_keep {w1 w2 : World} {g : Nat} {k : Int} {b c : Bool} (h : AccAt w1 g k b c) (hg : g < w1.heap.size) (hk : Kept w1 w2) : AccAt w2 g k b c :=
  ⟨hk.cell h.1 hg, hk.cell h.2.1 hg, hk.cell h.2.2 hg⟩
theorem ctl_keep {w1 w2 : World} {g : Nat} {a b c d : Bool} (h : CtlAt w1 g a b c d) (hg : g < w1.heap.size) (hk : Kept w1 w2) : CtlAt w2 g a b c d :=
  ⟨hk.cell h.1 hg, hk.cell h.2.1 hg, hk.cell h.2.2.1 hg, hk.cell h.2.2.2 hg⟩
theorem kept_alloc (w : World) (o : Obj) : Kept w (w.alloc o) := below_alloc1 _ _
theorem rgt_new (w : World) (a b c : Bool) (t : TypeId) : RgtAt (w.alloc (.cells #[.bool a, .bool b, .bool c] t)) w.heap.size a b c := by refine ⟨?_, ?_, ?_⟩ <;> simp
theorem acc_new (w : World) (k : Int) (b c : Bool) (t : TypeId) : AccAt (w.alloc (.cells #[.int .i64 k, .bool b, .bool c] t)) w.heap.size k b c := by refine ⟨?_, ?_, ?_⟩ <;> simp
theorem ctl_new (w : World) (a b c d : Bool) (t : TypeId) : CtlAt (w.alloc (.cells #[.bool a, .bool b, .bool c, .bool d] t)) w.heap.size a b c d := by refine ⟨?_, ?_, ?_, ?_⟩ <;> simp

/-- three boxes, and what was made behind them -/
theorem boxes {w w1 : World} {W U X user ac wp nxe smep smap : Bool} {k : Int} {t1 t2 t3 : TypeId}
    (hb : Below (((w.alloc (.cells #[.bool W, .bool U, .bool X] t1)).alloc (.cells #[.int .i64 k, .bool user, .bool ac] t2)).alloc (.cells #[.bool wp, .bool nxe, .bool smep, .bool smap] t3)).heap.size (((w.alloc (.cells #[.bool W, .bool U, .bool X] t1)).alloc (.cells #[.int .i64 k, .bool user, .bool ac] t2)).alloc (.cells #[.bool wp, .bool nxe, .bool smep, .bool smap] t3)) w1) :
    RgtAt w1 w.heap.size W U X ∧ AccAt w1 (w.heap.size + 1) k user ac ∧ CtlAt w1 (w.heap.size + 2) wp nxe smep smap := by
  have e1 : ∀ o, (w.alloc o).heap.size = w.heap.size + 1 := fun o => by simp
  have e2 : ∀ o o', ((w.alloc o).alloc o').heap.size = w.heap.size + 2 := fun o o' => by simp
  have e3 : ∀ o o' o'', (((w.alloc o).alloc o').alloc o'').heap.size = w.heap.size + 3 := fun o o' o'' => by simp
  refine ⟨rgt_keep (rgt_keep (rgt_keep (rgt_new w W U X t1) ?_ (kept_alloc _ _)) ?_ (kept_alloc _ _)) ?_ hb, ?_, ?_⟩
  · rw [e1]; omega
  · rw [e2]; omega
  · rw [e3]; omega
  · have h := acc_new (w.alloc (.cells #[.bool W, .bool U, .bool X] t1)) k user ac t2
    rw [e1] at h
    exact acc_keep (acc_keep h (by rw [e2]; omega) (kept_alloc _ _)) (by rw [e3]; omega) hb
  · have h := ctl_new ((w.alloc (.cells #[.bool W, .bool U, .bool X] t1)).alloc (.cells #[.int .i64 k, .bool user, .bool ac] t2)) wp nxe smep smap t3
    rw [e2] at h
    exact ctl_keep h (by rw [e3]; omega) hb

end Go.Proofs.YtddbjbdhbeijjaaDoor
/- Contracts of package mem, over a memory as it lies in the world. -/
namespace Go.Proofs.YtddbjbdhbeijjaaDoor
set_option linter.unusedVariables false
set_option linter.unusedSimpArgs false
open Go.ChangeShapes Go.WideShapes Go.ChangeAt Go.RowKit
open Go.Maps (Keyed IsMap)

section
variable {w : World} {m : Nat} {M : Int} {f : Int → Int} {tr : List Int} {n mb : Nat} {v : Value} {D : Dw}

end

theorem wrap_in {a : Int} (h0 : 0 ≤ a) (h1 : a < 18446744073709551616) : IntKind.u64.wrap a = a := by
  show a % 18446744073709551616 = a
  omega

end Go.Proofs.YtddbjbdhbeijjaaDoor
