/- Several texts of ours in one: By, Wd, Mm. -/
import Derived.Test.YtmglikmphddicaaDoorGBvMVm
import Derived.Test.YtmglikmphddicaaDoorGEmGmA
import Derived.Lib.Hide
import Derived.WalkKit
import Derived.ProofKit
import Derived.Below
import Derived.OneCell
import Derived.Maps.OwnSet
import Derived.Maps.AppendAt
import Derived.Deep.OwnRows
/- Plain mathematics: words of 64 bits told by their bytes. Nothing of the program. -/
namespace Go.Proofs.YtmglikmphddicaaDoor
set_option linter.unusedVariables false
set_option linter.unusedSimpArgs false

theorem w64_small {b : Int} (h0 : 0 ≤ b) (h1 : b < 256) : W64 b := by unfold W64; omega

theorem tb_small {b : Int} (h0 : 0 ≤ b) (h1 : b < 256) {i : Nat} (hi : 8 ≤ i) : tb b i = false := by
  unfold tb
  apply Nat.testBit_lt_two_pow
  have : 2 ^ 8 ≤ 2 ^ i := Nat.pow_le_pow_right (by decide) hi
  omega

theorem byte_ext' {a b : Int} (h0 : 0 ≤ a) (h1 : a < 256) (k0 : 0 ≤ b) (k1 : b < 256) (h : ∀ i, i < 8 → tb a i = tb b i) : a = b := by
  apply tb_ext (w64_small h0 h1) (w64_small k0 k1)
  intro i hi
  by_cases c : i < 8
  · exact h i c
  · rw [tb_small h0 h1 (by omega), tb_small k0 k1 (by omega)]

/- ### a list of bytes as a word -/
end Go.Proofs.YtmglikmphddicaaDoor
/- Contracts of package word: the calls that make no memory. -/
namespace Go.Proofs.YtmglikmphddicaaDoor
set_option linter.unusedVariables false
set_option linter.unusedSimpArgs false
open Go.ChangeShapes Go.WideShapes Go.ChangeAt Go.RowKit

end Go.Proofs.YtmglikmphddicaaDoor
/- A memory of package mem as it lies in the world: what it is, what turns, and what stays. -/
namespace Go.Proofs.YtmglikmphddicaaDoor
set_option linter.unusedVariables false
set_option linter.unusedSimpArgs false
open Go.ChangeShapes Go.WideShapes Go.ChangeAt Go.RowKit
open Go.Maps (Keyed IsMap)

abbrev Dw := DataW Unit

/-- w' is w but for the blocks of F and new ones -/
structure Turn (F : Nat → Prop) (w w' : World) : Prop where
  os : w'.os = w.os
  tape : w'.tape = w.tape
  output : w'.output = w.output
  size : w.heap.size ≤ w'.heap.size
  block : ∀ i, i < w.heap.size → ¬ F i → w'.heap[i]? = w.heap[i]?

/-- F, and what is new behind w -/
def Since (F : Nat → Prop) (w : World) (i : Nat) : Prop := F i ∨ w.heap.size ≤ i

theorem Turn.refl (F : Nat → Prop) (w : World) : Turn F w w := ⟨rfl, rfl, rfl, Nat.le_refl _, fun _ _ _ => rfl⟩
theorem Turn.trans {F : Nat → Prop} {a b c : World} (h : Turn F a b) (k : Turn (Since F a) b c) : Turn F a c :=
  ⟨k.os.trans h.os, k.tape.trans h.tape, k.output.trans h.output, Nat.le_trans h.size k.size, fun i hi hF => (k.block i (Nat.lt_of_lt_of_le hi h.size) (fun hs => by rcases hs with hs | hs; exact hF hs; omega)).trans (h.block i hi hF)⟩
theorem Turn.mono {F G : Nat → Prop} {a b : World} (h : Turn F a b) (hG : ∀ i, i < a.heap.size → F i → G i) : Turn G a b := ⟨h.os, h.tape, h.output, h.size, fun i hi hg => h.block i hi (fun hf => hg (hG i hi hf))⟩
theorem Turn.below {F : Nat → Prop} {a b : World} {B : Nat} (h : Turn F a b) (hF : ∀ i, F i → B ≤ i) (hB : B ≤ a.heap.size) : Below B a b :=
  ⟨h.os, h.tape, h.output, h.size, fun k hk => h.block k (by omega) (fun hf => by have := hF k hf; omega)⟩
theorem Turn.of_kept {a b : World} (F : Nat → Prop) (h : Below a.heap.size a b) : Turn F a b := ⟨h.os, h.tape, h.output, h.size, fun i hi _ => h.block i hi⟩
theorem Turn.grown {F : Nat → Prop} {a b : World} {row : Option Nat} (h : a.grownBy b row) (hr : ∀ i, row = some i → F i) : Turn F a b := ⟨h.os, h.tape, h.output, h.size, fun i hi hn => h.block i hi (fun e => hn (hr i e.symm))⟩
theorem Turn.setCell (F : Nat → Prop) (a : World) (p : Addr) (u : Value) (hp : F p.block) : Turn F a (a.setCell p u) :=
  ⟨rfl, rfl, rfl, by simp [World.setCell], fun i _ hn => Below.heap_setCell _ _ _ _ (fun e => hn (e ▸ hp))⟩
theorem Turn.alloc (F : Nat → Prop) (a : World) (o : Obj) : Turn F a (a.alloc o) := Turn.grown (World.grownBy_alloc a o none) (by simp)

section
variable {w w' : World} {m : Nat} {M : Int} {f : Int → Int} {tr : List Int} {n mb : Nat} {v : Value} {D : Dw}

end

end Go.Proofs.YtmglikmphddicaaDoor
