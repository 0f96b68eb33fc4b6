/- Both packages' Bytes, and From, side by side. -/
import Derived.Test.YtkenanohdbgoiaaL2c
namespace Go.Proofs.Ytkenanohdbgoiaa
set_option linter.unusedVariables false
set_option linter.unusedSimpArgs false
open Go.ChangeShapes Go.WideShapes Go.ChangeAt Go.RowKit Go.Joins
attribute [local go_sem ↓] Go.wp_at_zero Go.wp_at_succ

/-- at the head of block g lie the bytes zs -/
def At8 (w : World) (g : Nat) (zs : List Int) : Prop := g < w.heap.size ∧ zs.length = 8 ∧ ∀ k, k < 8 → w.cell? ⟨g, k, none⟩ = some (.int .u8 (zs.getD k 0))

theorem At8.kept {w w' : World} {g : Nat} {zs : List Int} (h : At8 w g zs) (hk : Kept w w') : At8 w' g zs :=
  ⟨Nat.lt_of_lt_of_le h.1 hk.size, h.2.1, fun k h8 => hk.cell (h.2.2 k h8) h.1⟩
theorem At8.conv {w : World} {g : Nat} {zs : List Int} (h : At8 w g zs) (c : Nat) :
    (convert 23 9 (.slice (some ⟨g, 0, none⟩) 8 c)).run Try.prog w = .ok (.string (strOfNums zs)) w := by
  refine run_convert_bytes_arg w 23 5 Try.underlying23 Try.underlying5 g 0 8 c zs h.2.1 (fun i hi => ?_) 9 Try.underlying9
  rw [Nat.zero_add]; exact h.2.2 i hi

/-- what either Bytes leaves -/
def Bytes8 (x : Int) (w : World) (e : Ending) (w' : World) : Prop := ∃ g c, e = .returned (.slice (some ⟨g, 0, none⟩) 8 c) ∧ At8 w' g (bytesOf x) ∧ Kept w w'

theorem bytes_k (x : Int) (w : World) (hx : W64 x) : Calls Try.prog 12 #[.int .u64 x] w (Bytes8 x w) :=
  (bytes_any x w hx).mono fun _ _ ⟨he, hr, hb⟩ => ⟨_, _, he, ⟨hr.lt, bytesOf_len x, fun k hk => by rw [row8_cell hr hk, bytesOf_get x hk]⟩, hb⟩

theorem rbytes_k (x : Int) (w : World) (hx : W64 x) : Calls Try.prog 13 #[.int .u64 x] w (Bytes8 x w) :=
  (rbytes_any x w hx).mono fun _ w' ⟨g, c, he, ho, hb⟩ => ⟨g, c, he, ⟨by
    have ho' := ho
    unfold OwnB at ho'
    exact (ho'.lt g rfl).2, bytesOf_len x, fun k hk => by have := ownB_cells ho (bytesOf_len x) k hk; rwa [add_at] at this⟩, hb⟩

theorem cell_lt {w : World} {p : Addr} {v : Value} (h : w.cell? p = some v) : p.block < w.heap.size := by
  rcases Nat.lt_or_ge p.block w.heap.size with hlt | hge
  · exact hlt
  · unfold World.cell? at h; rw [Array.getElem?_eq_none hge] at h; simp at h

theorem from_both (A : Option Addr) (zs : List Int) (c : Nat) (w : World) (hm : zs.length ≤ maxLen) (hu : U8s zs) (hb : BytesIn w A zs) : ∃ y e : Int,
    (∀ W, Below w.heap.size w W → Calls Try.prog 10 #[.slice A zs.length c] W fun r w' => r = .returned (.tuple #[.int .u64 y, .int .i64 e]) ∧ W = w') ∧
    (∀ W, Below w.heap.size w W → Calls Try.prog 11 #[.slice A zs.length c] W fun r w' => r = .returned (.tuple #[.int .u64 y, .int .i64 e]) ∧ W = w') := by
  by_cases h8 : zs.length = 8
  · rcases hb with rfl | ⟨ad, rfl, hc⟩
    · simp at h8
    · have hc' : ∀ W, Below w.heap.size w W → ∀ k, k < 8 → W.cell? (ad.add k) = some (.int .u8 (zs.getD k 0)) := fun W hW k hk => by
        have h1 := hc k (by omega)
        exact (hW.cell (cell_lt h1)).trans h1
      exact ⟨_, _, fun W hW => by rw [h8]; exact from_yes ad c zs W hu h8 (hc' W hW), fun W hW => by rw [h8]; exact rfrom_yes ad c zs W hu h8 (hc' W hW)⟩
  · exact ⟨0, 1, fun W _ => from_not A _ c W h8 hm, fun W _ => rfrom_not A _ c W h8 hm⟩

theorem u8_wrap (n : Int) : 0 ≤ IntKind.u8.wrap n ∧ IntKind.u8.wrap n < 256 := by rw [IntKind.wrap_u8]; omega

end Go.Proofs.Ytkenanohdbgoiaa
