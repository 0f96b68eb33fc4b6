/- Bytes as a string; the document's example (awake of dormerlaw02). -/
import Derived.Test.YtlpjbmlkpmhdlaaDoorWm
import Derived.Laws.BytesArg
namespace Go.Proofs.YtlpjbmlkpmhdlaaDoor
set_option linter.unusedVariables false
set_option linter.unusedSimpArgs false
open Go.ChangeShapes Go.WideShapes Go.ChangeAt Go.RowKit Go.Joins

theorem row8_cell {w : World} {g : Nat} {x : Int} (h : Row8 w g (partB x 8)) {k : Nat} (hk : k < 8) : w.cell? ⟨g, k, none⟩ = some (.int .u8 (byteF x (k : Int))) := by
  have := (cell_of_block h k).trans (partB_get x 8 hk)
  simpa [hk] using this

theorem add_at (g k : Nat) : (⟨g, 0, none⟩ : Addr).add k = ⟨g, k, none⟩ := by
  unfold Addr.add; split <;> simp_all

theorem Row8.alloc {w : World} {g : Nat} {cs : Array Value} (h : Row8 w g cs) (hg : g < w.heap.size) (o : Obj) : Row8 (w.alloc o) g cs := (Below.heap_alloc w o g hg).trans h
theorem Row8.lt {w : World} {g : Nat} {cs : Array Value} (h : Row8 w g cs) : g < w.heap.size := by
  rcases Nat.lt_or_ge g w.heap.size with hlt | hge
  · exact hlt
  · unfold Row8 at h; rw [Array.getElem?_eq_none hge] at h; cases h

theorem w64_258 : W64 258 := ⟨by decide, by decide⟩
theorem str258 : strOfNums (bytesOf 258) = ⟨#[2, 1, 0, 0, 0, 0, 0, 0]⟩ := by decide +kernel
theorem word258 : wordOf [2, 1, 0, 0, 0, 0, 0, 0] = 258 := by decide +kernel
theorem byte258 : byteF 258 1 = 1 := by decide +kernel
theorem u8s258 : U8s [2, 1, 0, 0, 0, 0, 0, 0] := by unfold U8s; decide

def lit8 : Array Value := #[.int .u8 2, .int .u8 1, .int .u8 0, .int .u8 0, .int .u8 0, .int .u8 0, .int .u8 0, .int .u8 0]
theorem lit8_cells (w : World) : ∀ k, k < 8 → (w.alloc (.cells lit8 5)).cell? ((⟨w.heap.size, 0, none⟩ : Addr).add k) = some (.int .u8 (([2, 1, 0, 0, 0, 0, 0, 0] : List Int).getD k 0)) := by
  intro k hk
  rw [add_at, cell_of_block (heap_alloc_new w _) k]
  match k, hk with
  | 0, _ => rfl
  | 1, _ => rfl
  | 2, _ => rfl
  | 3, _ => rfl
  | 4, _ => rfl
  | 5, _ => rfl
  | 6, _ => rfl
  | 7, _ => rfl

end Go.Proofs.YtlpjbmlkpmhdlaaDoor
