/- Several texts of ours in one: Sq, Sc, Sd. -/
import Derived.Test.YtopmmlcjlopmaaaGreatDoorGPaSbSk
import Derived.Deep.CutRange
import Derived.Deep.CutBlock
import Derived.Deep.Cut
import Derived.Lib.SliceRun
import Derived.Lib.SlicesCompact
/- slices.Sort at uint64, at fewer than fifty: pdqsortOrdered. -/
namespace Go.Proofs.YtopmmlcjlopmaaaGreatDoor
set_option linter.unusedVariables false
set_option linter.unusedSimpArgs false
open Go.ChangeShapes Go.WideShapes Go.ChangeAt Go.RowKit
open Go.Sort (swp ltInt SortedIn PermIn Below)

theorem wrap_i64 {a : Int} (h0 : 0 ≤ a) (h1 : a < 100) : IntKind.i64.wrap a = a := by
  unfold IntKind.wrap
  simp [IntKind.bits, IntKind.signed]
  omega

end Go.Proofs.YtopmmlcjlopmaaaGreatDoor
/- slices.Sort and slices.Compact at uint64, at fewer than fifty. -/
namespace Go.Proofs.YtopmmlcjlopmaaaGreatDoor
set_option linter.unusedVariables false
set_option linter.unusedSimpArgs false
open Go.ChangeShapes Go.WideShapes Go.ChangeAt Go.RowKit Go.Lib
open Go.Sort (swp ltInt SortedIn PermIn Below)

theorem Srt.set {w w' : World} {g N : Nat} {d : Array Int} (h : Srt w w' g N d) {i : Nat} (hi : i < d.size) (x : Int) : Srt w (w'.setCell ⟨g, i, none⟩ (.int .u64 x)) g N (d.setIfInBounds i x) :=
  ⟨h.turn.trans (Turn.setCell _ _ _ _ (Or.inl rfl)), h.row.set hi x⟩

theorem Row.pre {w : World} {g N : Nat} {d d' : Array Int} (h : Row w g N d) (hs : d'.size ≤ d.size) (he : ∀ i, i < d'.size → d'[i]! = d[i]!) : Row w g N d' := by
  obtain ⟨c, hc, hN, hd, hv⟩ := h
  exact ⟨c, hc, hN, by omega, fun i hi => by rw [hv i (by omega), he i hi]⟩

end Go.Proofs.YtopmmlcjlopmaaaGreatDoor
/- slices.Sort and slices.Compact at uint64, over lists: what lies in a row of one's own. -/
namespace Go.Proofs.YtopmmlcjlopmaaaGreatDoor
set_option linter.unusedVariables false
set_option linter.unusedSimpArgs false
open Go.ChangeShapes Go.WideShapes Go.ChangeAt Go.RowKit Go.Lib
open Go.Sort (swp ltInt SortedIn PermIn Below)

/-- v is a slice of one's own, behind block B, with the words zs -/
def Lst (w : World) (B : Nat) (v : Value) (zs : List Int) : Prop := w.ownsRow B 23 1 v zs.length (zs.map (Value.int .u64))

theorem Lst.form {w : World} {B : Nat} {v : Value} {zs : List Int} (h : Lst w B v zs) : (v = .slice none 0 0 ∧ zs = []) ∨ ∃ g cap, v = .slice (some ⟨g, 0, none⟩) zs.length cap ∧ B ≤ g ∧ zs.length ≤ cap ∧ cap ≤ maxLen ∧ Row w g cap zs.toArray := by
  rcases h.2 with ⟨h1, h2⟩ | ⟨g, cap, cur, h1, h2, h3, h4, h5, h6, h7⟩
  · exact Or.inl ⟨h1, List.length_eq_zero_iff.1 h2⟩
  · refine Or.inr ⟨g, cap, h1, h2, h4, h5, cur, h3, by omega, by simpa using h4, fun i hi => ?_⟩
    have hi' : i < zs.length := by simpa using hi
    have e : (cur.toList.take (zs.length * 1))[i]? = (zs.map (Value.int .u64))[i]? := by rw [h7]
    rw [List.getElem?_take, if_pos (by omega), Array.getElem?_toList] at e
    rw [e, List.getElem?_map, List.getElem?_eq_getElem hi']
    simp [getElem!_pos, hi']

theorem Lst.len {w : World} {B : Nat} {v : Value} {zs : List Int} (h : Lst w B v zs) : ∃ A c, v = .slice A zs.length c := by
  rcases h.form with ⟨h1, h2⟩ | ⟨g, cap, h1, _⟩
  · exact ⟨none, 0, by rw [h1, h2]; rfl⟩
  · exact ⟨_, _, h1⟩

theorem Srt.below {w w' : World} {g N B : Nat} {d : Array Int} (h : Srt w w' g N d) (hg : B ≤ g) (hB : B ≤ w.heap.size) : Go.RowKit.Below B w w' := h.turn.below (fun i hi => by rw [hi]; exact hg) hB

end Go.Proofs.YtopmmlcjlopmaaaGreatDoor
