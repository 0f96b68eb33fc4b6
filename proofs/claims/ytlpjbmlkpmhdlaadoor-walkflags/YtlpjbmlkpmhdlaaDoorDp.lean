/- Deeds: pair, run; a slice of deeds. -/
import Derived.Test.YtlpjbmlkpmhdlaaDoorMe
import Derived.Laws.Cells
namespace Go.Proofs.YtlpjbmlkpmhdlaaDoor
set_option linter.unusedVariables false
set_option linter.unusedSimpArgs false
open Go.ChangeShapes Go.WideShapes Go.ChangeAt Go.RowKit Go.Joins

theorem mem_on {w w0 w' : World} {F : Nat → Prop} {m : Nat} {M : Int} {f : Int → Int} {tr : List Int} {n : Nat} (h0 : Turn F w w0) (h : Mem w' (Since F w0) m M f tr n) (ht : Turn F w0 w') : Mem w' (Since F w) m M f tr n ∧ Turn F w w' :=
  ⟨h.mono fun i hi => since_mono h0.size hi, h0.trans (ht.mono fun i _ hi => Or.inl hi)⟩

/-- what a deed answers, and what it leaves -/
def pairV (M : Int) (f : Int → Int) (k a : Int) : Int := if k = 1 then getV M f a else if k = 3 then peekV M f a else if k = 4 then peekV M f a else 0
def pairE (M k a : Int) : Int := if k = 1 then getE M a else if k = 2 then getE M a else if k = 3 then errS M a else if k = 4 then errS M a else if k = 5 then errS M a else 0
def pairF (M : Int) (f : Int → Int) (k a x : Int) : Int → Int := if k = 2 then putS M f a (x % 256) else if k = 5 then storeS M f a x else f
def pairT (M : Int) (tr : List Int) (k a : Int) : List Int := if k = 1 then tr else if k = 2 then tr else if k = 3 then loadT M tr a else if k = 4 then tr else if k = 5 then tr else []

theorem getV_bd {M : Int} {f : Int → Int} (hf : ∀ s, W64 (f s)) (a : Int) : 0 ≤ getV M f a ∧ getV M f a < 256 := by
  unfold getV
  split
  · omega
  · exact byte_lt _ _ (hf _)

section
variable {w : World} {F : Nat → Prop} {m : Nat} {M : Int} {f : Int → Int} {tr : List Int} {n : Nat}

end

/-- the deeds' slice holds ds -/
def DeedsIn (w : World) (A : Option Addr) (ds : List (Int × Int × Int)) : Prop := ∀ k, k < ds.length → ∃ ad, A = some ad ∧ w.cell? (ad.add (k * 3)) = some (.int .i64 (ds.getD k (0, 0, 0)).1) ∧ w.cell? ((ad.add (k * 3)).add 1) = some (.int .u64 (ds.getD k (0, 0, 0)).2.1) ∧ w.cell? ((ad.add (k * 3)).add 2) = some (.int .u64 (ds.getD k (0, 0, 0)).2.2)

def DeedsOk (ds : List (Int × Int × Int)) : Prop := ∀ k, k < ds.length → W64 (ds.getD k (0, 0, 0)).2.1 ∧ W64 (ds.getD k (0, 0, 0)).2.2

/-- the state behind the first k deeds -/
def playF (M : Int) (ds : List (Int × Int × Int)) : Nat → (Int → Int)
  | 0 => fun _ => 0
  | k + 1 => pairF M (playF M ds k) (ds.getD k (0, 0, 0)).1 (ds.getD k (0, 0, 0)).2.1 (ds.getD k (0, 0, 0)).2.2
def playT (M : Int) (ds : List (Int × Int × Int)) : Nat → List Int
  | 0 => []
  | k + 1 => pairT M (playT M ds k) (ds.getD k (0, 0, 0)).1 (ds.getD k (0, 0, 0)).2.1

theorem block_add (ad : Addr) (n : Nat) : (ad.add n).block = ad.block := by unfold Addr.add; split <;> rfl
theorem cell_lt {w : World} {ad : Addr} {v : Value} (h : w.cell? ad = some v) : ad.block < w.heap.size := World.block_lt_of_cell? w ad h

theorem deeds_below {w w' : World} {A : Option Addr} {ds : List (Int × Int × Int)} (h : DeedsIn w A ds) (hb : Below w.heap.size w w') : DeedsIn w' A ds := by
  intro k hk
  obtain ⟨ad, e, c0, c1, c2⟩ := h k hk
  exact ⟨ad, e, (hb.cell (cell_lt c0)).trans c0, (hb.cell (cell_lt c1)).trans c1, (hb.cell (cell_lt c2)).trans c2⟩

/-- how many deeds are done -/
def many (ds : List (Int × Int × Int)) : Nat := min ds.length 120

end Go.Proofs.YtlpjbmlkpmhdlaaDoor
