/- Several texts of ours in one: L8s, Hs, Oq. -/
import Derived.Test.YtopmmlcjlopmaaaDoorGHfHgGc
import Derived.Test.YtopmmlcjlopmaaaDoorGKaHmHn
import Derived.Test.YtopmmlcjlopmaaaDoorGRlRsRp
import Derived.Test.YtopmmlcjlopmaaaDoorGHpHqHu
import Derived.Test.YtopmmlcjlopmaaaDoorGVaVrFr
import Derived.Deep.Slices
import Derived.Deep.Strs
import Derived.Deep.FieldsWide
/- The walk of WalkSteps. -/
namespace Go.Proofs.YtopmmlcjlopmaaaDoor
set_option linter.unusedVariables false
set_option linter.unusedSimpArgs false
open Go.ChangeShapes Go.WideShapes Go.ChangeAt Go.RowKit Go.Joins

theorem load_step (w : World) (ad : Addr) (k a x : Int) (c0 : w.cell? ad = some (.int .i64 k)) (c1 : w.cell? (ad.add 1) = some (.int .u64 a)) (c2 : w.cell? (ad.add 2) = some (.int .u64 x)) :
    (Instr.loadAt 73 (.pointer (some ad))).run Tryd.prog w = .ok (.agg #[.int .i64 k, .int .u64 a, .int .u64 x]) w := by
  have h := run_loadCells_list (P := Tryd.prog) (w := w) ad [.int .i64 k, .int .u64 a, .int .u64 x] (fun j v hv => by
    match j, hv with
    | 0, hv => simp at hv; subst hv; simpa [Addr.add] using c0
    | 1, hv => simp at hv; subst hv; exact c1
    | 2, hv => simp at hv; subst hv; exact c2)
  have g1 : (isAgg 73).run Tryd.prog w = .ok true w := by kernel_rfl
  have g2 : (sizeOf 73).run Tryd.prog w = .ok 3 w := by kernel_rfl
  simp only [Instr.loadAt, Instr.sureAddr, loadVar, Sem.run_bind, Sem.run_pure, Result.andThen_ok, g1, g2, if_true]
  simp at h
  simp [h]

/-- what lies where: the path's box, the steps, the trace -/
structure Sc (w0 wr : World) (b : Nat) (v vt : Value) (P : Pth) : Prop where
  box : Blk wr b (pathCells v P) 27
  steps : StepsIn wr v P.steps
  trace : WordsOwn wr vt (slotsP P.steps)
  below : Below w0.heap.size w0 wr

theorem rem2 {x : Int} (h : 0 ≤ x) : ∃ ρ, x.tmod 2 = ρ ∧ IntKind.u64.wrap ρ = ρ ∧ (x % 2 = 0 → ρ = 0) ∧ (x % 2 = 1 → ρ = 1) :=
  ⟨x % 2, Int.tmod_eq_emod_of_nonneg h, wrap_in (by omega) (by omega), id, id⟩

theorem Sc.quiet {w0 wr w3 : World} {b : Nat} {v vt : Value} {P : Pth} (h : Sc w0 wr b v vt P) (hb : Below wr.heap.size wr w3) : Sc w0 w3 b v vt P :=
  ⟨h.box.below hb, h.steps.below hb, own_below h.trace hb, h.below.trans (hb.mono h.below.size)⟩

theorem slots_get {S : List (Int × Int × Int)} {k : Nat} (hk : k < S.length) : (slotsP S).getD k 0 = (stepAt S k).2.1 := by
  simp [slotsP, stepAt, List.getD, hk]

end Go.Proofs.YtopmmlcjlopmaaaDoor
/- Contracts of package walk: unused, Same. (Laid by tools/gen_hs.py.) -/
namespace Go.Proofs.YtopmmlcjlopmaaaDoor
set_option linter.unusedVariables false
set_option linter.unusedSimpArgs false
open Go.ChangeShapes Go.WideShapes Go.ChangeAt Go.RowKit Go.Joins

/-- a word without A and D -/
def bareF (x : Int) : Int := bits .andNot .u64 x 96

theorem Blk.three8 {w : World} {b : Nat} {t : TypeId} {x0 x1 x2 : Value} (h : Blk w b #[x0, x1, x2] t) : w.cell? ⟨b, 0, none⟩ = some x0 ∧ w.cell? ⟨b, 1, none⟩ = some x1 ∧ w.cell? ⟨b, 2, none⟩ = some x2 := by
  unfold Blk at h; simp [World.cell?, h]

/-- are the first k steps the same, but for A and D? -/
def sameN (S T : List (Int × Int × Int)) : Nat → Bool
  | 0 => true
  | k + 1 => sameN S T k && ((stepAt S k).1 == (stepAt T k).1 && ((stepAt S k).2.1 == (stepAt T k).2.1 && bareF (stepAt S k).2.2 == bareF (stepAt T k).2.2))

theorem same_false {S T : List (Int × Int × Int)} {k : Nat} : ∀ {L : Nat}, k + 1 ≤ L → sameN S T (k + 1) = false → sameN S T L = false
  | L + 1, hk, h => by
    by_cases e : k = L
    · subst e; exact h
    · unfold sameN; rw [same_false (L := L) (by omega) h]; rfl

/-- two paths in the variables of a call -/
structure Two (w wr : World) (pb : Nat) (v : Value) (P : Pth) (qb : Nat) (v' : Value) (Q : Pth) : Prop where
  boxP : Blk wr pb (pathCells v P) 27
  boxQ : Blk wr qb (pathCells v' Q) 27
  stepsP : StepsIn wr v P.steps
  stepsQ : StepsIn wr v' Q.steps
  below : Below w.heap.size w wr

section
variable {w wr w3 : World} {pb qb : Nat} {v v' : Value} {P Q : Pth}
theorem Two.quiet (h : Two w wr pb v P qb v' Q) (hb : Below wr.heap.size wr w3) : Two w w3 pb v P qb v' Q :=
  ⟨h.boxP.below hb, h.boxQ.below hb, h.stepsP.below hb, h.stepsQ.below hb, h.below.trans (hb.mono h.below.size)⟩
theorem Two.start (h1 : StepsIn w v P.steps) (h2 : StepsIn w v' Q.steps) : Two w ((w.alloc (.cells (pathCells v P) 27)).alloc (.cells (pathCells v' Q) 27)) w.heap.size v P (w.heap.size + 1) v' Q :=
  ⟨(Blk.new w _ _).alloc _, last_obj2 w _ _, h1.below (below2 w _ _), h2.below (below2 w _ _), below2 w _ _⟩
theorem steps_at {A : Option Addr} {L c : Nat} {S : List (Int × Int × Int)} (h : StepsIn wr (.slice A L c) S) {k : Nat} (hk : k < S.length) : ∃ ad, A = some ad ∧ wr.cell? (ad.add (k * 3)) = some (.int .i64 (stepAt S k).1) ∧ wr.cell? ⟨(ad.add (k * 3)).block, (ad.add (k * 3)).off + 1, none⟩ = some (.int .u64 (stepAt S k).2.1) ∧ wr.cell? ⟨(ad.add (k * 3)).block, (ad.add (k * 3)).off + 2, none⟩ = some (.int .u64 (stepAt S k).2.2) := by
  obtain ⟨A', c', hv, hc⟩ := h
  obtain ⟨ad, hA, d0, d1, d2⟩ := hc k hk
  simp at hv
  exact ⟨ad, hv.1.trans hA, d0, d1, d2⟩
end

/-- what the region of Same keeps -/
def RegSm (w1 : World) (sb : Nat) (l s x : Int) (qb : Nat) (v' : Value) (Q : Pth) (ad : Addr) (l' s' x' : Int) (w' : World) : Prop :=
  Blk w' sb #[.int .i64 l, .int .u64 s, .int .u64 x] 73 ∧ Blk w' qb (pathCells v' Q) 27 ∧ (w'.cell? ad = some (.int .i64 l') ∧ w'.cell? ⟨ad.block, ad.off + 1, none⟩ = some (.int .u64 s') ∧ w'.cell? ⟨ad.block, ad.off + 2, none⟩ = some (.int .u64 x')) ∧ Kept w1 w'
theorem regsm_step {w1 : World} {sb : Nat} {l s x : Int} {qb : Nat} {v' : Value} {Q : Pth} {ad : Addr} {l' s' x' : Int} {w2 w3 : World} (h : RegSm w1 sb l s x qb v' Q ad l' s' x' w2) (hb : Below w2.heap.size w2 w3) : RegSm w1 sb l s x qb v' Q ad l' s' x' w3 := by
  obtain ⟨a, b, ⟨c0, c1, c2⟩, k⟩ := h
  exact ⟨a.below hb, b.below hb, ⟨(hb.cell (World.block_lt_of_cell? _ _ c0)).trans c0, (hb.cell (World.block_lt_of_cell? _ _ c1)).trans c1, (hb.cell (World.block_lt_of_cell? _ _ c2)).trans c2⟩, Kept.step hb k⟩

end Go.Proofs.YtopmmlcjlopmaaaDoor
/- A slice of puts that came in. -/
namespace Go.Proofs.YtopmmlcjlopmaaaDoor
set_option linter.unusedVariables false
set_option linter.unusedSimpArgs false
open Go.ChangeShapes Go.WideShapes Go.ChangeAt Go.RowKit Go.Joins

section
variable {H : Type} {enc : TypeId × Value → H} {w : World} {base : Nat} {spare : Nat → Bool} {held : Bool}

theorem list4q {α : Type} {zs : List α} (h : zs.length = 4) : ∃ t u v x, zs = [t, u, v, x] := by
  match zs, h with
  | [t, u, v, x], _ => exact ⟨t, u, v, x, rfl⟩

abbrev Put4 (y : Int × Int × Int × Int) : Prop := (0 ≤ y.1 ∧ y.1 < 65536) ∧ (0 ≤ y.2.1 ∧ y.2.1 < 65536) ∧ (0 ≤ y.2.2.1 ∧ y.2.2.1 < 256)

set_option maxRecDepth 100000 in
theorem open_put {n : Nat} {cs : List Value} {x : DataW H × List MemPlace} (h : DataW.trod enc Tryd.prog w base spare held n 62 cs = some x) :
    ∃ y : Int × Int × Int × Int, cs = [.int .u16 y.1, .int .u16 y.2.1, .int .u8 y.2.2.1, .int .u64 y.2.2.2] ∧ Put4 y := by
  obtain ⟨y0, y1, y2, y3, m, _, hl, h0, h1, h2, h3⟩ := Joins.trod_struct4 Tryd.underlying62 h
  rw [show Tryd.prog.cellsOf 62 = 4 by kernel_rfl] at hl
  have e1 : Tryd.prog.cellsOf 60 = 1 := by kernel_rfl
  have e2 : Tryd.prog.cellsOf 5 = 1 := by kernel_rfl
  have e3 : Tryd.prog.cellsOf 25 = 1 := by kernel_rfl
  obtain ⟨a, b, c, d, rfl⟩ := list4q hl
  simp [e1, e2, e3] at h0 h1 h2 h3
  obtain ⟨k, e4, _, w4⟩ := DataW.trod_int Tryd.underlying60 h0
  obtain ⟨p, e5, _, w5⟩ := DataW.trod_int Tryd.underlying60 h1
  obtain ⟨q, e6, _, w6⟩ := DataW.trod_int Tryd.underlying5 h2
  obtain ⟨r, e7, _, w7⟩ := DataW.trod_int Tryd.underlying25 h3
  simp at e4 e5 e6 e7
  subst e4 e5 e6 e7
  have b4 := bounds_u16 w4
  have b5 := bounds_u16 w5
  have b6 := bounds_u8 w6
  exact ⟨(k, p, q, r), rfl, ⟨b4.1, by show k < 65536; omega⟩, ⟨b5.1, by show p < 65536; omega⟩, ⟨b6.1, by show q < 256; omega⟩⟩

set_option maxRecDepth 100000 in
theorem open_puts {r : Reach} {b0 : Nat} {v : Value} {d : DataW H} {p : List MemPlace} (hv : Value.okWide Tryd.prog w r b0 63 v) (h : DataW.Trod enc Tryd.prog w base spare held 63 v d p) :
    ∃ A ds c, v = .slice A ds.length c ∧ ds.length ≤ maxLen ∧ PutsIn w A ds ∧ PutsOk ds := by
  obtain ⟨a, len, cap, rfl⟩ := okWide_slice Tryd.underlying63 hv
  obtain ⟨fuel, hf⟩ := h
  rcases Deep.open_slice Tryd.underlying63 hf with ⟨hcs, _⟩ | ⟨ad, len', cap', m, n, D, Pl, hcs, _, hl, hm, hmm, _, hel⟩
  · have e : Value.slice a len cap = .slice none 0 0 := by simpa [Value.cells] using hcs
    rw [e]
    exact ⟨none, [], 0, rfl, by simp [maxLen], fun k hk => absurd hk (by simp), fun k hk => absurd hk (by simp)⟩
  · have e : Value.slice a len cap = .slice (some ad) len' cap' := by simpa [Value.cells] using hcs
    rw [e]
    have e3 : Tryd.prog.cellsOf 62 = 4 := by kernel_rfl
    rw [e3] at hel
    have hle : len' ≤ m := by rw [hmm]; split <;> omega
    obtain ⟨g, hg⟩ := Deep.choose_lt (α := Int × Int × Int × Int) (n := len') (p := fun k y => (w.cell? (ad.add (k * 4)) = some (.int .u16 y.1) ∧ w.cell? ((ad.add (k * 4)).add 1) = some (.int .u16 y.2.1) ∧ w.cell? ((ad.add (k * 4)).add 2) = some (.int .u8 y.2.2.1) ∧ w.cell? ((ad.add (k * 4)).add 3) = some (.int .u64 y.2.2.2)) ∧ Put4 y) (fun k hk => by
      obtain ⟨cs', h1, h2⟩ := hel k (by omega)
      obtain ⟨y, rfl, w1⟩ := open_put h2
      obtain ⟨_, _, hc⟩ := World.cells?_some h1
      exact ⟨y, ⟨by simpa [Addr.add] using hc 0 (by omega), hc 1 (by omega), hc 2 (by omega), hc 3 (by omega)⟩, w1⟩)
    have hget : ∀ k, k < len' → ((List.range len').map g).getD k (0, 0, 0, 0) = g k := fun k hk => by simp [List.getD, hk]
    refine ⟨some ad, (List.range len').map g, cap', by simp, by simp; omega, fun k hk => ⟨ad, rfl, ?_⟩, fun k hk => ?_⟩
    · have hk' : k < len' := by simpa using hk
      rw [hget k hk']; exact (hg k hk').1
    · have hk' : k < len' := by simpa using hk
      rw [hget k hk']; exact (hg k hk').2
end

theorem bounds_u32 {a : Int} (h : (Lit.int .u32 a).wf = true) : 0 ≤ a ∧ a < 4294967296 := by
  have h' : IntKind.u32.min ≤ a ∧ a ≤ IntKind.u32.max := by simpa [Lit.wf] using h
  have e1 : IntKind.u32.min = 0 := by decide
  have e2 : IntKind.u32.max = 4294967295 := by decide
  omega
theorem lt_u8 {a : Int} (h : (Lit.int .u8 a).wf = true) : a < 256 := by have := bounds_u8 h; omega
end Go.Proofs.YtopmmlcjlopmaaaDoor
