/- real of layer 8: a path as the document has it. -/
import Derived.Test.YtlpjbmlkpmhdlaaDoorHs
import Derived.Deep.RegionLaw
import Derived.Deep.AppendLies
namespace Go.Proofs.YtlpjbmlkpmhdlaaDoor
set_option linter.unusedVariables false
set_option linter.unusedSimpArgs false
open Go.ChangeShapes Go.WideShapes Go.ChangeAt Go.RowKit Go.Joins

theorem take_more (S : List (Int × Int × Int)) {k : Nat} (hk : k < S.length) : S.take (k + 1) = S.take k ++ [stepAt S k] := by
  rw [List.take_add_one, List.getElem?_eq_getElem hk]
  simp [stepAt, List.getD, List.getElem?_eq_getElem hk]

/-- real, in its loop -/
structure Rea (w wr : World) (vin : Value) (P : Pth) (k : Nat) (v : Value) : Prop where
  box : Blk wr w.heap.size (pathCells vin P) 38
  res : Blk wr (w.heap.size + 1) (pathCells (.slice none 0 0) (offP 0)) 45
  pth : Blk wr (w.heap.size + 2) (pathCells v P) 45
  own : StepsOwn 96 wr (w.heap.size + 3) v (P.steps.take k)
  below : Below w.heap.size w wr

section
variable {w wr w3 w5 : World} {vin v v' : Value} {P : Pth} {k : Nat}
theorem Rea.start (w : World) (vin : Value) (P : Pth) : Rea w (((w.alloc (.cells (pathCells vin P) 38)).alloc (.cells (pathCells (.slice none 0 0) (offP 0)) 45)).alloc (.cells (pathCells (.slice none 0 0) P) 45)) vin P 0 (.slice none 0 0) := by
  have e1 : ∀ o, (w.alloc o).heap.size = w.heap.size + 1 := fun o => by simp
  have e2 : ∀ o o', ((w.alloc o).alloc o').heap.size = w.heap.size + 2 := fun o o' => by simp
  refine ⟨((Blk.new w _ _).alloc _).alloc _, ?_, ?_, StepsOwn.nil _ _ _, below3 w _ _ _⟩
  · have := (Blk.new (w.alloc (.cells (pathCells vin P) 38)) (pathCells (.slice none 0 0) (offP 0)) 45).alloc (.cells (pathCells (.slice none 0 0) P) 45)
    rwa [e1] at this
  · have := Blk.new ((w.alloc (.cells (pathCells vin P) 38)).alloc (.cells (pathCells (.slice none 0 0) (offP 0)) 45)) (pathCells (.slice none 0 0) P) 45
    rwa [e2] at this
theorem Rea.quiet (h : Rea w wr vin P k v) (hb : Below wr.heap.size wr w3) : Rea w w3 vin P k v :=
  ⟨h.box.below hb, h.res.below hb, h.pth.below hb, h.own.below hb, h.below.trans (hb.mono h.below.size)⟩
theorem Rea.more {l s x : Int} {u : TypeId} (h : Rea w wr vin P k v) (hk : k < P.steps.length) (hx : stepAt P.steps k = (l, s, x)) (hown : w5.ownsRow (w.heap.size + 3) 96 3 v' (k + 1) (stepCells (P.steps.take k) ++ [.int .i64 l, .int .u64 s, .int .u64 x]))
    (hg : (wr.alloc (.cells #[.int .i64 l, .int .u64 s, .int .u64 x] u)).grownBy w5 v.ownBlock) :
    Rea w (w5.setCell ⟨w.heap.size + 2, 0, none⟩ v') vin P (k + 1) v' ∧ Blk w5 (w.heap.size + 2) (pathCells v P) 45 := by
  have ht : Turn (fun i => v.ownBlock = some i) wr w5 := (Turn.alloc _ wr _).and (Turn.grown hg (fun i hi => hi))
  have hv : ∀ i, v.ownBlock = some i → w.heap.size + 3 ≤ i := fun i hi => (h.own.lt hi).1
  have n0 : ¬ v.ownBlock = some w.heap.size := fun e => by have := hv _ e; omega
  have n1 : ¬ v.ownBlock = some (w.heap.size + 1) := fun e => by have := hv _ e; omega
  have n2 : ¬ v.ownBlock = some (w.heap.size + 2) := fun e => by have := hv _ e; omega
  have hs : StepsOwn 96 w5 (w.heap.size + 3) v' (P.steps.take (k + 1)) := by
    rw [take_more _ hk, hx]
    exact StepsOwn.more (by rw [List.length_take, Nat.min_eq_left (by omega)]; exact hown)
  have hp5 := h.pth.turn ht n2
  have t2 := turn1 w5 (w.heap.size + 2) 0 v'
  have b5 : Below w.heap.size w w5 := h.below.trans (ht.below (fun i hi => by have := hv i hi; omega) h.below.size)
  exact ⟨⟨(h.box.turn ht n0).turn t2 (by omega), (h.res.turn ht n1).turn t2 (by omega), hp5.set1 0 v', hs.turn t2 (fun i hi e => by have := (hs.lt hi).1; omega), turn_below b5 t2 (by omega) b5.size⟩, hp5⟩
end

set_option maxRecDepth 100000 in
set_option maxHeartbeats 3200000 in
theorem real_any (w : World) (A : Option Addr) (L c : Nat) (P : Pth) (hL : P.steps.length = L) (hS : StepsIn w (.slice A L c) P.steps) (hl : L * 24 ≤ 140737488355328) :
    Calls Tryd.prog 15 #[pathV (.slice A L c) P.why P.W P.U P.X P.lev P.fr] w fun e w' => ∃ A' c', e = .returned (pathV (.slice A' L c') P.why P.W P.U P.X P.lev P.fr) ∧ StepsOwn 96 w' w.heap.size (.slice A' L c') P.steps ∧ Below w.heap.size w w' := by
  obtain ⟨i0, hi, hz0, hz1, hz2⟩ := info_parts infoRStep
  have HP := Lib.hid (Rea.start w (.slice A L c) P)
  have HL := Lib.hid hL
  have HS := Lib.hid hS
  clear hL hS
  go_enter Tryd.func15, Tryd.ntmps15
  go_wp2
  go_loopw [4] (fun i wr => ∃ (k : Nat) (v : Value), k ≤ L ∧ i = .int .i64 k ∧ Rea w wr (.slice A L c) P k v) (fun i _ => (L - intOf i).toNat)
  case atStart => exact ⟨0, _, by omega, rfl, HP.out⟩
  case round =>
    obtain ⟨k, v, hk, rfl, hR⟩ := hrel
    clear HP
    have HR := Lib.hid hR
    obtain ⟨A1, c1, rfl⟩ := hR.own.form
    clear hR
    obtain ⟨p0, p1, p2, p3, p4, p5, p6⟩ := HR.out.box.seven
    have hlk : (P.steps.take k).length = k := by rw [List.length_take, Nat.min_eq_left (by rw [HL.out]; exact hk)]
    rw [hlk] at HR
    by_cases hlt : k < L
    · obtain ⟨ad, rfl, d0, d1, d2⟩ := steps_at (HS.out.below HR.out.below) (k := k) (by rw [HL.out]; exact hlt)
      obtain ⟨q0, q1, q2, q3, q4, q5, q6⟩ := HR.out.pth.seven
      generalize hst : stepAt P.steps k = st at *
      obtain ⟨l, s, x⟩ := st
      have HST := Lib.hid hst
      clear hst
      go_wp2
      have HR2 := Lib.hid (HR.out.quiet (Kept.drew0 wr))
      have HO2 : Hid (wr.drew.ownsRow (w.heap.size + 3) 96 3 (.slice A1 k c1) k (stepCells (P.steps.take k))) := Lib.hid (by have := HR2.out.own; unfold StepsOwn at this; rw [hlk] at this; exact this)
      have HZ2 : Hid (w.heap.size + 3 ≤ wr.heap.size) := Lib.hid (by have := HR.out.pth.lt; omega)
      have al0 : ∀ o, (wr.alloc o).cell? ⟨w.heap.size + 1 + 1, 0, none⟩ = some (.slice A1 k c1) := fun o => (World.cell?_of_block (a := ⟨w.heap.size + 2, 0, none⟩) (Deep.blk_alloc_lt _ _ _ HR.out.pth.lt)).trans q0
      clear HR hlk
      go_region_law (refine step_append_lies _ rfl _ _ 42 rfl (w.heap.size + 3) 96 i0 _ 3 24 Tryd.underlying42 hi hz0 hz1 hz2 rfl (by decide) (.slice A1 k c1) k (stepCells (P.steps.take k)) rfl (World.ownsRow.alloc HO2.out _) ⟨wr.drew.heap.size, 0, none⟩ 1 1 [.int .i64 l, .int .u64 s, .int .u64 x] rfl rfl (three_cells _ _ _ _ _) (three_one _ _ _) (by decide) (by unfold maxLen; omega) (by omega) (by have := HZ2.out; simp; omega) _ rfl ?_; intro g5 cap5 w5 hown' hgrow hat hlt5; have HN := Lib.hid (HR2.out.more (by rw [HL.out]; exact hlt) HST.out hown' hgrow); clear hgrow hown' hat hlt5; obtain ⟨p0, p1, p2, p3, p4, p5, p6⟩ := HN.out.2.seven; have q0 := HN.out.2.fz 0)
      all_goals
        go_wp2
        go_roundw
        case rel => exact ⟨k + 1, _, by omega, by go_num, HN.out.1⟩
        case measure => simp [intOf]; omega
    · have hle : L ≤ k := by omega
      obtain rfl : k = L := by omega
      obtain ⟨q0, q1, q2, q3, q4, q5, q6⟩ := HR.out.pth.seven
      obtain ⟨r0, r1, r2, r3, r4, r5, r6⟩ := HR.out.res.seven
      have s0 := HR.out.res.fz 0; have s1 := HR.out.res.fz 1; have s2 := HR.out.res.fz 2; have s3 := HR.out.res.fz 3; have s4 := HR.out.res.fz 4; have s5 := HR.out.res.fz 5; have s6 := HR.out.res.fz 6
      clear hlk hk hlt
      go_wp2
      have HE : Hid (P.steps.take k = P.steps) := Lib.hid (by rw [← HL.out]; exact List.take_length)
      refine bodyPost_ret (results_cell_row rfl _ _ (w.heap.size + 1) _ _ _ _ rfl (HR.out.res.set7 _ _ _ _ _ _ _) Tryd.underlying45 rfl rfl) rfl ⟨A1, c1, rfl, ?_, turn_below HR.out.below (turn7 _ _ _ _ _ _ _ _ _) (by omega) HR.out.below.size⟩
      have ho := HR.out.own
      rw [HE.out] at ho
      exact (ho.down (by omega)).turn (turn7 _ _ _ _ _ _ _ _ _) (fun i hi e => by have := (ho.lt hi).1; omega)
end Go.Proofs.YtlpjbmlkpmhdlaaDoor
