/- Several texts of ours in one: Id, Kg, So. -/
import Derived.Test.YtopmmlcjlopmaaaGreatDoorGHsIbIc
import Derived.Test.YtopmmlcjlopmaaaGreatDoorGHvHxKd
import Derived.Test.YtopmmlcjlopmaaaGreatDoorGRfSmHe
import Derived.Test.YtopmmlcjlopmaaaGreatDoorGByWdMm
import Derived.Test.YtopmmlcjlopmaaaGreatDoorGVaVrFr
import Derived.Sort.LotD3
import Derived.Sort.LotB
import Derived.Sort.LotC
import Derived.BigQuiet
import Derived.RegionTactic
import Derived.BigRegion
import Derived.ChangeAlike
/- exact, of two paths that are the same; same, of a memory and the document's. (Laid by tools/gen_id.py.) -/
namespace Go.Proofs.YtopmmlcjlopmaaaGreatDoor
set_option linter.unusedVariables false
set_option linter.unusedSimpArgs false
open Go.ChangeShapes Go.WideShapes Go.ChangeAt Go.RowKit Go.Joins

theorem word_own {L : List (Int × Int)} (h : Ris L) {k : Nat} (hk : k < L.length) : wordL L (L.getD k (0, 0)).1 = (L.getD k (0, 0)).2 := by
  refine wordL_hit L _ k hk (fun j hj e => ?_) rfl
  have := List.pairwise_iff_getElem.1 h.up j k (by omega) hk hj
  simp [List.getD, List.getElem?_eq_getElem hk, List.getElem?_eq_getElem (show j < L.length by omega)] at e
  omega
theorem slot_own {L : List (Int × Int)} (h : Ris L) {k : Nat} (hk : k < L.length) : (L.getD k (0, 0)).1 % 8 = 0 ∧ 0 ≤ (L.getD k (0, 0)).1 :=
  h.al (L.getD k (0, 0)) (by simp [List.getD, List.getElem?_eq_getElem hk])

/-- what the region of same keeps -/
def RegM (w1 : World) (b : Nat) (M : Int) (vs vt : Value) (w' : World) : Prop := Blk w' b (docCells M vs vt) 45 ∧ Kept w1 w'
theorem regm_step {w1 : World} {b : Nat} {M : Int} {vs vt : Value} {w2 w3 : World} (h : RegM w1 b M vs vt w2) (hb : Below w2.heap.size w2 w3) : RegM w1 b M vs vt w3 := ⟨h.1.below hb, Kept.step hb h.2⟩

end Go.Proofs.YtopmmlcjlopmaaaGreatDoor
/- same of layer 9, of a memory and the document's. (Laid by tools/gen_kg.py.) -/
namespace Go.Proofs.YtopmmlcjlopmaaaGreatDoor
set_option linter.unusedVariables false
set_option linter.unusedSimpArgs false
open Go.ChangeShapes Go.WideShapes Go.ChangeAt Go.RowKit Go.Joins

set_option maxRecDepth 100000 in
set_option maxHeartbeats 3200000 in
theorem same9_any {w : World} {F : Nat → Prop} {m : Nat} {M : Int} {f : Int → Int} {tr : List Int} {n : Nat} {vs vt : Value} {L : List (Int × Int)} (h : Mem w F m M f tr n) (hd : Doc w M vs vt f tr L) (hl : L.length < 90000) (ht : tr.length < 90000) (hn : n < 1000000) :
    Calls Tryz.prog 15 #[.pointer (some ⟨m, 0, none⟩), .agg (docCells M vs vt)] w fun e w' => e = .returned (.bool true) ∧ Below w.heap.size w w' := by
  obtain ⟨A, c, A', c', rfl, rfl⟩ := hd.form
  have HM := Lib.hid h
  have HD := Lib.hid hd
  have HR : Hid (Blk (w.alloc (.cells (docCells M (.slice A L.length c) (.slice A' tr.length c')) 45)) w.heap.size (docCells M (.slice A L.length c) (.slice A' tr.length c')) 45 ∧ Below w.heap.size w (w.alloc (.cells (docCells M (.slice A L.length c) (.slice A' tr.length c')) 45))) := Lib.hid ⟨Blk.new _ _ _, below_alloc1 _ _⟩
  clear h hd
  go_enter Tryz.func15, Tryz.ntmps15
  go_wp2
  go_loopw [5] (fun i wr => ∃ k : Nat, k ≤ L.length ∧ i = .int .i64 k ∧ Blk wr w.heap.size (docCells M (.slice A L.length c) (.slice A' tr.length c')) 45 ∧ Below w.heap.size w wr) (fun i _ => (L.length - intOf i).toNat)
  case atStart => exact ⟨0, by omega, rfl, HR.out.1, HR.out.2⟩
  case round =>
    obtain ⟨k, hk, rfl, hX, hB⟩ := hrel
    clear HR
    have HX := Lib.hid hX
    have HB := Lib.hid hB
    clear hX hB
    obtain ⟨p0, p1, p2⟩ := HX.out.three
    by_cases hlt : k < L.length
    · obtain ⟨A1, c1, hv, hc⟩ := SlotsOwn.form (own_below HD.out.slots HB.out)
      obtain ⟨g, hA, d0, d1⟩ := hc k hlt
      obtain ⟨rfl, _⟩ : A = A1 ∧ True := by simp at hv; exact ⟨hv.1, trivial⟩
      subst hA
      have hs := slot_own HD.out.ris hlt
      have he : errS M (L.getD k (0, 0)).1 = 0 := HD.out.ins _ (by simp [List.getD, List.getElem?_eq_getElem hlt])
      have hsw : W64 (L.getD k (0, 0)).1 := by
        have h1 := (errS_in he).1
        have h2 := sizeM_bd HM.out.bits
        exact ⟨hs.2, by omega⟩
      have hpv : peekV M f (L.getD k (0, 0)).1 = (L.getD k (0, 0)).2 := by
        rw [show peekV M f (L.getD k (0, 0)).1 = f ((L.getD k (0, 0)).1 / 8) from if_pos he, HD.out.agree, aligned hs.1, word_own HD.out.ris hlt]
      have C := mpeek_any (HM.out.kept HB.out) (L.getD k (0, 0)).1 hsw
      rw [he, hpv] at C
      clear hv hc hs he hsw hpv
      generalize (L.getD k (0, 0)).1 = s at *
      generalize (L.getD k (0, 0)).2 = x at *
      go_wp2_with (first | (go_at_call 38; refine C.mono ?_; rintro e w' ⟨rfl, rfl⟩))
      go_roundw
      case rel => exact ⟨k + 1, by omega, by go_num, HX.out, HB.out⟩
      case measure => simp [intOf]; omega
    · have hle : L.length ≤ k := by omega
      have CT : ∀ w', Kept wr w' → Calls Tryz.prog 20 #[.pointer (some ⟨m, 0, none⟩)] w' fun e w'' => ∃ v', e = .returned v' ∧ w''.ownsRow w'.heap.size 23 1 v' tr.length (tr.map (Value.int .u64)) ∧ Below w'.heap.size w' w'' := fun w' hk => mtrace_any ((HM.out.kept HB.out).kept hk) hn
      have HWo := Lib.hid (own_below HD.out.words HB.out : WordsOwn wr (.slice A' tr.length c') tr)
      clear hk hlt
      go_upto_region 7 with fail
      have H0 : RegM wr w.heap.size M (.slice A L.length c) (.slice A' tr.length c') wr.drew := ⟨HX.out, Kept.drew0 _⟩
      clear HX p0 p1 p2
      refine wp_region_held_drew (S := RegM wr w.heap.size M (.slice A L.length c) (.slice A' tr.length c')) (by kernel_rfl) H0 (fun hHeld => ?_)
      clear H0
      generalize wr.drew = wd at *
      refine anyH_take (i := 0) (v := ?_) rfl (by kernel_rfl) (by kernel_rfl) (by kernel_rfl) (fun _ _ _ h => h) (by rfl) (by assumption) ?_ ?_
      rotate_left
      · intro w hSw
        go_simp
        (try with_reducible rfl)
      (try simp only [Act.put, List.setIfInBounds_toArray, List.set_cons_zero, List.set_cons_succ])
      refine anyH_take (i := 2) (v := ?_) rfl (by kernel_rfl) (by kernel_rfl) (by kernel_rfl) (fun _ _ _ h => h) (by rfl) (by assumption) ?_ ?_
      rotate_left
      · intro w hSw
        go_simp
        (try with_reducible rfl)
      (try simp only [Act.put, List.setIfInBounds_toArray, List.set_cons_zero, List.set_cons_succ])
      refine anyH_take (i := 3) (v := ?_) rfl (by kernel_rfl) (by kernel_rfl) (by kernel_rfl) (fun _ _ _ h => h) (by rfl) (by assumption) ?_ ?_
      rotate_left
      · intro w hSw
        obtain ⟨hA, hk9⟩ := hSw
        obtain ⟨b0, b1, b2⟩ := hA.three
        go_simp
        (try with_reducible rfl)
      (try simp only [Act.put, List.setIfInBounds_toArray, List.set_cons_zero, List.set_cons_succ])
      refine wpAnyH_ready (rs := [1]) (by kernel_rfl) (by simp) ?_
      refine anyH_one rfl (fun K hK => ?_) ?_
      · go_simp
        have hHeld0 := hHeld
        refine (CT _ hHeld.2).mono ?_
        rintro e w5 ⟨v5, rfl, hO, hb5⟩
        obtain ⟨A5, c5, rfl⟩ := own_len hO
        refine hK.out _ _ (regm_step hHeld hb5) (fun hHeld => ?_)
        clear hK K
        (try simp only [Act.put, List.setIfInBounds_toArray, List.set_cons_zero, List.set_cons_succ])
        refine wpAnyH_ready (rs := [4]) (by kernel_rfl) (by simp) ?_
        refine anyH_one rfl (fun K hK => ?_) ?_
        · go_simp
          refine (same_any _ _ _ tr (row_zero hO) (own_below (own_below HWo.out hHeld0.2) hb5) (by omega)).mono ?_
          rintro e w6 ⟨rfl, ny, rfl⟩
          refine hK.out _ _ (regm_step hHeld (drewN_below _ _)) (fun hHeld => ?_)
          clear hK K
          (try simp only [Act.put, List.setIfInBounds_toArray, List.set_cons_zero, List.set_cons_succ])
          refine wpAnyH_ready (rs := [5]) (by kernel_rfl) (by simp) ?_
          refine anyH_one rfl (fun K hK => ?_) ?_
          · go_simp
            refine hK.out _ _ hHeld (fun hHeld => ?_)
            clear hK K
            (try simp only [Act.put, List.setIfInBounds_toArray, List.set_cons_zero, List.set_cons_succ])
            refine wpAnyH_done (by kernel_rfl) ?_ _
            have HE := Lib.hid (HB.out.trans (Below.mono hHeld.2 HB.out.size))
            clear hHeld
            go_wp2
            go_ret
            exact ⟨rfl, HE.out⟩
          exact AllReadyH.nil
        exact AllReadyH.nil
      exact AllReadyH.nil
end Go.Proofs.YtopmmlcjlopmaaaGreatDoor
/- slices.Sort at uint64, at fewer than fifty: a row of words and what turns; cmp.Less; insertionSortOrdered. -/
namespace Go.Proofs.YtopmmlcjlopmaaaGreatDoor
set_option linter.unusedVariables false
set_option linter.unusedSimpArgs false
open Go.ChangeShapes Go.WideShapes Go.ChangeAt Go.RowKit
open Go.Sort (swp insInner insOuter insertionSort ltInt)

/-- block g is a row of N words, of which the first are d -/
def Row (w : World) (g N : Nat) (d : Array Int) : Prop := ∃ c : Array Value, w.heap[g]? = some (.cells c 23 (0, 0)) ∧ c.size = N ∧ d.size ≤ N ∧ ∀ i, i < d.size → c[i]? = some (.int .u64 d[i]!)

/-- w' is w but for the row, which is d, and new blocks -/
structure Srt (w w' : World) (g N : Nat) (d : Array Int) : Prop where
  turn : Turn (fun i => i = g) w w'
  row : Row w' g N d

section
variable {w w' w2 : World} {g N : Nat} {d d' : Array Int}

theorem Row.cell (h : Row w g N d) {i : Nat} (hi : i < d.size) : w.cell? ⟨g, i, none⟩ = some (.int .u64 d[i]!) := by
  obtain ⟨c, hc, _, _, hv⟩ := h
  simp only [World.cell?]
  rw [hc]
  exact hv i hi
theorem Row.free (h : Row w g N d) (i : Nat) : w.frozen? ⟨g, i, none⟩ = false := by
  obtain ⟨c, hc, _⟩ := h
  simp [World.frozen?, hc]
theorem Row.lt (h : Row w g N d) : g < w.heap.size := by
  obtain ⟨c, hc, _⟩ := h
  exact lt_of_block hc
theorem Row.drewN (h : Row w g N d) (n : Nat) : Row (w.drewN n) g N d := h
theorem Row.set (h : Row w g N d) {i : Nat} (hi : i < d.size) (x : Int) : Row (w.setCell ⟨g, i, none⟩ (.int .u64 x)) g N (d.setIfInBounds i x) := by
  obtain ⟨c, hc, hN, hd, hv⟩ := h
  refine ⟨c.setIfInBounds i (.int .u64 x), ?_, by simpa using hN, by simpa using hd, fun j hj => ?_⟩
  · simp [World.setCell, Array.getElem?_modify, hc]
  · have hj' : j < d.size := by simpa using hj
    rw [Array.getElem?_setIfInBounds]
    by_cases e : j = i
    · subst e
      rw [if_pos rfl, if_pos (by omega), Sort.getElem!_set_same d j x hi]
    · rw [if_neg (fun h => e h.symm), hv j hj', Sort.getElem!_set_other d i j x e]
theorem Srt.start (h : Row w g N d) : Srt w w g N d := ⟨Turn.refl _ _, h⟩
theorem Srt.drew (h : Srt w w' g N d) : Srt w w'.drew g N d := ⟨⟨h.turn.os, h.turn.tape, h.turn.output, h.turn.size, h.turn.block⟩, h.row⟩
theorem Srt.drewN (h : Srt w w' g N d) (n : Nat) : Srt w (w'.drewN n) g N d := ⟨⟨h.turn.os, h.turn.tape, h.turn.output, h.turn.size, h.turn.block⟩, h.row⟩
theorem Srt.trans (h : Srt w w' g N d) (k : Srt w' w2 g N d') : Srt w w2 g N d' := ⟨h.turn.trans (k.turn.mono fun i _ hi => Or.inl hi), k.row⟩
theorem Srt.alloc (h : Srt w w' g N d) (o : Obj) : Srt w (w'.alloc o) g N d := by
  refine ⟨h.turn.trans (Turn.alloc _ _ _), ?_⟩
  obtain ⟨c, hc, r⟩ := h.row
  exact ⟨c, (Below.heap_alloc _ _ _ (lt_of_block hc)).trans hc, r⟩
end

end Go.Proofs.YtopmmlcjlopmaaaGreatDoor
