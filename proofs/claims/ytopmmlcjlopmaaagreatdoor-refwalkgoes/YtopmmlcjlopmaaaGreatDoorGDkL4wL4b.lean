/- Several texts of ours in one: Dk, L4w, L4b. -/
import Derived.Test.YtopmmlcjlopmaaaGreatDoorGDhDiDc
import Derived.Test.YtopmmlcjlopmaaaGreatDoorGDpWaWr
import Derived.Test.YtopmmlcjlopmaaaGreatDoorGVaVrFr
import Derived.Deep.RegionWith
/- (*Mem).Copy: its walk. -/
namespace Go.Proofs.YtopmmlcjlopmaaaGreatDoor
set_option linter.unusedVariables false
set_option linter.unusedSimpArgs false
open Go.ChangeShapes Go.WideShapes Go.ChangeAt Go.RowKit Go.Joins

section
variable {w w' : World} {m : Nat} {M : Int} {f : Int → Int} {tr : List Int} {n mb : Nat} {v : Value} {D : Dw}

theorem Mm.not_iter (h : Mm w m M f tr n mb v D) {i : Nat} (hi : Own m mb v D i) {a : Option Nat} {s : Nat} {q : Array Nat} {c : Nat} : w.heap[i]? ≠ some (.mapIter a s q c) := by
  intro e
  rcases hi with rfl | rfl | hv | ⟨k, hk⟩
  · rw [h.here] at e; cases e
  · obtain ⟨es, clock, hb, _⟩ := h.pages
    rw [hb] at e; cases e
  · rcases h.trace.2 with ⟨hn, _⟩ | ⟨g, cap, cur, hg, _, hb, _⟩
    · rw [hn] at hv; simp [Value.ownBlock] at hv
    · rw [hg] at hv
      obtain rfl : g = i := by simpa [Value.ownBlock] using hv
      rw [hb] at e; cases e
  · rcases h.page k with ⟨hn, _⟩ | ⟨b, hb, hr⟩
    · rw [hn] at hk; cases hk
    · rw [hb] at hk
      simp at hk
      have e2 : b = i := by omega
      subst e2
      obtain ⟨c', hc, _⟩ := hr
      rw [hc] at e; cases e

theorem copied_next {left : Lit → Bool} {c : Nat} {nk mbc : Nat} {vc : Value} {Dk : Dw} {fk : Int → Int} {wr w2 : World} {b r cnt : Nat} (h : Copied w wr D Dk f fk left c M nk mbc vc) (hr : wr.ranges Tryz.prog 23 ptrElem b r n D left cnt) (hg : wr.grownBy w2 (some r)) : Mm w2 c M fk [] nk mbc vc Dk := by
  refine h.mm.same fun i hi => hg.block i (h.mm.own_lt hi) fun e => ?_
  obtain ⟨es, clock, since, seen, c0, _, _, _, _, hit, _⟩ := hr
  have e' : i = r := by simpa using e
  subst e'
  exact h.mm.not_iter hi hit

theorem empty_map (h : Mm w m M f tr 0 mb v D) (k : Int) : pageOf D k = .nil := by
  have hs := h.pages.size_le
  obtain ⟨es, rfl⟩ := h.pages.isMap
  have : es = [] := List.length_eq_zero_iff.1 (by simpa [Maps.size] using hs)
  subst this
  rfl

theorem copied_start {w1 : World} {c mbc : Nat} {vc : Value} {D0 : Dw} (h : Mm w m M f tr n mb v D) (h1 : Mm w1 c M (fun _ => 0) [] 0 mbc vc D0) (hF : ∀ i, Own c mbc vc D0 i → w.heap.size ≤ i) : Copied w w1 D D0 f (fun _ => 0) (Maps.has D) c M 0 mbc vc :=
  ⟨h1, hF, fun x hx s hs => (h.zero_of (by rw [hs, hx]; simp)).symm, fun x _ => ⟨empty_map h1 x, fun _ _ => rfl⟩⟩

theorem copied_same {left : Lit → Bool} {c : Nat} {nk mbc : Nat} {vc : Value} {Dk : Dw} {fk : Int → Int} {wr w2 : World} (h : Copied w wr D Dk f fk left c M nk mbc vc) (h2 : Mm w2 c M fk [] nk mbc vc Dk) : Copied w w2 D Dk f fk left c M nk mbc vc := ⟨h2, h.own, h.yes, h.no⟩

theorem copied_done {left : Lit → Bool} {c : Nat} {nk mbc : Nat} {vc : Value} {Dk : Dw} {fk : Int → Int} {wr : World} (h : Copied w wr D Dk f fk left c M nk mbc vc) (hl : ∀ kl, left kl = false) (hn : nk ≤ n) : Mem wr (From w.heap.size) c M f [] n := by
  have e : fk = f := funext fun s => h.yes _ (hl _) s rfl
  subst e
  exact ⟨mbc, vc, Dk, h.mm.more hn, h.own⟩
end

set_option maxRecDepth 100000 in
set_option maxHeartbeats 8000000 in
theorem copy_any {w : World} {m : Nat} {M : Int} {f : Int → Int} {tr : List Int} {n mb : Nat} {v : Value} {D : Dw} (h : Mm w m M f tr n mb v D) (hn : n ≤ 100000) :
    Calls Tryz.prog 16 #[.pointer (some ⟨m, 0, none⟩)] w fun e w' => e = .returned (.pointer (some ⟨w.heap.size + 1, 0, none⟩)) ∧ Mem w' (From w.heap.size) (w.heap.size + 1) M f [] n ∧ Below w.heap.size w w' := by
  obtain ⟨c0, c1, c2, _⟩ := h.cells
  have HH := Lib.hid h
  have hsz := h.pages.size_le
  have hm := h.own_lt (i := m) (Or.inl rfl)
  have hmb := h.pages.lt
  clear h c2
  go_enter Tryz.func16, Tryz.ntmps16
  go_wp2_with (first
    | (go_at_call 24; refine (newMem_any M _ HH.out.bits).mono ?_; rintro e w1 ⟨rfl, hM1, hB1⟩; have HB1 := Lib.hid hB1; have d1 := (hB1.cell (p := ⟨m, 1, none⟩) hm).trans c1; have HM1 := Lib.hid hM1; clear hB1 hM1)
    | (at_range; refine wpList_range_own _ rfl _ 105 rfl 23 108 law64 Tryz.underlying105 ptrElem mb n D rfl (HH.out.belowM HB1.out).pages ?_; intro w0 hrg0 hg0 hs0))
  go_frame
  obtain ⟨mbc, vc, D0, hmm, hF⟩ := HM1.out
  obtain ⟨c, hc⟩ : ∃ c, w.heap.size + 1 = c := ⟨_, rfl⟩
  obtain ⟨r, hr⟩ : ∃ r, w1.heap.size = r := ⟨_, rfl⟩
  have hmbc : mbc < r := by rw [← hr]; exact hmm.pages.lt
  have hmbc0 : w.heap.size ≤ mbc := hF mbc (Or.inr (Or.inl rfl))
  have hwr : w.heap.size ≤ r := by rw [← hr]; exact HB1.out.size
  rw [hc] at hmm hF
  rw [hr] at hrg0
  rw [hc, hr]
  have HC0 := Lib.hid (copied_start HH.out hmm hF)
  have HB0 : Hid (Below w.heap.size w w0) := Lib.hid (HB1.out.grown hg0 HB1.out.size (fun k e => by cases e))
  have HC1 := Lib.hid (copied_same HC0.out (hmm.same fun i hi => hg0.block i (hmm.own_lt hi) (by simp)))
  clear hmm hF HC0 hg0 hs0 HM1 hr c0 c1 d1
  go_loopw [4] (fun _ wr => ∃ (left : Lit → Bool) (cnt nk : Nat) (Dk : Dw) (fk : Int → Int), wr.ranges Tryz.prog 23 ptrElem mb r n D left cnt ∧ nk + cnt ≤ Maps.size D ∧ Hid (Copied w wr D Dk f fk left c M nk mbc vc) ∧ Hid (Below w.heap.size w wr)) (fun _ wr => wr.rangeLeft mb r)
  case atStart => exact ⟨_, _, 0, D0, _, hrg0, by omega, HC1, HB0⟩
  case round =>
    obtain ⟨left, cnt, nk, Dk, fk, hrg, hcs, HC, HB⟩ := hrel
    clear HC1 HB0 hrg0
    go_wp2_with (at_next; refine wpList_next_ranges _ rfl _ rfl 23 law64 ptrElem (Value.int .u64) Value.pointer (fun key kl hk => by obtain ⟨x, hx, _⟩ := Maps.keyOf_int_inv Tryz.underlying23 hk; exact ⟨x, hx⟩) (fun v y hv => by unfold ptrElem at hv; split at hv; exact ⟨_, rfl⟩; exact ⟨_, rfl⟩; cases hv) mb r n _ _ _ rfl hrg ?_ ?_)
    · intro hc0 hl0
      have HE := Lib.hid (copied_done HC.out hl0 (n := n) (by omega))
      clear hl0 hrg
      go_wp2
      go_ret
      refine ⟨?_, ?_, HB.out⟩
      · rw [hc]; rfl
      · rw [hc]; exact HE.out
    · intro x c9 kl yd yp w2 cnt2 hkey hlk hv hat hrg2 hlt hg2 hs2 hen
      obtain ⟨x', ex, rfl, _⟩ := Maps.keyOf_int_inv Tryz.underlying23 hkey
      obtain rfl : x = x' := by simpa using ex
      obtain ⟨k', b, ek, hpb, k0, k1⟩ := HH.out.full _ (Maps.has_true_of_atKey hat)
      obtain rfl : x = k' := by simpa using ek
      have hyd : yd = .lit (.int .u64 b) := by rw [← hat .nil]; exact hpb
      have hc9 : Value.pointer c9 = .pointer (some ⟨b, 0, none⟩) := ptrElem_at (ps := yp) (by rw [← hyd]; exact hv)
      obtain rfl : c9 = some ⟨b, 0, none⟩ := by simpa using hc9
      have hB2 : Below w.heap.size w w2 := HB.out.grown hg2 HB.out.size (fun k e => by cases e; exact hwr)
      obtain ⟨cs, s1, g1, y1, _⟩ := row_load (mrow_below (HH.out.page_row hpb) hB2)
      have HM2 := Lib.hid (copied_next HC.out hrg hg2)
      have HK := Lib.hid hkey
      have HL := Lib.hid hlk
      have HB2 := Lib.hid hB2
      have HG1 := Lib.hid g1
      have HR2 := Lib.hid hrg2
      have hsz1 : (Tryz.prog.info? 110).map (·.size) = some cs.size := by rw [s1]; exact pageInfo
      have hz1 : Tryz.zeroCells110.size = cs.size := by rw [zeros_eq, s1]; simp
      have ho1 : cs.all (·.oneCell') = true := by
        rw [Array.all_eq_true]
        intro i hi
        have := g1 i (by omega)
        rw [Array.getElem?_eq_getElem hi] at this
        rw [Option.some.inj this]
        rfl
      have HSZ := Lib.hid (And.intro hsz1 (And.intro hz1 ho1))
      have q0 : w2.cell? ⟨c, 1, none⟩ = some (.map (some mbc)) := HM2.out.cells.2.1
      have q1 : (w2.alloc (.cells cs 110)).cell? ⟨c, 1, none⟩ = some (.map (some mbc)) := (((Below.refl _ w2).alloc (Nat.le_refl _) _).cell (p := ⟨c, 1, none⟩) (cell_lt q0)).trans q0
      have hlt2 : cnt2 < cnt := hlt
      have HLT := Lib.hid (And.intro hlt hs2)
      have HRG := Lib.hid hrg
      clear hkey hlk hat hrg2 hv hyd hc9 hpb ek ex hB2 g1 hsz1 hz1 ho1 hs2 hg2 s1 hrg
      go_wp2_with (first
        | (refine wpList_load_row rfl 110 _ rfl b rfl 110 cs (0, 0) _ y1 Tryz.underlying110 rfl HSZ.out.1 ?_)
        | (refine wpList_store_last rfl 110 _ _ rfl rfl _ cs rfl HSZ.out.1 HSZ.out.2.1 HSZ.out.2.2 ?_)
        | (at_mapUpdate; refine wpList_mapUpdate_own _ rfl _ _ _ 105 rfl 23 108 law64 Tryz.underlying105 ptrElem mbc nk Dk rfl (World.ownsMap.alloc HM2.out.pages _) (by unfold maxLen; omega) _ _ _ rfl rfl HK.out _ [] (ptrElem_mk _) ?_; intro w3 hown3 hgrow3))
      have hs2 : w.heap.size ≤ w2.heap.size := HB2.out.size
      have HC3 := Lib.hid (HC.out.step HL.out k0 k1 HM2.out hs2 (by have := HSZ.out.1; rw [pageInfo] at this; exact (Option.some.inj this).symm) HG1.out HH.out.words hown3 hgrow3)
      have HR3 := Lib.hid ((HR2.out.alloc (.cells cs 110)).kept hgrow3 (by simp; omega) (by simp; omega))
      have HB3 := Lib.hid ((HB2.out.alloc hs2 (.cells cs 110)).grown hgrow3 (by simp; omega) (fun k e => by cases e; exact hmbc0))
      clear hown3 hgrow3 hen y1 q0 q1
      go_frame
      go_roundw
      case rel => exact ⟨_, cnt2, nk + 1, _, _, HR3.out, by omega, HC3, HB3⟩
      case measure => rw [HR3.out.left_eq, HRG.out.left_eq]; exact hlt2

end Go.Proofs.YtopmmlcjlopmaaaGreatDoor
/- The walks of MemWords and MemBytes. -/
namespace Go.Proofs.YtopmmlcjlopmaaaGreatDoor
set_option linter.unusedVariables false
set_option linter.unusedSimpArgs false
open Go.ChangeShapes Go.WideShapes Go.ChangeAt Go.RowKit Go.Joins

end Go.Proofs.YtopmmlcjlopmaaaGreatDoor
/- The walk of MemBytes. -/
namespace Go.Proofs.YtopmmlcjlopmaaaGreatDoor
set_option linter.unusedVariables false
set_option linter.unusedSimpArgs false
open Go.ChangeShapes Go.WideShapes Go.ChangeAt Go.RowKit Go.Joins

end Go.Proofs.YtopmmlcjlopmaaaGreatDoor
