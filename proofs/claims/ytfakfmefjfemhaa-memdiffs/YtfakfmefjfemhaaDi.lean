/- mem.Diff. -/
import Derived.Test.YtfakfmefjfemhaaWn
import Derived.Test.YtfakfmefjfemhaaDg
import Derived.Test.YtfakfmefjfemhaaDh
import Derived.Test.YtfakfmefjfemhaaMe
import Derived.Test.YtfakfmefjfemhaaSm
namespace Go.Proofs.Ytfakfmefjfemhaa
set_option linter.unusedVariables false
set_option linter.unusedSimpArgs false
open Go.ChangeShapes Go.WideShapes Go.ChangeAt Go.RowKit Go.Joins

theorem Mm.belowM {w w' : World} {m : Nat} {M : Int} {f : Int → Int} {tr : List Int} {n mb : Nat} {v : Value} {D : Dw} (h : Mm w m M f tr n mb v D) (hb : Below w.heap.size w w') : Mm w' m M f tr n mb v D := h.same fun i hi => hb.block i (h.own_lt hi)

theorem row_below {w w' : World} {b : Nat} {p : Nat → Value} (h : w.rowIs b 84 512 p) (hb : Below w.heap.size w w') : w'.rowIs b 84 512 p := h.of_block (hb.block b h.lt)

theorem app_rows {w4 w5 : World} {v : Value} {zs : List Int} {b B : Nat} {p : Nat → Value} {o : Obj} (hL : Lst w4 B v zs) (hr : w4.rowIs b 84 512 p) (hg : (w4.alloc o).grownBy w5 v.ownBlock) : w5.rowIs b 84 512 p := by
  have hlt := hr.lt
  refine hr.of_block ((hg.block b (by simp; omega) fun e => ?_).trans (Below.heap_alloc _ _ _ hlt))
  rcases hL.form with ⟨rfl, _⟩ | ⟨g, cap, rfl, _, _, _, c, hc, _⟩
  · simp [Value.ownBlock] at e
  · obtain rfl : b = g := by simpa [Value.ownBlock] using e
    obtain ⟨c', hc', _⟩ := hr
    rw [hc] at hc'
    simp at hc'

theorem app_below {w4 w5 : World} {v : Value} {zs : List Int} {B : Nat} {o : Obj} (hL : Lst w4 B v zs) (hB : B ≤ w4.heap.size) (hg : (w4.alloc o).grownBy w5 v.ownBlock) : Below B w4 w5 :=
  ((Below.refl B w4).alloc hB o).grown hg (by simp; omega) fun j e => by
    rcases hL.form with ⟨rfl, _⟩ | ⟨g, cap, rfl, h, _⟩
    · simp [Value.ownBlock] at e
    · obtain rfl : g = j := by simpa [Value.ownBlock] using e
      exact h

theorem lst_more {w5 : World} {v : Value} {zs : List Int} {B : Nat} {x : Int} (h : w5.ownsRow B 30 1 v (zs.length + 1) (zs.map (Value.int .u64) ++ [.int .u64 x])) : Lst w5 B v (zs ++ [x]) := by
  unfold Lst; simpa using h

theorem Lst.down {w : World} {v : Value} {zs : List Int} {B B' : Nat} (h : Lst w B v zs) (hB : B' ≤ B) : Lst w B' v zs := by
  refine ⟨h.1, ?_⟩
  rcases h.2 with h | ⟨g, cap, cur, h1, h2, r⟩
  · exact Or.inl h
  · exact Or.inr ⟨g, cap, cur, h1, Nat.le_trans hB h2, r⟩

set_option maxRecDepth 100000 in
set_option maxHeartbeats 16000000 in
theorem diff_any (w : World) {m m' mb mb' n n' : Nat} {f g : Int → Int} {tr tr' : List Int} {v v' : Value} {D D' : Dw} (ha : Mm w m 16 f tr n mb v D) (hb : Mm w m' 16 g tr' n' mb' v' D') (hn : n ≤ 100000) (hn' : n' ≤ 100000) :
    Calls Try.prog 24 #[.pointer (some ⟨m, 0, none⟩), .pointer (some ⟨m', 0, none⟩)] w fun e w' => ∃ A c ds, e = .returned (.slice A ds.length c) ∧ Lst w' w.heap.size (.slice A ds.length c) ds ∧ IsDif f g ds ∧ Below w.heap.size w w' := by
  obtain ⟨i0, hi, hz0, hz1, hz2⟩ := info_parts infoU64
  have c1 : w.cell? ⟨m, 0, none⟩ = some (.int .i64 16) := ha.cells.1
  have c2 : w.cell? ⟨m', 0, none⟩ = some (.int .i64 16) := hb.cells.1
  have HA := Lib.hid ha
  have HB := Lib.hid hb
  clear ha hb
  go_enter Try.func24, Try.ntmps24
  go_wp2
  go_quiet (fail)
  obtain ⟨w0, hw0⟩ : ∃ w0, w.drewN nq = w0 := ⟨_, rfl⟩
  have hb0 : Below w.heap.size w w0 := by rw [← hw0]; exact ⟨rfl, rfl, rfl, Nat.le_refl _, fun _ _ => rfl⟩
  have hs0 : w0.heap.size = w.heap.size := by rw [← hw0]; rfl
  rw [hw0]
  clear hw0 c1 c2
  have HA0 := Lib.hid (HA.out.belowM hb0)
  have HB0 := Lib.hid (HB.out.belowM hb0)
  go_wp2_with (go_at_call 41; refine (written_any w0 HA0.out HB0.out hn hn' HA0.out.few_keys HB0.out.few_keys).mono ?_; rintro e w1 ⟨A, c, ps, rfl, hr, hm, hL, hB1⟩)
  have hk16 : ∀ k ∈ ps, 0 ≤ k ∧ k < 16 := fun k hk => by
    rcases (hm k).1 hk with h | h
    · have := HA.out.key_of h
      have h2 : k * 4096 < 65536 := this.2
      omega
    · have := HB.out.key_of h
      have h2 : k * 4096 < 65536 := this.2
      omega
  have hps : ps.length ≤ 16 := nodup_len 16 ps (hr.imp (fun h => by omega)) hk16
  have HD0 : Hid (∀ x, Dif f g x → x / 4096 ∈ ps) := Lib.hid fun x hx => by
    rw [hm]
    by_cases h1 : Maps.has D (.int .u64 (x / 4096)) = true
    · exact Or.inl h1
    · by_cases h2 : Maps.has D' (.int .u64 (x / 4096)) = true
      · exact Or.inr h2
      · have e1 : x / 8 / 512 = x / 4096 := by omega
        exact absurd ((HA.out.zero_of (s := x / 8) (by rw [e1]; exact h1)).trans (HB.out.zero_of (s := x / 8) (by rw [e1]; exact h2)).symm) hx.2
  have HK := Lib.hid hk16
  have HR := Lib.hid hr
  have HL := Lib.hid hL
  have hb1 : Below w.heap.size w w1 := hb0.trans (hs0 ▸ hB1)
  have HM1 := Lib.hid (HA.out.belowM hb1)
  have HM2 := Lib.hid (HB.out.belowM hb1)
  have HB1 := Lib.hid hb1
  clear hm hr hk16 hL hB1 hb0 HA0 HB0 hb1
  go_loopw [5, 32] (fun u t wr => ∃ (j : Nat) (ds : List Int) (X : Int) (A5 : Option Addr) (c5 : Nat), t = .int .i64 j ∧ j ≤ ps.length ∧ u = .slice A5 ds.length c5 ∧ ds.length ≤ j * 512 ∧ Hid (Lst wr w1.heap.size (.slice A5 ds.length c5) ds) ∧ Hid (Left f g ps j ds X) ∧ Hid (Below w1.heap.size w1 wr)) (fun _ t _ => (ps.length - intOf t).toNat)
  case atStart => exact ⟨0, [], 0, none, 0, rfl, Nat.zero_le _, rfl, by simp, Lib.hid (World.ownsRow_nil _ _ _ _), Lib.hid (Left.start (fun k hk => (HK.out k hk).1) HD0.out), Lib.hid (Below.refl _ _)⟩
  case round =>
    obtain ⟨j, ds, X, A5, c5, rfl, hj, rfl, hdl, HS, HF, HW⟩ := hrel
    by_cases hlt : j < ps.length
    · obtain ⟨k, r, hd, hg, hkm⟩ := drop_at hlt
      obtain ⟨k0, k16⟩ := HK.out k hkm
      obtain ⟨gb, hgb, cc⟩ : ∃ gb, A = some ⟨gb, 0, none⟩ ∧ wr.cell? ⟨gb, j, none⟩ = some (.int .u64 k) := by
        rcases HL.out.form with ⟨_, h2⟩ | ⟨gb, cap, e, _, _, _, hrow⟩
        · rw [h2] at hlt; simp at hlt
        · have hc := hrow.cell (i := j) (by simpa using hlt)
          have e2 : ps.toArray[j]! = k := by
            rw [getElem!_pos _ j (by simpa using hlt)]
            simp only [List.getElem_toArray]
            rw [List.getElem?_eq_getElem hlt] at hg
            exact Option.some.inj hg
          rw [e2] at hc
          have e3 : A = some ⟨gb, 0, none⟩ := by
            have := e
            simp at this
            exact this.1
          exact ⟨gb, e3, (HW.out.cell (p := ⟨gb, j, none⟩) hrow.lt).trans hc⟩
      subst hgb
      have HD := Lib.hid (HF.out.enter HR.out hd)
      have HLv := Lib.hid (fun ds' h => HF.out.leave (ds' := ds') HR.out hd h)
      have hW64 : W64 k := ⟨k0, by omega⟩
      have h1 : Mm wr m 16 f tr n mb v D := HM1.out.belowM HW.out
      have h2 : Mm wr m' 16 g tr' n' mb' v' D' := HM2.out.belowM HW.out
      have H1 := Lib.hid h1
      have H2 := Lib.hid h2
      clear h1 h2 hd hg
      have jb : (j : Int) < (ps.length : Int) := by omega
      have cp1 := Lib.hid (page_any H1.out k hW64)
      have cp2 := Lib.hid (fun w2 (hb : Below wr.heap.size wr w2) => page_any (H2.out.belowM hb) k hW64)
      go_wp2_with (first | (go_at_call 42; refine cp1.out.mono ?_; clear cp1; rintro e w2 ⟨b1, rfl, r1, hB2⟩) | (go_at_call 42; refine (cp2.out _ hB2).mono ?_; clear cp2; rintro e w3 ⟨b2, rfl, r2, hB3⟩))
      obtain ⟨cs1, s1, g1, y1, l1⟩ := row_load (row_below r1 hB3)
      obtain ⟨cs2, s2, g2, y2, l2⟩ := row_load r2
      have R1 := Lib.hid (row_below r1 hB3)
      have R2 := Lib.hid r2
      have hE := fun W => page_eql W cs1 cs2 (fun i : Nat => f (k * 512 + i)) (fun i : Nat => g (k * 512 + i)) g1 g2
      have HB3 := Lib.hid ((hB2.trans (hB3.mono hB2.size)))
      have HW3 := Lib.hid (HW.out.trans (HB3.out.mono HW.out.size))
      have HS3 := Lib.hid (Lst.keptL HS.out (show Kept wr w3 from HB3.out))
      clear r1 r2 hB2 hB3 g1 g2 s1 s2 y1 y2
      obtain ⟨r0, hr0⟩ : ∃ r0, sameP (fun i : Nat => f (k * 512 + i)) (fun i : Nat => g (k * 512 + i)) = r0 := ⟨_, rfl⟩
      rw [hr0] at hE
      have HR0 := Lib.hid hr0
      have hl1 : ∀ W, (∃ n, W = w3.drewN n) → (loadVar 84 ⟨b1, 0, none⟩).run Try.prog W = .ok (.agg cs1) W := by rintro W ⟨q, rfl⟩; exact l1 q
      have hl2 : ∀ W, (∃ n, W = w3.drewN n) → (loadVar 84 ⟨b2, 0, none⟩).run Try.prog W = .ok (.agg cs2) W := by rintro W ⟨q, rfl⟩; exact l2 q
      clear hr0 l1 l2
      refine wp_region_quiet_lit (by kernel_rfl) (by kernel_rfl) ?_
      iterate 2 (go_big_quiet_step (fail))
      go_big_quiet_want
      refine quiet_whole _ _ rfl _ rfl _ hl1 ?_
      go_frame
      go_big_quiet_on
      iterate 2 (go_big_quiet_step (fail))
      go_big_quiet_want
      refine quiet_whole _ _ rfl _ rfl _ hl2 ?_
      go_frame
      go_big_quiet_on
      go_big_quiet_want
      refine quiet_alike _ _ _ _ rfl cs1 cs2 rfl rfl pageGuard r0 hE ?_
      go_frame
      go_big_quiet_on
      refine wpQuiet_nil ?_
      intro w4 hw4
      have HB4 : Hid (Below w3.heap.size w3 w4) := Lib.hid (by obtain ⟨q, rfl⟩ := hw4; exact ⟨rfl, rfl, rfl, Nat.le_refl _, fun _ _ => rfl⟩)
      have R14 := Lib.hid (row_below R1.out HB4.out)
      have R24 := Lib.hid (row_below R2.out HB4.out)
      have HW4 := Lib.hid (HW3.out.trans (HB4.out.mono HW3.out.size))
      have HS4 := Lib.hid (Lst.keptL HS3.out (show Kept w3 w4 from HB4.out))
      clear hw4 hE hl1 hl2 R1 R2 HW3 HS3 HB3 HS HW HB4
      cases r0
      · go_wp2
        go_loopw [5, 49] (fun u t wr2 => ∃ (i : Nat) (d2 : List Int) (A6 : Option Addr) (c6 : Nat), t = .int .i64 i ∧ i ≤ 512 ∧ u = .slice A6 d2.length c6 ∧ d2.length ≤ j * 512 + i ∧ Hid (Lst wr2 w1.heap.size (.slice A6 d2.length c6) d2) ∧ Hid (DifTo f g d2 (k * 4096 + (i : Int) * 8)) ∧ Hid (wr2.rowIs b1 84 512 (fun i => .int .u64 (f (k * 512 + i)))) ∧ Hid (wr2.rowIs b2 84 512 (fun i => .int .u64 (g (k * 512 + i)))) ∧ Hid (Below w1.heap.size w1 wr2)) (fun _ t _ => (512 - intOf t).toNat)
        case atStart => exact ⟨0, ds, A5, c5, rfl, Nat.zero_le _, rfl, by omega, HS4, Lib.hid (by simpa using HD.out), R14, R24, HW4⟩
        case round =>
          obtain ⟨i, d2, A6, c6, rfl, hi5, rfl, hdl2, HS6, HD6, R16, R26, HW6⟩ := hrel
          clear HS4 R14 R24 HW4 HD
          by_cases hil : i < 512
          · have q1 : wr.cell? ⟨b1, i, none⟩ = some (.int .u64 (f (k * 512 + i))) := R16.out.cell hil
            have q2 : wr.cell? ⟨b2, i, none⟩ = some (.int .u64 (g (k * 512 + i))) := R26.out.cell hil
            obtain ⟨x, hx⟩ : ∃ x, f (k * 512 + i) = x := ⟨_, rfl⟩
            obtain ⟨y, hy⟩ : ∃ y, g (k * 512 + i) = y := ⟨_, rfl⟩
            rw [hx] at q1
            rw [hy] at q2
            have eX : (k * 4096 + (i : Int) * 8) / 8 = k * 512 + i := by omega
            have hil' : (i : Int) < 512 := by omega
            by_cases hxy : x = y
            · have eb : (x != y) = false := by simpa using hxy
              have HN := Lib.hid (HD6.out.pass (by omega) (by rw [eX, hx, hy]; exact hxy))
              clear hx hy hxy eX
              go_wp2
              go_quiet (fail)
              go_wp2
              go_roundw
              case rel => exact ⟨i + 1, d2, A6, c6, by go_num, by omega, rfl, by omega, Lib.hid (Lst.keptL HS6.out (drewN_below _ _)), Lib.hid (by have := HN.out; rwa [show k * 4096 + (i : Int) * 8 + 8 = k * 4096 + ((i + 1 : Nat) : Int) * 8 by omega] at this), Lib.hid (row_below R16.out (drewN_below _ _)), Lib.hid (row_below R26.out (drewN_below _ _)), Lib.hid (HW6.out.trans ((drewN_below _ _).mono HW6.out.size))⟩
              case measure => simp [intOf]; omega
            · have eb : (x != y) = true := by simpa using hxy
              have HN := Lib.hid (HD6.out.add (by omega) (by rw [eX, hx, hy]; exact hxy))
              clear hx hy hxy eX
              go_wp2
              go_quiet (fail)
              obtain ⟨w5, hw5, HB5⟩ : ∃ w5, wr.drewN nq = w5 ∧ Hid (Below wr.heap.size wr w5) := ⟨_, rfl, Lib.hid (drewN_below _ _)⟩
              rw [hw5]
              clear hw5 q1 q2
              have HS5 := Lib.hid (Lst.keptL HS6.out (show Kept wr w5 from HB5.out))
              have R15 := Lib.hid (row_below R16.out HB5.out)
              have R25 := Lib.hid (row_below R26.out HB5.out)
              have HW5 := Lib.hid (HW6.out.trans (HB5.out.mono HW6.out.size))
              clear HS6 R16 R26 HW6 HB5
              go_wp2_with (at_builtin; refine wpList_append_own _ rfl _ _ 27 rfl w1.heap.size 30 i0 (.int .u64 0) 1 8 Try.underlying27 hi hz0 hz1 hz2 rfl (by decide) _ d2.length (d2.map (Value.int .u64)) rfl (World.ownsRow.alloc HS5.out _) ⟨w5.heap.size, 0, none⟩ 1 1 [.int .u64 (k * 4096 + (i : Int) * 8)] rfl rfl (cell_one_new _ _ _) (ints_oneCell .u64 [_]) (by unfold maxLen; omega) (by omega) (by have := HW5.out.size; simp; omega) ?_; intro v7 w7 hown7 hgrow7 hnil7; have HS7 := Lib.hid (lst_more hown7); have HB7 := Lib.hid (HW5.out.trans (app_below HS5.out HW5.out.size hgrow7)); have R17 := Lib.hid (app_rows HS5.out R15.out hgrow7); have R27 := Lib.hid (app_rows HS5.out R25.out hgrow7); clear hown7 hgrow7 hnil7; obtain ⟨A7, c7, rfl⟩ := HS7.out.len)
              go_roundw
              case rel => exact ⟨i + 1, d2 ++ [k * 4096 + (i : Int) * 8], A7, c7, by go_num, by omega, by simp, by simp; omega, HS7, Lib.hid (by have := HN.out; rwa [show k * 4096 + (i : Int) * 8 + 8 = k * 4096 + ((i + 1 : Nat) : Int) * 8 by omega] at this), R17, R27, HB7⟩
              case measure => simp [intOf]; omega
          · have e : i = 512 := by omega
            subst e
            have HX := Lib.hid (HLv.out d2 (by have := HD6.out; rwa [show k * 4096 + ((512 : Nat) : Int) * 8 = k * 4096 + 4096 by omega] at this))
            go_wp2
            go_roundw
            case rel => exact ⟨j + 1, d2, _, A6, c6, by go_num, by omega, rfl, by omega, HS6, HX, HW6⟩
            case measure => simp [intOf]; omega
      · have HX := Lib.hid (HLv.out ds (HD.out.skip (by omega) fun x hx hle => by
          by_cases c : k * 4096 + 4096 ≤ x
          · exact c
          · exfalso
            have := sameP_yes HR0.out (x / 8 - k * 512).toNat (by omega)
            rw [show k * 512 + ((x / 8 - k * 512).toNat : Int) = x / 8 by omega] at this
            exact hx.2 this))
        go_wp2
        go_roundw
        case rel => exact ⟨j + 1, ds, _, A5, c5, by go_num, by omega, rfl, by omega, HS4, HX, HW4⟩
        case measure => simp [intOf]; omega
    · have e : j = ps.length := by omega
      subst e
      have HE := Lib.hid HF.out.done
      go_wp2
      go_ret
      exact ⟨A5, c5, ds, rfl, Lst.down HS.out (Below.size HB1.out), HE.out, HB1.out.trans (HW.out.mono (Below.size HB1.out))⟩

set_option maxRecDepth 100000 in
theorem diff_nil (w : World) (m : Nat) :
    Calls Try.prog 24 #[.pointer (some ⟨m, 0, none⟩), .pointer none] w fun e w' => e = .returned (.slice none 0 0) ∧ Below w.heap.size w w' := by
  go_enter Try.func24, Try.ntmps24
  go_wp2
  go_quiet (fail)
  go_wp2
  go_ret
  exact ⟨rfl, drewN_below _ _⟩

set_option maxRecDepth 100000 in
theorem diff_bits (w : World) (m m' : Nat) (M M' : Int) (hM : M ≠ M') (c1 : w.cell? ⟨m, 0, none⟩ = some (.int .i64 M)) (c2 : w.cell? ⟨m', 0, none⟩ = some (.int .i64 M')) :
    Calls Try.prog 24 #[.pointer (some ⟨m, 0, none⟩), .pointer (some ⟨m', 0, none⟩)] w fun e w' => e = .returned (.slice none 0 0) ∧ Below w.heap.size w w' := by
  have eb : (M != M') = true := by simpa using hM
  clear hM
  go_enter Try.func24, Try.ntmps24
  go_wp2
  go_quiet (fail)
  go_wp2
  go_ret
  exact ⟨rfl, drewN_below _ _⟩

end Go.Proofs.Ytfakfmefjfemhaa
