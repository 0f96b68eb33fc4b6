/- Several texts of ours in one: Di, Dc, Dk. -/
import Derived.Test.YtlpjbmlkpmhdlaaDoorGWnDgDh
import Derived.Test.YtlpjbmlkpmhdlaaDoorGWmMdMe
import Derived.Test.YtlpjbmlkpmhdlaaDoorGRfSmHe
import Derived.Deep.WholeRow
import Derived.Maps.RangeWalk
/- mem.Diff. -/
namespace Go.Proofs.YtlpjbmlkpmhdlaaDoor
set_option linter.unusedVariables false
set_option linter.unusedSimpArgs false
open Go.ChangeShapes Go.WideShapes Go.ChangeAt Go.RowKit Go.Joins

theorem Mm.belowM {w w' : World} {m : Nat} {M : Int} {f : Int → Int} {tr : List Int} {n mb : Nat} {v : Value} {D : Dw} (h : Mm w m M f tr n mb v D) (hb : Below w.heap.size w w') : Mm w' m M f tr n mb v D := h.same fun i hi => hb.block i (h.own_lt hi)

theorem mrow_below {w w' : World} {b : Nat} {p : Nat → Value} (h : w.rowIs b 113 512 p) (hb : Below w.heap.size w w') : w'.rowIs b 113 512 p := h.of_block (hb.block b h.lt)

theorem app_rows {w4 w5 : World} {v : Value} {zs : List Int} {b B : Nat} {p : Nat → Value} {o : Obj} (hL : Lst w4 B v zs) (hr : w4.rowIs b 113 512 p) (hg : (w4.alloc o).grownBy w5 v.ownBlock) : w5.rowIs b 113 512 p := by
  have hlt := hr.lt
  refine hr.of_block ((hg.block b (by simp; omega) fun e => ?_).trans (Below.heap_alloc _ _ _ hlt))
  rcases hL.form with ⟨rfl, _⟩ | ⟨g, cap, rfl, _, _, _, c, hc, _⟩
  · simp [Value.ownBlock] at e
  · obtain rfl : b = g := by simpa [Value.ownBlock] using e
    obtain ⟨c', hc', _⟩ := hr
    rw [hc] at hc'
    simp at hc'

theorem app_below {w4 w5 : World} {v : Value} {zs : List Int} {B : Nat} {o : Obj} (hL : Lst w4 B v zs) (hB : B ≤ w4.heap.size) (hg : (w4.alloc o).grownBy w5 v.ownBlock) : Below B w4 w5 :=
  ((Below.refl B w4).alloc hB o).grown hg (by simp; omega) fun j e => by
    rcases hL.form with ⟨rfl, _⟩ | ⟨g, cap, rfl, h, _⟩
    · simp [Value.ownBlock] at e
    · obtain rfl : g = j := by simpa [Value.ownBlock] using e
      exact h

theorem lst_more {w5 : World} {v : Value} {zs : List Int} {B : Nat} {x : Int} (h : w5.ownsRow B 23 1 v (zs.length + 1) (zs.map (Value.int .u64) ++ [.int .u64 x])) : Lst w5 B v (zs ++ [x]) := by
  unfold Lst; simpa using h

theorem Lst.down {w : World} {v : Value} {zs : List Int} {B B' : Nat} (h : Lst w B v zs) (hB : B' ≤ B) : Lst w B' v zs := by
  refine ⟨h.1, ?_⟩
  rcases h.2 with h | ⟨g, cap, cur, h1, h2, r⟩
  · exact Or.inl h
  · exact Or.inr ⟨g, cap, cur, h1, Nat.le_trans hB h2, r⟩

set_option maxRecDepth 100000 in
set_option maxHeartbeats 16000000 in
theorem diff_any (w : World) {m m' mb mb' n n' : Nat} {f g : Int → Int} {tr tr' : List Int} {v v' : Value} {D D' : Dw} (ha : Mm w m 16 f tr n mb v D) (hb : Mm w m' 16 g tr' n' mb' v' D') (hn : n ≤ 100000) (hn' : n' ≤ 100000) :
    Calls Tryd.prog 31 #[.pointer (some ⟨m, 0, none⟩), .pointer (some ⟨m', 0, none⟩)] w fun e w' => ∃ A c ds, e = .returned (.slice A ds.length c) ∧ Lst w' w.heap.size (.slice A ds.length c) ds ∧ IsDif f g ds ∧ Below w.heap.size w w' := by
  obtain ⟨i0, hi, hz0, hz1, hz2⟩ := info_parts infoU64
  have c1 : w.cell? ⟨m, 0, none⟩ = some (.int .i64 16) := ha.cells.1
  have c2 : w.cell? ⟨m', 0, none⟩ = some (.int .i64 16) := hb.cells.1
  have HA := Lib.hid ha
  have HB := Lib.hid hb
  clear ha hb
  go_enter Tryd.func31, Tryd.ntmps31
  go_wp2
  go_quiet (fail)
  obtain ⟨w0, hw0⟩ : ∃ w0, w.drewN nq = w0 := ⟨_, rfl⟩
  have hb0 : Below w.heap.size w w0 := by rw [← hw0]; exact ⟨rfl, rfl, rfl, Nat.le_refl _, fun _ _ => rfl⟩
  have hs0 : w0.heap.size = w.heap.size := by rw [← hw0]; rfl
  rw [hw0]
  clear hw0 c1 c2
  have HA0 := Lib.hid (HA.out.belowM hb0)
  have HB0 := Lib.hid (HB.out.belowM hb0)
  go_wp2_with (go_at_call 61; refine (written_any w0 HA0.out HB0.out hn hn' HA0.out.few_keys HB0.out.few_keys).mono ?_; rintro e w1 ⟨A, c, ps, rfl, hr, hm, hL, hB1⟩)
  have hk16 : ∀ k ∈ ps, 0 ≤ k ∧ k < 16 := fun k hk => by
    rcases (hm k).1 hk with h | h
    · have := HA.out.key_of h
      have h2 : k * 4096 < 65536 := this.2
      omega
    · have := HB.out.key_of h
      have h2 : k * 4096 < 65536 := this.2
      omega
  have hps : ps.length ≤ 16 := nodup_len 16 ps (hr.imp (fun h => by omega)) hk16
  have HD0 : Hid (∀ x, Dif f g x → x / 4096 ∈ ps) := Lib.hid fun x hx => by
    rw [hm]
    by_cases h1 : Maps.has D (.int .u64 (x / 4096)) = true
    · exact Or.inl h1
    · by_cases h2 : Maps.has D' (.int .u64 (x / 4096)) = true
      · exact Or.inr h2
      · have e1 : x / 8 / 512 = x / 4096 := by omega
        exact absurd ((HA.out.zero_of (s := x / 8) (by rw [e1]; exact h1)).trans (HB.out.zero_of (s := x / 8) (by rw [e1]; exact h2)).symm) hx.2
  have HK := Lib.hid hk16
  have HR := Lib.hid hr
  have HL := Lib.hid hL
  have hb1 : Below w.heap.size w w1 := hb0.trans (hs0 ▸ hB1)
  have HM1 := Lib.hid (HA.out.belowM hb1)
  have HM2 := Lib.hid (HB.out.belowM hb1)
  have HB1 := Lib.hid hb1
  clear hm hr hk16 hL hB1 hb0 HA0 HB0 hb1
  go_loopw [5, 32] (fun u t wr => ∃ (j : Nat) (ds : List Int) (X : Int) (A5 : Option Addr) (c5 : Nat), t = .int .i64 j ∧ j ≤ ps.length ∧ u = .slice A5 ds.length c5 ∧ ds.length ≤ j * 512 ∧ Hid (Lst wr w1.heap.size (.slice A5 ds.length c5) ds) ∧ Hid (Left f g ps j ds X) ∧ Hid (Below w1.heap.size w1 wr)) (fun _ t _ => (ps.length - intOf t).toNat)
  case atStart => exact ⟨0, [], 0, none, 0, rfl, Nat.zero_le _, rfl, by simp, Lib.hid (World.ownsRow_nil _ _ _ _), Lib.hid (Left.start (fun k hk => (HK.out k hk).1) HD0.out), Lib.hid (Below.refl _ _)⟩
  case round =>
    obtain ⟨j, ds, X, A5, c5, rfl, hj, rfl, hdl, HS, HF, HW⟩ := hrel
    by_cases hlt : j < ps.length
    · obtain ⟨k, r, hd, hg, hkm⟩ := drop_at hlt
      obtain ⟨k0, k16⟩ := HK.out k hkm
      obtain ⟨gb, hgb, cc⟩ : ∃ gb, A = some ⟨gb, 0, none⟩ ∧ wr.cell? ⟨gb, j, none⟩ = some (.int .u64 k) := by
        rcases HL.out.form with ⟨_, h2⟩ | ⟨gb, cap, e, _, _, _, hrow⟩
        · rw [h2] at hlt; simp at hlt
        · have hc := hrow.cell (i := j) (by simpa using hlt)
          have e2 : ps.toArray[j]! = k := by
            rw [getElem!_pos _ j (by simpa using hlt)]
            simp only [List.getElem_toArray]
            rw [List.getElem?_eq_getElem hlt] at hg
            exact Option.some.inj hg
          rw [e2] at hc
          have e3 : A = some ⟨gb, 0, none⟩ := by
            have := e
            simp at this
            exact this.1
          exact ⟨gb, e3, (HW.out.cell (p := ⟨gb, j, none⟩) hrow.lt).trans hc⟩
      subst hgb
      have HD := Lib.hid (HF.out.enter HR.out hd)
      have HLv := Lib.hid (fun ds' h => HF.out.leave (ds' := ds') HR.out hd h)
      have hW64 : W64 k := ⟨k0, by omega⟩
      have h1 : Mm wr m 16 f tr n mb v D := HM1.out.belowM HW.out
      have h2 : Mm wr m' 16 g tr' n' mb' v' D' := HM2.out.belowM HW.out
      have H1 := Lib.hid h1
      have H2 := Lib.hid h2
      clear h1 h2 hd hg
      have jb : (j : Int) < (ps.length : Int) := by omega
      have cp1 := Lib.hid (mpage_any H1.out k hW64)
      have cp2 := Lib.hid (fun w2 (hb : Below wr.heap.size wr w2) => mpage_any (H2.out.belowM hb) k hW64)
      go_wp2_with (first | (go_at_call 62; refine cp1.out.mono ?_; clear cp1; rintro e w2 ⟨b1, rfl, r1, hB2⟩) | (go_at_call 62; refine (cp2.out _ hB2).mono ?_; clear cp2; rintro e w3 ⟨b2, rfl, r2, hB3⟩))
      obtain ⟨cs1, s1, g1, y1, l1⟩ := row_load (mrow_below r1 hB3)
      obtain ⟨cs2, s2, g2, y2, l2⟩ := row_load r2
      have R1 := Lib.hid (mrow_below r1 hB3)
      have R2 := Lib.hid r2
      have hE := fun W => page_eql W cs1 cs2 (fun i : Nat => f (k * 512 + i)) (fun i : Nat => g (k * 512 + i)) g1 g2
      have HB3 := Lib.hid ((hB2.trans (hB3.mono hB2.size)))
      have HW3 := Lib.hid (HW.out.trans (HB3.out.mono HW.out.size))
      have HS3 := Lib.hid (Lst.keptL HS.out (show Kept wr w3 from HB3.out))
      clear r1 r2 hB2 hB3 g1 g2 s1 s2 y1 y2
      obtain ⟨r0, hr0⟩ : ∃ r0, sameP (fun i : Nat => f (k * 512 + i)) (fun i : Nat => g (k * 512 + i)) = r0 := ⟨_, rfl⟩
      rw [hr0] at hE
      have HR0 := Lib.hid hr0
      have hl1 : ∀ W, (∃ n, W = w3.drewN n) → (loadVar 113 ⟨b1, 0, none⟩).run Tryd.prog W = .ok (.agg cs1) W := by rintro W ⟨q, rfl⟩; exact l1 q
      have hl2 : ∀ W, (∃ n, W = w3.drewN n) → (loadVar 113 ⟨b2, 0, none⟩).run Tryd.prog W = .ok (.agg cs2) W := by rintro W ⟨q, rfl⟩; exact l2 q
      clear hr0 l1 l2
      refine wp_region_quiet_lit (by kernel_rfl) (by kernel_rfl) ?_
      iterate 2 (go_big_quiet_step (fail))
      go_big_quiet_want
      refine quiet_whole _ _ rfl _ rfl _ hl1 ?_
      go_frame
      go_big_quiet_on
      iterate 2 (go_big_quiet_step (fail))
      go_big_quiet_want
      refine quiet_whole _ _ rfl _ rfl _ hl2 ?_
      go_frame
      go_big_quiet_on
      go_big_quiet_want
      refine quiet_alike _ _ _ _ rfl cs1 cs2 rfl rfl pageGuard r0 hE ?_
      go_frame
      go_big_quiet_on
      refine wpQuiet_nil ?_
      intro w4 hw4
      have HB4 : Hid (Below w3.heap.size w3 w4) := Lib.hid (by obtain ⟨q, rfl⟩ := hw4; exact ⟨rfl, rfl, rfl, Nat.le_refl _, fun _ _ => rfl⟩)
      have R14 := Lib.hid (mrow_below R1.out HB4.out)
      have R24 := Lib.hid (mrow_below R2.out HB4.out)
      have HW4 := Lib.hid (HW3.out.trans (HB4.out.mono HW3.out.size))
      have HS4 := Lib.hid (Lst.keptL HS3.out (show Kept w3 w4 from HB4.out))
      clear hw4 hE hl1 hl2 R1 R2 HW3 HS3 HB3 HS HW HB4
      cases r0
      · go_wp2
        go_loopw [5, 49] (fun u t wr2 => ∃ (i : Nat) (d2 : List Int) (A6 : Option Addr) (c6 : Nat), t = .int .i64 i ∧ i ≤ 512 ∧ u = .slice A6 d2.length c6 ∧ d2.length ≤ j * 512 + i ∧ Hid (Lst wr2 w1.heap.size (.slice A6 d2.length c6) d2) ∧ Hid (DifTo f g d2 (k * 4096 + (i : Int) * 8)) ∧ Hid (wr2.rowIs b1 113 512 (fun i => .int .u64 (f (k * 512 + i)))) ∧ Hid (wr2.rowIs b2 113 512 (fun i => .int .u64 (g (k * 512 + i)))) ∧ Hid (Below w1.heap.size w1 wr2)) (fun _ t _ => (512 - intOf t).toNat)
        case atStart => exact ⟨0, ds, A5, c5, rfl, Nat.zero_le _, rfl, by omega, HS4, Lib.hid (by simpa using HD.out), R14, R24, HW4⟩
        case round =>
          obtain ⟨i, d2, A6, c6, rfl, hi5, rfl, hdl2, HS6, HD6, R16, R26, HW6⟩ := hrel
          clear HS4 R14 R24 HW4 HD
          by_cases hil : i < 512
          · have q1 : wr.cell? ⟨b1, i, none⟩ = some (.int .u64 (f (k * 512 + i))) := R16.out.cell hil
            have q2 : wr.cell? ⟨b2, i, none⟩ = some (.int .u64 (g (k * 512 + i))) := R26.out.cell hil
            obtain ⟨x, hx⟩ : ∃ x, f (k * 512 + i) = x := ⟨_, rfl⟩
            obtain ⟨y, hy⟩ : ∃ y, g (k * 512 + i) = y := ⟨_, rfl⟩
            rw [hx] at q1
            rw [hy] at q2
            have eX : (k * 4096 + (i : Int) * 8) / 8 = k * 512 + i := by omega
            have hil' : (i : Int) < 512 := by omega
            by_cases hxy : x = y
            · have eb : (x != y) = false := by simpa using hxy
              have HN := Lib.hid (HD6.out.pass (by omega) (by rw [eX, hx, hy]; exact hxy))
              clear hx hy hxy eX
              go_wp2
              go_quiet (fail)
              go_wp2
              go_roundw
              case rel => exact ⟨i + 1, d2, A6, c6, by go_num, by omega, rfl, by omega, Lib.hid (Lst.keptL HS6.out (drewN_below _ _)), Lib.hid (by have := HN.out; rwa [show k * 4096 + (i : Int) * 8 + 8 = k * 4096 + ((i + 1 : Nat) : Int) * 8 by omega] at this), Lib.hid (mrow_below R16.out (drewN_below _ _)), Lib.hid (mrow_below R26.out (drewN_below _ _)), Lib.hid (HW6.out.trans ((drewN_below _ _).mono HW6.out.size))⟩
              case measure => simp [intOf]; omega
            · have eb : (x != y) = true := by simpa using hxy
              have HN := Lib.hid (HD6.out.add (by omega) (by rw [eX, hx, hy]; exact hxy))
              clear hx hy hxy eX
              go_wp2
              go_quiet (fail)
              obtain ⟨w5, hw5, HB5⟩ : ∃ w5, wr.drewN nq = w5 ∧ Hid (Below wr.heap.size wr w5) := ⟨_, rfl, Lib.hid (drewN_below _ _)⟩
              rw [hw5]
              clear hw5 q1 q2
              have HS5 := Lib.hid (Lst.keptL HS6.out (show Kept wr w5 from HB5.out))
              have R15 := Lib.hid (mrow_below R16.out HB5.out)
              have R25 := Lib.hid (mrow_below R26.out HB5.out)
              have HW5 := Lib.hid (HW6.out.trans (HB5.out.mono HW6.out.size))
              clear HS6 R16 R26 HW6 HB5
              go_wp2_with (at_builtin; refine wpList_append_own _ rfl _ _ 32 rfl w1.heap.size 23 i0 (.int .u64 0) 1 8 Tryd.underlying32 hi hz0 hz1 hz2 rfl (by decide) _ d2.length (d2.map (Value.int .u64)) rfl (World.ownsRow.alloc HS5.out _) ⟨w5.heap.size, 0, none⟩ 1 1 [.int .u64 (k * 4096 + (i : Int) * 8)] rfl rfl (cell_one_new _ _ _) (ints_oneCell .u64 [_]) (by unfold maxLen; omega) (by omega) (by have := HW5.out.size; simp; omega) ?_; intro v7 w7 hown7 hgrow7 hnil7; have HS7 := Lib.hid (lst_more hown7); have HB7 := Lib.hid (HW5.out.trans (app_below HS5.out HW5.out.size hgrow7)); have R17 := Lib.hid (app_rows HS5.out R15.out hgrow7); have R27 := Lib.hid (app_rows HS5.out R25.out hgrow7); clear hown7 hgrow7 hnil7; obtain ⟨A7, c7, rfl⟩ := HS7.out.len)
              go_roundw
              case rel => exact ⟨i + 1, d2 ++ [k * 4096 + (i : Int) * 8], A7, c7, by go_num, by omega, by simp, by simp; omega, HS7, Lib.hid (by have := HN.out; rwa [show k * 4096 + (i : Int) * 8 + 8 = k * 4096 + ((i + 1 : Nat) : Int) * 8 by omega] at this), R17, R27, HB7⟩
              case measure => simp [intOf]; omega
          · have e : i = 512 := by omega
            subst e
            have HX := Lib.hid (HLv.out d2 (by have := HD6.out; rwa [show k * 4096 + ((512 : Nat) : Int) * 8 = k * 4096 + 4096 by omega] at this))
            go_wp2
            go_roundw
            case rel => exact ⟨j + 1, d2, _, A6, c6, by go_num, by omega, rfl, by omega, HS6, HX, HW6⟩
            case measure => simp [intOf]; omega
      · have HX := Lib.hid (HLv.out ds (HD.out.skip (by omega) fun x hx hle => by
          by_cases c : k * 4096 + 4096 ≤ x
          · exact c
          · exfalso
            have := sameP_yes HR0.out (x / 8 - k * 512).toNat (by omega)
            rw [show k * 512 + ((x / 8 - k * 512).toNat : Int) = x / 8 by omega] at this
            exact hx.2 this))
        go_wp2
        go_roundw
        case rel => exact ⟨j + 1, ds, _, A5, c5, by go_num, by omega, rfl, by omega, HS4, HX, HW4⟩
        case measure => simp [intOf]; omega
    · have e : j = ps.length := by omega
      subst e
      have HE := Lib.hid HF.out.done
      go_wp2
      go_ret
      exact ⟨A5, c5, ds, rfl, Lst.down HS.out (Below.size HB1.out), HE.out, HB1.out.trans (HW.out.mono (Below.size HB1.out))⟩

set_option maxRecDepth 100000 in
theorem diff_nil (w : World) (m : Nat) :
    Calls Tryd.prog 31 #[.pointer (some ⟨m, 0, none⟩), .pointer none] w fun e w' => e = .returned (.slice none 0 0) ∧ Below w.heap.size w w' := by
  go_enter Tryd.func31, Tryd.ntmps31
  go_wp2
  go_quiet (fail)
  go_wp2
  go_ret
  exact ⟨rfl, drewN_below _ _⟩

set_option maxRecDepth 100000 in
theorem diff_bits (w : World) (m m' : Nat) (M M' : Int) (hM : M ≠ M') (c1 : w.cell? ⟨m, 0, none⟩ = some (.int .i64 M)) (c2 : w.cell? ⟨m', 0, none⟩ = some (.int .i64 M')) :
    Calls Tryd.prog 31 #[.pointer (some ⟨m, 0, none⟩), .pointer (some ⟨m', 0, none⟩)] w fun e w' => e = .returned (.slice none 0 0) ∧ Below w.heap.size w w' := by
  have eb : (M != M') = true := by simpa using hM
  clear hM
  go_enter Tryd.func31, Tryd.ntmps31
  go_wp2
  go_quiet (fail)
  go_wp2
  go_ret
  exact ⟨rfl, drewN_below _ _⟩

end Go.Proofs.YtlpjbmlkpmhdlaaDoor
/- (*Mem).Copy. -/
namespace Go.Proofs.YtlpjbmlkpmhdlaaDoor
set_option linter.unusedVariables false
set_option linter.unusedSimpArgs false
open Go.ChangeShapes Go.WideShapes Go.ChangeAt Go.RowKit Go.Joins

theorem wpList_store_last {P : Program} {ops : Array Oper} {rest : List Oper} {o : Oper} {a : Act} {w : World} {Q : Exit → Act → World → Prop} (hgd : o.guard = none) (ty : TypeId) (x y : Operand) (ho : o.op = .store ty x y)
    (hx : a.eval x = .pointer (some ⟨w.heap.size, 0, none⟩)) (c c' : Array Value) (hy : a.eval y = .agg c') (hi : (P.info? ty).map (·.size) = some c'.size) (hc : c.size = c'.size) (h1 : c'.all (·.oneCell') = true)
    (h : wpList P ops Q rest (a.put o.dst undef) (w.alloc (.cells c' ty))) : wpList P ops Q (o :: rest) a (w.alloc (.cells c ty)) := by
  refine wpList_plain hgd fun K hK => ?_
  have hr := run_storeAt_new (P := P) w ty c c' hi hc h1
  unfold Oper.wp execOp
  simp only [ho, hx, hy, Sem.run_bind, hr, Result.andThen_ok, Sem.run_pure]
  exact hK _ _ h

section
variable {w w' : World} {m : Nat} {M : Int} {f f' : Int → Int} {tr : List Int} {n mb : Nat} {v : Value} {D : Dw}

/-- a page is laid, with its words -/
theorem Mm.laid (h : Mm w m M f tr n mb v D) {k : Int} (hk : pageOf D k = .nil) (k0 : 0 ≤ k) (k1 : k * 4096 < 2 ^ M.toNat) {cs : Array Value} (hs : cs.size = 512) (hcs : ∀ i : Nat, i < 512 → cs[i]? = some (.int .u64 (f' (k * 512 + i)))) (hf : ∀ s, s / 512 ≠ k → f' s = f s) (hw : ∀ s, W64 (f' s))
    (hmap : w'.ownsMap Tryd.prog 23 ptrElem mb (n + 1) (D.put (.int .u64 k) (.lit (.int .u64 w.heap.size)))) (hg : (w.alloc (.cells cs 113)).grownBy w' (some mb)) :
    Mm w' m M f' tr (n + 1) mb v (D.put (.int .u64 k) (.lit (.int .u64 w.heap.size))) := by
  have hD := h.pages.isMap
  obtain ⟨a1, a2, a3⟩ := h.apart
  have keep : ∀ i, i < w.heap.size → i ≠ mb → w'.heap[i]? = w.heap[i]? := fun i hi hne =>
    (hg.block i (by simp; omega) (by simpa using hne)).trans (Below.heap_alloc _ _ _ hi)
  have hnew : w'.rowIs w.heap.size 113 512 (fun i => .int .u64 (f' (k * 512 + i))) := by
    have r0 : (w.alloc (.cells cs 113)).rowIs w.heap.size 113 512 (fun i => .int .u64 (f' (k * 512 + i))) := ⟨_, Deep.blk_alloc_new _ _, hs, hcs⟩
    have hne : w.heap.size ≠ mb := by have := h.pages.lt; omega
    exact r0.of_block (hg.block _ (by simp) (by simpa using hne))
  refine ⟨h.bits, (keep m (h.own_lt (Or.inl rfl)) a1).trans h.here, hmap, ?_, ?_, ?_, ?_, Nat.le_succ_of_le h.few, hw⟩
  · intro k'
    by_cases e : k' = k
    · subst e
      exact Or.inr ⟨w.heap.size, pageOf_same hD _ _, hnew⟩
    · rw [pageOf_other e]
      have hff : ∀ i : Nat, i < 512 → f' (k' * 512 + i) = f (k' * 512 + i) := fun i hi => hf _ (by omega)
      rcases h.page k' with ⟨hn, hz⟩ | ⟨b, hb, hr⟩
      · exact Or.inl ⟨hn, fun i hi => by rw [hff i hi, hz i hi]⟩
      · exact Or.inr ⟨b, hb, (hr.of_block (keep b hr.lt (h.page_apart hb).2.1)).congr fun i hi => by rw [hff i hi]⟩
  · intro k1 k2 b h1 h2
    have old : ∀ k', pageOf D k' = .lit (.int .u64 b) → b < w.heap.size := fun k' hk' => h.own_lt (Or.inr (Or.inr (Or.inr ⟨k', hk'⟩)))
    by_cases e1 : k1 = k
    · by_cases e2 : k2 = k
      · rw [e1, e2]
      · rw [e1, pageOf_same hD] at h1
        rw [pageOf_other e2] at h2
        have := old _ h2
        simp at h1
        have e : w.heap.size = b := by omega
        omega
    · rw [pageOf_other e1] at h1
      by_cases e2 : k2 = k
      · rw [e2, pageOf_same hD] at h2
        have := old _ h1
        simp at h2
        have e : w.heap.size = b := by omega
        omega
      · rw [pageOf_other e2] at h2
        exact h.inj _ _ _ h1 h2
  · intro kl hkl
    by_cases e : kl = .int .u64 k
    · subst e
      exact ⟨k, w.heap.size, rfl, pageOf_same hD _ _, k0, k1⟩
    · rw [Maps.has_put_other e] at hkl
      obtain ⟨k', b, rfl, hb, r⟩ := h.full kl hkl
      exact ⟨k', b, rfl, by rw [pageOf_other (by simpa using e)]; exact hb, r⟩
  · exact (h.trace.alloc _).kept hg (Or.inr a3)
end

/-- how far a copy has come -/
structure Copied (w wr : World) (D Dk : Dw) (f fk : Int → Int) (left : Lit → Bool) (c : Nat) (M : Int) (nk mbc : Nat) (vc : Value) : Prop where
  mm : Mm wr c M fk [] nk mbc vc Dk
  own : ∀ i, Own c mbc vc Dk i → w.heap.size ≤ i
  yes : ∀ x, left (.int .u64 x) = false → ∀ s, s / 512 = x → fk s = f s
  no : ∀ x, left (.int .u64 x) = true → pageOf Dk x = .nil ∧ ∀ s, s / 512 = x → fk s = 0

theorem Copied.step {w wr w2 w3 : World} {D Dk : Dw} {f fk : Int → Int} {left : Lit → Bool} {c : Nat} {M : Int} {nk mbc : Nat} {vc : Value} (h : Copied w wr D Dk f fk left c M nk mbc vc) {x : Int} (hx : left (.int .u64 x) = true) (k0 : 0 ≤ x) (k1 : x * 4096 < 2 ^ M.toNat)
    (h2 : Mm w2 c M fk [] nk mbc vc Dk) (hs2 : w.heap.size ≤ w2.heap.size) {cs : Array Value} (hs : cs.size = 512) (hcs : ∀ i : Nat, i < 512 → cs[i]? = some (.int .u64 (f (x * 512 + i)))) (hw : ∀ s, W64 (f s))
    (hmap : w3.ownsMap Tryd.prog 23 ptrElem mbc (nk + 1) (Dk.put (.int .u64 x) (.lit (.int .u64 w2.heap.size)))) (hg : (w2.alloc (.cells cs 113)).grownBy w3 (some mbc)) :
    Copied w w3 D (Dk.put (.int .u64 x) (.lit (.int .u64 w2.heap.size))) f (fun s => if s / 512 = x then f s else fk s) (fun z => left z && !z.sameKey (.int .u64 x)) c M (nk + 1) mbc vc := by
  obtain ⟨n1, n2⟩ := h.no x hx
  refine ⟨h2.laid n1 k0 k1 hs (fun i hi => ?_) (fun s hs => if_neg hs) (fun s => ?_) hmap hg, fun i hi => ?_, fun y hy s hsy => ?_, fun y hy => ?_⟩
  · rw [if_pos (by omega)]; exact hcs i hi
  · show W64 (if s / 512 = x then f s else fk s)
    split
    · exact hw s
    · exact h.mm.words s
  · rcases own_put_page h2.pages.isMap hi with hi | rfl
    · exact h.own i hi
    · exact hs2
  · show (if s / 512 = x then f s else fk s) = f s
    by_cases e : s / 512 = x
    · rw [if_pos e]
    · rw [if_neg e]
      refine h.yes y ?_ s hsy
      have hne : y ≠ x := fun h => e (hsy.trans h)
      simpa [Lit.sameKey, hne] using hy
  · have hne : y ≠ x := by
      rintro rfl
      simp [Lit.sameKey] at hy
    have hy' : left (.int .u64 y) = true := by simpa [Lit.sameKey, hne] using hy
    obtain ⟨q1, q2⟩ := h.no y hy'
    refine ⟨by rw [pageOf_other hne]; exact q1, fun s hs => ?_⟩
    show (if s / 512 = x then f s else fk s) = 0
    rw [if_neg (by omega)]
    exact q2 s hs

end Go.Proofs.YtlpjbmlkpmhdlaaDoor
/- (*Mem).Copy: its walk. -/
namespace Go.Proofs.YtlpjbmlkpmhdlaaDoor
set_option linter.unusedVariables false
set_option linter.unusedSimpArgs false
open Go.ChangeShapes Go.WideShapes Go.ChangeAt Go.RowKit Go.Joins

section
variable {w w' : World} {m : Nat} {M : Int} {f : Int → Int} {tr : List Int} {n mb : Nat} {v : Value} {D : Dw}

theorem Mm.not_iter (h : Mm w m M f tr n mb v D) {i : Nat} (hi : Own m mb v D i) {a : Option Nat} {s : Nat} {q : Array Nat} {c : Nat} : w.heap[i]? ≠ some (.mapIter a s q c) := by
  intro e
  rcases hi with rfl | rfl | hv | ⟨k, hk⟩
  · rw [h.here] at e; cases e
  · obtain ⟨es, clock, hb, _⟩ := h.pages
    rw [hb] at e; cases e
  · rcases h.trace.2 with ⟨hn, _⟩ | ⟨g, cap, cur, hg, _, hb, _⟩
    · rw [hn] at hv; simp [Value.ownBlock] at hv
    · rw [hg] at hv
      obtain rfl : g = i := by simpa [Value.ownBlock] using hv
      rw [hb] at e; cases e
  · rcases h.page k with ⟨hn, _⟩ | ⟨b, hb, hr⟩
    · rw [hn] at hk; cases hk
    · rw [hb] at hk
      simp at hk
      have e2 : b = i := by omega
      subst e2
      obtain ⟨c', hc, _⟩ := hr
      rw [hc] at e; cases e

theorem copied_next {left : Lit → Bool} {c : Nat} {nk mbc : Nat} {vc : Value} {Dk : Dw} {fk : Int → Int} {wr w2 : World} {b r cnt : Nat} (h : Copied w wr D Dk f fk left c M nk mbc vc) (hr : wr.ranges Tryd.prog 23 ptrElem b r n D left cnt) (hg : wr.grownBy w2 (some r)) : Mm w2 c M fk [] nk mbc vc Dk := by
  refine h.mm.same fun i hi => hg.block i (h.mm.own_lt hi) fun e => ?_
  obtain ⟨es, clock, since, seen, c0, _, _, _, _, hit, _⟩ := hr
  have e' : i = r := by simpa using e
  subst e'
  exact h.mm.not_iter hi hit

theorem empty_map (h : Mm w m M f tr 0 mb v D) (k : Int) : pageOf D k = .nil := by
  have hs := h.pages.size_le
  obtain ⟨es, rfl⟩ := h.pages.isMap
  have : es = [] := List.length_eq_zero_iff.1 (by simpa [Maps.size] using hs)
  subst this
  rfl

theorem copied_start {w1 : World} {c mbc : Nat} {vc : Value} {D0 : Dw} (h : Mm w m M f tr n mb v D) (h1 : Mm w1 c M (fun _ => 0) [] 0 mbc vc D0) (hF : ∀ i, Own c mbc vc D0 i → w.heap.size ≤ i) : Copied w w1 D D0 f (fun _ => 0) (Maps.has D) c M 0 mbc vc :=
  ⟨h1, hF, fun x hx s hs => (h.zero_of (by rw [hs, hx]; simp)).symm, fun x _ => ⟨empty_map h1 x, fun _ _ => rfl⟩⟩

theorem copied_same {left : Lit → Bool} {c : Nat} {nk mbc : Nat} {vc : Value} {Dk : Dw} {fk : Int → Int} {wr w2 : World} (h : Copied w wr D Dk f fk left c M nk mbc vc) (h2 : Mm w2 c M fk [] nk mbc vc Dk) : Copied w w2 D Dk f fk left c M nk mbc vc := ⟨h2, h.own, h.yes, h.no⟩

theorem copied_done {left : Lit → Bool} {c : Nat} {nk mbc : Nat} {vc : Value} {Dk : Dw} {fk : Int → Int} {wr : World} (h : Copied w wr D Dk f fk left c M nk mbc vc) (hl : ∀ kl, left kl = false) (hn : nk ≤ n) : Mem wr (From w.heap.size) c M f [] n := by
  have e : fk = f := funext fun s => h.yes _ (hl _) s rfl
  subst e
  exact ⟨mbc, vc, Dk, h.mm.more hn, h.own⟩
end

set_option maxRecDepth 100000 in
set_option maxHeartbeats 8000000 in
theorem copy_any {w : World} {m : Nat} {M : Int} {f : Int → Int} {tr : List Int} {n mb : Nat} {v : Value} {D : Dw} (h : Mm w m M f tr n mb v D) (hn : n ≤ 100000) :
    Calls Tryd.prog 30 #[.pointer (some ⟨m, 0, none⟩)] w fun e w' => e = .returned (.pointer (some ⟨w.heap.size + 1, 0, none⟩)) ∧ Mem w' (From w.heap.size) (w.heap.size + 1) M f [] n ∧ Below w.heap.size w w' := by
  obtain ⟨c0, c1, c2, _⟩ := h.cells
  have HH := Lib.hid h
  have hsz := h.pages.size_le
  have hm := h.own_lt (i := m) (Or.inl rfl)
  have hmb := h.pages.lt
  clear h c2
  go_enter Tryd.func30, Tryd.ntmps30
  go_wp2_with (first
    | (go_at_call 32; refine (newMem_any M _ HH.out.bits).mono ?_; rintro e w1 ⟨rfl, hM1, hB1⟩; have HB1 := Lib.hid hB1; have d1 := (hB1.cell (p := ⟨m, 1, none⟩) hm).trans c1; have HM1 := Lib.hid hM1; clear hB1 hM1)
    | (at_range; refine wpList_range_own _ rfl _ 108 rfl 23 111 law64 Tryd.underlying108 ptrElem mb n D rfl (HH.out.belowM HB1.out).pages ?_; intro w0 hrg0 hg0 hs0))
  go_frame
  obtain ⟨mbc, vc, D0, hmm, hF⟩ := HM1.out
  obtain ⟨c, hc⟩ : ∃ c, w.heap.size + 1 = c := ⟨_, rfl⟩
  obtain ⟨r, hr⟩ : ∃ r, w1.heap.size = r := ⟨_, rfl⟩
  have hmbc : mbc < r := by rw [← hr]; exact hmm.pages.lt
  have hmbc0 : w.heap.size ≤ mbc := hF mbc (Or.inr (Or.inl rfl))
  have hwr : w.heap.size ≤ r := by rw [← hr]; exact HB1.out.size
  rw [hc] at hmm hF
  rw [hr] at hrg0
  rw [hc, hr]
  have HC0 := Lib.hid (copied_start HH.out hmm hF)
  have HB0 : Hid (Below w.heap.size w w0) := Lib.hid (HB1.out.grown hg0 HB1.out.size (fun k e => by cases e))
  have HC1 := Lib.hid (copied_same HC0.out (hmm.same fun i hi => hg0.block i (hmm.own_lt hi) (by simp)))
  clear hmm hF HC0 hg0 hs0 HM1 hr c0 c1 d1
  go_loopw [4] (fun _ wr => ∃ (left : Lit → Bool) (cnt nk : Nat) (Dk : Dw) (fk : Int → Int), wr.ranges Tryd.prog 23 ptrElem mb r n D left cnt ∧ nk + cnt ≤ Maps.size D ∧ Hid (Copied w wr D Dk f fk left c M nk mbc vc) ∧ Hid (Below w.heap.size w wr)) (fun _ wr => wr.rangeLeft mb r)
  case atStart => exact ⟨_, _, 0, D0, _, hrg0, by omega, HC1, HB0⟩
  case round =>
    obtain ⟨left, cnt, nk, Dk, fk, hrg, hcs, HC, HB⟩ := hrel
    clear HC1 HB0 hrg0
    go_wp2_with (at_next; refine wpList_next_ranges _ rfl _ rfl 23 law64 ptrElem (Value.int .u64) Value.pointer (fun key kl hk => by obtain ⟨x, hx, _⟩ := Maps.keyOf_int_inv Tryd.underlying23 hk; exact ⟨x, hx⟩) (fun v y hv => by unfold ptrElem at hv; split at hv; exact ⟨_, rfl⟩; exact ⟨_, rfl⟩; cases hv) mb r n _ _ _ rfl hrg ?_ ?_)
    · intro hc0 hl0
      have HE := Lib.hid (copied_done HC.out hl0 (n := n) (by omega))
      clear hl0 hrg
      go_wp2
      go_ret
      refine ⟨?_, ?_, HB.out⟩
      · rw [hc]; rfl
      · rw [hc]; exact HE.out
    · intro x c9 kl yd yp w2 cnt2 hkey hlk hv hat hrg2 hlt hg2 hs2 hen
      obtain ⟨x', ex, rfl, _⟩ := Maps.keyOf_int_inv Tryd.underlying23 hkey
      obtain rfl : x = x' := by simpa using ex
      obtain ⟨k', b, ek, hpb, k0, k1⟩ := HH.out.full _ (Maps.has_true_of_atKey hat)
      obtain rfl : x = k' := by simpa using ek
      have hyd : yd = .lit (.int .u64 b) := by rw [← hat .nil]; exact hpb
      have hc9 : Value.pointer c9 = .pointer (some ⟨b, 0, none⟩) := ptrElem_at (ps := yp) (by rw [← hyd]; exact hv)
      obtain rfl : c9 = some ⟨b, 0, none⟩ := by simpa using hc9
      have hB2 : Below w.heap.size w w2 := HB.out.grown hg2 HB.out.size (fun k e => by cases e; exact hwr)
      obtain ⟨cs, s1, g1, y1, _⟩ := row_load (mrow_below (HH.out.page_row hpb) hB2)
      have HM2 := Lib.hid (copied_next HC.out hrg hg2)
      have HK := Lib.hid hkey
      have HL := Lib.hid hlk
      have HB2 := Lib.hid hB2
      have HG1 := Lib.hid g1
      have HR2 := Lib.hid hrg2
      have hsz1 : (Tryd.prog.info? 113).map (·.size) = some cs.size := by rw [s1]; exact pageInfo
      have hz1 : Tryd.zeroCells113.size = cs.size := by rw [zeros_eq, s1]; simp
      have ho1 : cs.all (·.oneCell') = true := by
        rw [Array.all_eq_true]
        intro i hi
        have := g1 i (by omega)
        rw [Array.getElem?_eq_getElem hi] at this
        rw [Option.some.inj this]
        rfl
      have HSZ := Lib.hid (And.intro hsz1 (And.intro hz1 ho1))
      have q0 : w2.cell? ⟨c, 1, none⟩ = some (.map (some mbc)) := HM2.out.cells.2.1
      have q1 : (w2.alloc (.cells cs 113)).cell? ⟨c, 1, none⟩ = some (.map (some mbc)) := (((Below.refl _ w2).alloc (Nat.le_refl _) _).cell (p := ⟨c, 1, none⟩) (cell_lt q0)).trans q0
      have hlt2 : cnt2 < cnt := hlt
      have HLT := Lib.hid (And.intro hlt hs2)
      have HRG := Lib.hid hrg
      clear hkey hlk hat hrg2 hv hyd hc9 hpb ek ex hB2 g1 hsz1 hz1 ho1 hs2 hg2 s1 hrg
      go_wp2_with (first
        | (refine wpList_load_row rfl 113 _ rfl b rfl 113 cs (0, 0) _ y1 Tryd.underlying113 rfl HSZ.out.1 ?_)
        | (refine wpList_store_last rfl 113 _ _ rfl rfl _ cs rfl HSZ.out.1 HSZ.out.2.1 HSZ.out.2.2 ?_)
        | (at_mapUpdate; refine wpList_mapUpdate_own _ rfl _ _ _ 108 rfl 23 111 law64 Tryd.underlying108 ptrElem mbc nk Dk rfl (World.ownsMap.alloc HM2.out.pages _) (by unfold maxLen; omega) _ _ _ rfl rfl HK.out _ [] (ptrElem_mk _) ?_; intro w3 hown3 hgrow3))
      have hs2 : w.heap.size ≤ w2.heap.size := HB2.out.size
      have HC3 := Lib.hid (HC.out.step HL.out k0 k1 HM2.out hs2 (by have := HSZ.out.1; rw [pageInfo] at this; exact (Option.some.inj this).symm) HG1.out HH.out.words hown3 hgrow3)
      have HR3 := Lib.hid ((HR2.out.alloc (.cells cs 113)).kept hgrow3 (by simp; omega) (by simp; omega))
      have HB3 := Lib.hid ((HB2.out.alloc hs2 (.cells cs 113)).grown hgrow3 (by simp; omega) (fun k e => by cases e; exact hmbc0))
      clear hown3 hgrow3 hen y1 q0 q1
      go_frame
      go_roundw
      case rel => exact ⟨_, cnt2, nk + 1, _, _, HR3.out, by omega, HC3, HB3⟩
      case measure => rw [HR3.out.left_eq, HRG.out.left_eq]; exact hlt2

end Go.Proofs.YtlpjbmlkpmhdlaaDoor
