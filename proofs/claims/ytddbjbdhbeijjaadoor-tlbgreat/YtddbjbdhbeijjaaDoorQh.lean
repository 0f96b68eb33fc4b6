/- The document's translations: DropPage for any, Look. (Laid by tools/gen_qg.py.) -/
import Derived.Test.YtddbjbdhbeijjaaDoorQg
import Derived.Deep.CutRange
namespace Go.Proofs.YtddbjbdhbeijjaaDoor
set_option linter.unusedVariables false
set_option linter.unusedSimpArgs false
open Go.ChangeShapes Go.WideShapes Go.ChangeAt Go.RowKit Go.Joins

def fromT (L : List Pr) (p a : Int) : Nat → Option Ht
  | 0 => lookT L p a
  | 1 => match greatT L p a 2 with | some h => some h | none => greatT L p a 3
  | 2 => greatT L p a 3
  | _ => none
theorem from_run {L : List Pr} {p a : Int} (h : runT L p a = none) : fromT L p a 0 = fromT L p a 1 := by show lookT L p a = _; unfold lookT; rw [h]; rfl
theorem from_run_yes {L : List Pr} {p a : Int} {x : Ht} (h : runT L p a = some x) : fromT L p a 0 = some x := by show lookT L p a = _; unfold lookT; rw [h]
theorem from_two {L : List Pr} {p a : Int} (h : greatT L p a 2 = none) : fromT L p a 1 = fromT L p a 2 := by show (match greatT L p a 2 with | some h => some h | none => greatT L p a 3) = _; rw [h]; rfl
theorem from_two_yes {L : List Pr} {p a : Int} {x : Ht} (h : greatT L p a 2 = some x) : fromT L p a 1 = some x := by show (match greatT L p a 2 with | some h => some h | none => greatT L p a 3) = _; rw [h]
theorem has_zL (i : Int) : hasG zL i = false := by
  cases h : hasG zL i with
  | false => rfl
  | true => unfold hasG hasM at h; simp [zL, tb] at h

theorem rdropT_any {w : World} {M : List Pr} (p a : Int) (v : Value) (R : Nat) (h : PairsOwn w 0 v M) (hl : M.length ≤ 900) (hn : (keysK M).Nodup) (hok : OkLs M) (hp : I64 p) (ha : W64 a) :
    Calls Tryd.prog 33 #[.agg #[v, .int .i64 R], .int .i64 p, .int .u64 a] w fun e w' => ∃ A n c, e = .returned (.agg #[.slice A n c, .int .i64 R]) ∧ PairsNew w w' v (.slice A n c) (dropT R M p a) ∧ Below w.heap.size w w' := by
  have hd := drop_doc (R := R) hn p a
  have ho : OkLs (dropK (dropK M (kyT p a 2)) (kyT p a 3)) := ok_drop (ok_drop hok _) _
  rw [← hd]
  cases hg : getK (dropK (dropK M (kyT p a 2)) (kyT p a 3)) (kyT p a 1) with
  | none =>
    rw [show splitT R (dropK (dropK M (kyT p a 2)) (kyT p a 3)) p a = dropK (dropK M (kyT p a 2)) (kyT p a 3) by unfold splitT; rw [hg]]
    exact rdropT_no p a v R h hl hp ha hg
  | some l =>
    have hol := ok_some ho hg
    obtain ⟨l0, l1, l2, l3, l4, l5⟩ := l
    obtain ⟨⟨m0, m1, m2, m3, m4, m5⟩, hm⟩ : ∃ m, wthG (l0, l1, l2, l3, l4, l5) (plT a) = m := ⟨_, rfl⟩
    have hmz : (wthG (l0, l1, l2, l3, l4, l5) (plT a)).2.2.2.2.2 = m5 := by rw [hm]
    by_cases hz : m5 = 0
    · rw [show splitT R (dropK (dropK M (kyT p a 2)) (kyT p a 3)) p a = dropK (dropK (dropK M (kyT p a 2)) (kyT p a 3)) (kyT p a 1) by unfold splitT; rw [hg]; exact if_pos (hmz.trans hz)]
      exact rdropT_zero p a v R h hl hp ha l0 l5 l1 l2 l3 l4 hg hol m0 m5 m1 m2 m3 m4 hm (by simp [hz])
    · rw [show splitT R (dropK (dropK M (kyT p a 2)) (kyT p a 3)) p a = putK R (dropK (dropK M (kyT p a 2)) (kyT p a 3)) (kyT p a 1) (m0, m1, m2, m3, m4, m5) 0 by unfold splitT; rw [hg, ← hm]; exact if_neg fun e => hz (hmz.symm.trans e)]
      exact rdropT_put p a v R h hl hp ha l0 l5 l1 l2 l3 l4 hg hol m0 m5 m1 m2 m3 m4 hm (by simp [hz])

set_option maxRecDepth 100000 in
set_option maxHeartbeats 3200000 in
theorem rlookT_any {w : World} {M : List Pr} (p a : Int) (v : Value) (S : Int) (h : PairsOwn w 0 v M) (hl : M.length ≤ 900) (hok : OkLs M) (ha : W64 a) :
    Calls Tryd.prog 14 #[.agg #[v, .int .i64 S], .int .i64 p, .int .u64 a] w fun e w' => e = .returned (ansT (lookT M p a)) ∧ Below w.heap.size w w' := by
  obtain ⟨A, n, c, rfl⟩ := h.slice
  have HK1 := Lib.hid fun w1 => rkeyT_any p a 1 w1 ha (by decide) (by decide)
  have HK2 := Lib.hid fun w1 => rkeyT_any p a 2 w1 ha (by decide) (by decide)
  have HK3 := Lib.hid fun w1 => rkeyT_any p a 3 w1 ha (by decide) (by decide)
  have HPL := Lib.hid fun w1 => rplaceT_any a w1 ha
  have HL := Lib.hid hl
  have HO0 : Hid (fromT M p a 0 = lookT M p a) := Lib.hid rfl
  obtain ⟨o, ho⟩ : ∃ o, lookT M p a = o := ⟨_, rfl⟩
  rw [ho] at HO0 ⊢
  have HR := Lib.hid (fun h => from_run (L := M) (p := p) (a := a) h)
  have HRY := Lib.hid (fun x h => from_run_yes (L := M) (p := p) (a := a) (x := x) h)
  have H2 := Lib.hid (fun h => from_two (L := M) (p := p) (a := a) h)
  have H2Y := Lib.hid (fun x h => from_two_yes (L := M) (p := p) (a := a) (x := x) h)
  have HRN := Lib.hid (fun l h => runT_no (L := M) (p := p) (a := a) (l := l) h)
  have HRS := Lib.hid (fun l h => runT_yes (L := M) (p := p) (a := a) (l := l) h)
  have HGN2 := Lib.hid (fun h => greatT_no (L := M) (p := p) (a := a) (lv := 2) h)
  have HGN3 := Lib.hid (fun h => greatT_no (L := M) (p := p) (a := a) (lv := 3) h)
  have HGS2 := Lib.hid (fun l h => greatT_yes (L := M) (p := p) (a := a) (lv := 2) (l := l) h)
  have HGS3 := Lib.hid (fun l h => greatT_yes (L := M) (p := p) (a := a) (lv := 3) (l := l) h)
  have HOK := Lib.hid (ok_get hok (kyT p a 1))
  have H0 := Lib.hid (((Dv.start h).new (b := w.heap.size) rfl #[.slice A n c, .int .i64 S] 28).new (b := w.heap.size + 1) (by simp) #[.int .u64 0, .int .i64 0, .bool false, .bool false, .bool false, .bool false] 44)
  unfold kyT at HK1 HK2 HK3 HRN HRS HGN2 HGN3 HGS2 HGS3 HOK
  clear h hl ha hok ho
  generalize tagT a 1 = t1 at *
  generalize tagT a 2 = t2 at *
  generalize tagT a 3 = t3 at *
  generalize plT a = i at *
  go_enter Tryd.func14, Tryd.ntmps14
  go_upto_region 1 with fail
  generalize hw0 : (w.alloc _).alloc _ = w1 at *
  obtain ⟨bc, hb⟩ : ∃ b, w.heap.size = b := ⟨_, rfl⟩
  rw [hb] at H0 ⊢
  have HBC := Lib.hid hb
  clear hb hw0
  go_wp2
  go_loopw [8] (fun lv wr => ∃ k : Nat, k ≤ 3 ∧ lv = .int .i64 ((k : Int) + 1) ∧ Hid (fromT M p a k = o) ∧ Hid (Dv w wr (.slice A n c) (.slice A n c) M [⟨bc + 1, #[.int .u64 0, .int .i64 0, .bool false, .bool false, .bool false, .bool false], 44⟩, ⟨bc, #[.slice A n c, .int .i64 S], 28⟩])) (fun lv _ => (4 - intOf lv).toNat)
  case atStart => exact ⟨0, by omega, rfl, HO0, H0⟩
  case round =>
    obtain ⟨k, hk, rfl, HO, H1⟩ := hrel
    clear H0 HO0
    generalize wr = w1 at *
    have hk4 : k = 0 ∨ k = 1 ∨ k = 2 ∨ k = 3 := by omega
    rcases hk4 with rfl | rfl | rfl | rfl
    · obtain ⟨is, his⟩ : ∃ is, (getK M (p, 1, t1)).isSome = is := ⟨_, rfl⟩
      obtain ⟨l, hl⟩ : ∃ l, (getK M (p, 1, t1)).getD zL = l := ⟨_, rfl⟩
      rw [hl] at HOK
      obtain ⟨b, hbb⟩ : ∃ b, hasG l i = b := ⟨_, rfl⟩
      obtain ⟨f, hf⟩ : ∃ f, atG l i = f := ⟨_, rfl⟩
      have HHAS := Lib.hid fun w1 => rhas_any l i w1 HOK.out
      rw [hbb, hf] at HHAS
      have hyes : b = true → is = true := fun e => by
        cases is with
        | true => rfl
        | false =>
          have hx : getK M (p, 1, t1) = none := by simpa using his
          rw [hx] at hl
          rw [← hl, e] at hbb
          exact absurd ((has_zL i).symm.trans hbb) (by decide)
      obtain ⟨l0, l1, l2, l3, l4, l5⟩ := l
      have HGET : Hid (∀ w1, PairsOwn w1 0 (.slice A n c) M → _) := Lib.hid fun w1 (h : PairsOwn w1 0 (.slice A n c) M) => rgetC_any w1 (.slice A n c) M S p 1 t1 l0 l5 l1 l2 l3 l4 h (Nat.le_trans HL.out (by decide)) hl is his
      cases b with
      | true =>
        obtain rfl := hyes rfl
        have HE : Hid (ansT o = .tuple #[.agg #[.int .u64 f, .int .i64 1, .bool l1, .bool l2, .bool l3, .bool l4], .bool true]) := Lib.hid (by rw [← HO.out, HRY.out _ (HRS.out _ hl hbb), hf]; rfl)
        clear hyes hbb hf hl his HOK HO
        go_upto_region 4 with fail
        go_cut [9, 10] from 14 to 51 (fun s9 s10 w9 => ∃ lb : Nat, s9 = .pointer (some ⟨lb, 0, none⟩) ∧ s10 = .bool true ∧ Hid (Dv w w9 (.slice A n c) (.slice A n c) M [⟨lb, #[.int .u64 l0, .bool l1, .bool l2, .bool l3, .bool l4, .int .u8 l5], 71⟩, ⟨bc + 1, #[.int .u64 0, .int .i64 0, .bool false, .bool false, .bool false, .bool false], 44⟩, ⟨bc, #[.slice A n c, .int .i64 S], 28⟩]))
        case first =>
          have H2 := Lib.hid (H1.out.quiet (Kept.drew0 w1))
          clear H1
          refine wp_region_held_drew (S := fun w' => Blk w' bc #[.slice A n c, .int .i64 S] 28) (by kernel_rfl) (H2.out.at_ 1 rfl) (fun hHeld => ?_)
          generalize w1.drew = w2 at *
          refine tk (v := ?_) 0 ?_ ?_
          rotate_left
          · intro w hSw
            obtain ⟨a0, a1⟩ := hSw.c2
            go_simp
            (try with_reducible rfl)
          (try simp only [Act.put, List.setIfInBounds_toArray, List.set_cons_zero, List.set_cons_succ])
          refine tk (v := ?_) 1 ?_ ?_
          rotate_left
          · intro w hSw
            go_simp
            (try with_reducible rfl)
          (try simp only [Act.put, List.setIfInBounds_toArray, List.set_cons_zero, List.set_cons_succ])
          refine tk (v := ?_) 2 ?_ ?_
          rotate_left
          · intro w hSw
            go_simp
            (try with_reducible rfl)
          (try simp only [Act.put, List.setIfInBounds_toArray, List.set_cons_zero, List.set_cons_succ])
          refine tk (v := ?_) 3 ?_ ?_
          rotate_left
          · intro w hSw
            go_simp
            (try with_reducible rfl)
          (try simp only [Act.put, List.setIfInBounds_toArray, List.set_cons_zero, List.set_cons_succ])
          refine wpAnyH_ready (rs := [4, 9]) (by kernel_rfl) (by simp) ?_
          refine anyH_one rfl (fun K hK => ?_) ?_
          · go_simp
            refine (HK1.out _).mono ?_
            rintro e w3 ⟨rfl, hb⟩
            have H3 := Lib.hid (H2.out.quiet hb)
            clear hb H2
            refine hK.out _ _ ((H3.out.at_ 1 rfl)) (fun hHeld => ?_)
            clear hK K
            (try simp only [Act.put, List.setIfInBounds_toArray, List.set_cons_zero, List.set_cons_succ])
            refine wpAnyH_ready (rs := [5, 9]) (by kernel_rfl) (by simp) ?_
            refine anyH_one rfl (fun K hK => ?_) ?_
            · go_simp
              refine (HGET.out _ H3.out.own).mono ?_
              rintro e w4 ⟨rfl, hb⟩
              have H4 := Lib.hid (H3.out.quiet hb)
              clear hb H3
              refine hK.out _ _ ((H4.out.at_ 1 rfl)) (fun hHeld => ?_)
              clear hK K
              (try simp only [Act.put, List.setIfInBounds_toArray, List.set_cons_zero, List.set_cons_succ])
              refine tk (v := ?_) 6 ?_ ?_
              rotate_left
              · intro w hSw
                go_simp
                (try with_reducible rfl)
              (try simp only [Act.put, List.setIfInBounds_toArray, List.set_cons_zero, List.set_cons_succ])
              refine tk (v := ?_) 7 ?_ ?_
              rotate_left
              · intro w hSw
                go_simp
                (try with_reducible rfl)
              (try simp only [Act.put, List.setIfInBounds_toArray, List.set_cons_zero, List.set_cons_succ])
              refine tk (v := ?_) 8 ?_ ?_
              rotate_left
              · intro w hSw
                go_simp
                (try with_reducible rfl)
              (try simp only [Act.put, List.setIfInBounds_toArray, List.set_cons_zero, List.set_cons_succ])
              refine wpAnyH_ready (rs := [9]) (by kernel_rfl) (by simp) ?_
              refine anyH_one rfl (fun K hK => ?_) ?_
              · go_simp
                generalize hq9 : w4.alloc _ = w5
                have H5 := Lib.hid ((H4.out.new (b := w4.heap.size) rfl #[.int .u64 0, .bool false, .bool false, .bool false, .bool false, .int .u8 0] 71).world hq9)
                clear hq9 H4
                generalize w4.heap.size = lb at H5 ⊢
                refine hK.out _ _ ((H5.out.at_ 2 rfl)) (fun hHeld => ?_)
                clear hK K
                (try simp only [Act.put, List.setIfInBounds_toArray, List.set_cons_zero, List.set_cons_succ])
                refine wpAnyH_ready (rs := [10]) (by kernel_rfl) (by simp) ?_
                refine anyH_one rfl (fun K hK => ?_) ?_
                · obtain ⟨r0, r1, r2, r3, r4, r5⟩ := (H5.out.at_ 0 rfl).c6
                  have g0 := (H5.out.at_ 0 rfl).fz 0; have g1 := (H5.out.at_ 0 rfl).fz 1; have g2 := (H5.out.at_ 0 rfl).fz 2; have g3 := (H5.out.at_ 0 rfl).fz 3; have g4 := (H5.out.at_ 0 rfl).fz 4; have g5 := (H5.out.at_ 0 rfl).fz 5
                  go_simp
                  generalize hq9 : (((((w5.setCell _ _).setCell _ _).setCell _ _).setCell _ _).setCell _ _).setCell _ _ = w6
                  have H6 := Lib.hid ((H5.out.put 0 rfl (turnB6 _ _ _ _ _ _ _ _) (setB6 (H5.out.at_ 0 rfl) _ _ _ _ _ _)).world hq9)
                  clear hq9 H5 r0 g0 r1 g1 r2 g2 r3 g3 r4 g4 r5 g5
                  refine hK.out _ _ ((H6.out.at_ 2 rfl)) (fun hHeld => ?_)
                  clear hK K
                  (try simp only [Act.put, List.setIfInBounds_toArray, List.set_cons_zero, List.set_cons_succ])
                  refine tk (v := ?_) 11 ?_ ?_
                  rotate_left
                  · intro w hSw
                    go_simp
                    (try with_reducible rfl)
                  (try simp only [Act.put, List.setIfInBounds_toArray, List.set_cons_zero, List.set_cons_succ])
                  refine wpAnyH_done (by kernel_rfl) ?_ _
                  clear hHeld
                  go_wp2
                  go_meet
                  case rel => exact ⟨lb, rfl, rfl, H6⟩
                exact AllReadyH.nil
              exact AllReadyH.nil
            refine anyH_one rfl (fun K hK => ?_) ?_
            · go_simp
              generalize hq9 : w3.alloc _ = w4
              have H4 := Lib.hid ((H3.out.new (b := w3.heap.size) rfl #[.int .u64 0, .bool false, .bool false, .bool false, .bool false, .int .u8 0] 71).world hq9)
              clear hq9 H3
              generalize w3.heap.size = lb at H4 ⊢
              refine hK.out _ _ ((H4.out.at_ 2 rfl)) (fun hHeld => ?_)
              clear hK K
              (try simp only [Act.put, List.setIfInBounds_toArray, List.set_cons_zero, List.set_cons_succ])
              refine wpAnyH_ready (rs := [5]) (by kernel_rfl) (by simp) ?_
              refine anyH_one rfl (fun K hK => ?_) ?_
              · go_simp
                refine (HGET.out _ H4.out.own).mono ?_
                rintro e w5 ⟨rfl, hb⟩
                have H5 := Lib.hid (H4.out.quiet hb)
                clear hb H4
                refine hK.out _ _ ((H5.out.at_ 2 rfl)) (fun hHeld => ?_)
                clear hK K
                (try simp only [Act.put, List.setIfInBounds_toArray, List.set_cons_zero, List.set_cons_succ])
                refine tk (v := ?_) 6 ?_ ?_
                rotate_left
                · intro w hSw
                  go_simp
                  (try with_reducible rfl)
                (try simp only [Act.put, List.setIfInBounds_toArray, List.set_cons_zero, List.set_cons_succ])
                refine tk (v := ?_) 7 ?_ ?_
                rotate_left
                · intro w hSw
                  go_simp
                  (try with_reducible rfl)
                (try simp only [Act.put, List.setIfInBounds_toArray, List.set_cons_zero, List.set_cons_succ])
                refine tk (v := ?_) 8 ?_ ?_
                rotate_left
                · intro w hSw
                  go_simp
                  (try with_reducible rfl)
                (try simp only [Act.put, List.setIfInBounds_toArray, List.set_cons_zero, List.set_cons_succ])
                refine wpAnyH_ready (rs := [10]) (by kernel_rfl) (by simp) ?_
                refine anyH_one rfl (fun K hK => ?_) ?_
                · obtain ⟨r0, r1, r2, r3, r4, r5⟩ := (H5.out.at_ 0 rfl).c6
                  have g0 := (H5.out.at_ 0 rfl).fz 0; have g1 := (H5.out.at_ 0 rfl).fz 1; have g2 := (H5.out.at_ 0 rfl).fz 2; have g3 := (H5.out.at_ 0 rfl).fz 3; have g4 := (H5.out.at_ 0 rfl).fz 4; have g5 := (H5.out.at_ 0 rfl).fz 5
                  go_simp
                  generalize hq9 : (((((w5.setCell _ _).setCell _ _).setCell _ _).setCell _ _).setCell _ _).setCell _ _ = w6
                  have H6 := Lib.hid ((H5.out.put 0 rfl (turnB6 _ _ _ _ _ _ _ _) (setB6 (H5.out.at_ 0 rfl) _ _ _ _ _ _)).world hq9)
                  clear hq9 H5 r0 g0 r1 g1 r2 g2 r3 g3 r4 g4 r5 g5
                  refine hK.out _ _ ((H6.out.at_ 2 rfl)) (fun hHeld => ?_)
                  clear hK K
                  (try simp only [Act.put, List.setIfInBounds_toArray, List.set_cons_zero, List.set_cons_succ])
                  refine tk (v := ?_) 11 ?_ ?_
                  rotate_left
                  · intro w hSw
                    go_simp
                    (try with_reducible rfl)
                  (try simp only [Act.put, List.setIfInBounds_toArray, List.set_cons_zero, List.set_cons_succ])
                  refine wpAnyH_done (by kernel_rfl) ?_ _
                  clear hHeld
                  go_wp2
                  go_meet
                  case rel => exact ⟨lb, rfl, rfl, H6⟩
                exact AllReadyH.nil
              exact AllReadyH.nil
            exact AllReadyH.nil
          refine anyH_one rfl (fun K hK => ?_) ?_
          · go_simp
            generalize hq9 : w2.alloc _ = w3
            have H3 := Lib.hid ((H2.out.new (b := w2.heap.size) rfl #[.int .u64 0, .bool false, .bool false, .bool false, .bool false, .int .u8 0] 71).world hq9)
            clear hq9 H2
            generalize w2.heap.size = lb at H3 ⊢
            refine hK.out _ _ ((H3.out.at_ 2 rfl)) (fun hHeld => ?_)
            clear hK K
            (try simp only [Act.put, List.setIfInBounds_toArray, List.set_cons_zero, List.set_cons_succ])
            refine wpAnyH_ready (rs := [4]) (by kernel_rfl) (by simp) ?_
            refine anyH_one rfl (fun K hK => ?_) ?_
            · go_simp
              refine (HK1.out _).mono ?_
              rintro e w4 ⟨rfl, hb⟩
              have H4 := Lib.hid (H3.out.quiet hb)
              clear hb H3
              refine hK.out _ _ ((H4.out.at_ 2 rfl)) (fun hHeld => ?_)
              clear hK K
              (try simp only [Act.put, List.setIfInBounds_toArray, List.set_cons_zero, List.set_cons_succ])
              refine wpAnyH_ready (rs := [5]) (by kernel_rfl) (by simp) ?_
              refine anyH_one rfl (fun K hK => ?_) ?_
              · go_simp
                refine (HGET.out _ H4.out.own).mono ?_
                rintro e w5 ⟨rfl, hb⟩
                have H5 := Lib.hid (H4.out.quiet hb)
                clear hb H4
                refine hK.out _ _ ((H5.out.at_ 2 rfl)) (fun hHeld => ?_)
                clear hK K
                (try simp only [Act.put, List.setIfInBounds_toArray, List.set_cons_zero, List.set_cons_succ])
                refine tk (v := ?_) 6 ?_ ?_
                rotate_left
                · intro w hSw
                  go_simp
                  (try with_reducible rfl)
                (try simp only [Act.put, List.setIfInBounds_toArray, List.set_cons_zero, List.set_cons_succ])
                refine tk (v := ?_) 7 ?_ ?_
                rotate_left
                · intro w hSw
                  go_simp
                  (try with_reducible rfl)
                (try simp only [Act.put, List.setIfInBounds_toArray, List.set_cons_zero, List.set_cons_succ])
                refine tk (v := ?_) 8 ?_ ?_
                rotate_left
                · intro w hSw
                  go_simp
                  (try with_reducible rfl)
                (try simp only [Act.put, List.setIfInBounds_toArray, List.set_cons_zero, List.set_cons_succ])
                refine wpAnyH_ready (rs := [10]) (by kernel_rfl) (by simp) ?_
                refine anyH_one rfl (fun K hK => ?_) ?_
                · obtain ⟨r0, r1, r2, r3, r4, r5⟩ := (H5.out.at_ 0 rfl).c6
                  have g0 := (H5.out.at_ 0 rfl).fz 0; have g1 := (H5.out.at_ 0 rfl).fz 1; have g2 := (H5.out.at_ 0 rfl).fz 2; have g3 := (H5.out.at_ 0 rfl).fz 3; have g4 := (H5.out.at_ 0 rfl).fz 4; have g5 := (H5.out.at_ 0 rfl).fz 5
                  go_simp
                  generalize hq9 : (((((w5.setCell _ _).setCell _ _).setCell _ _).setCell _ _).setCell _ _).setCell _ _ = w6
                  have H6 := Lib.hid ((H5.out.put 0 rfl (turnB6 _ _ _ _ _ _ _ _) (setB6 (H5.out.at_ 0 rfl) _ _ _ _ _ _)).world hq9)
                  clear hq9 H5 r0 g0 r1 g1 r2 g2 r3 g3 r4 g4 r5 g5
                  refine hK.out _ _ ((H6.out.at_ 2 rfl)) (fun hHeld => ?_)
                  clear hK K
                  (try simp only [Act.put, List.setIfInBounds_toArray, List.set_cons_zero, List.set_cons_succ])
                  refine tk (v := ?_) 11 ?_ ?_
                  rotate_left
                  · intro w hSw
                    go_simp
                    (try with_reducible rfl)
                  (try simp only [Act.put, List.setIfInBounds_toArray, List.set_cons_zero, List.set_cons_succ])
                  refine wpAnyH_done (by kernel_rfl) ?_ _
                  clear hHeld
                  go_wp2
                  go_meet
                  case rel => exact ⟨lb, rfl, rfl, H6⟩
                exact AllReadyH.nil
              exact AllReadyH.nil
            exact AllReadyH.nil
          exact AllReadyH.nil
        case rest =>
          obtain ⟨lb, rfl, rfl, H20⟩ := hcut
          clear H1
          generalize wc = w20 at *
          obtain ⟨q0, q1, q2, q3, q4, q5⟩ := (H20.out.at_ 0 rfl).c6
          go_upto_region 7 with fail
          generalize hq9 : w20.alloc _ = w21
          have H21 := Lib.hid ((H20.out.new (b := w20.heap.size) rfl #[.int .u64 l0, .int .i64 1, .bool l1, .bool l2, .bool l3, .bool l4] 44).world hq9)
          clear hq9 H20 q0 q1 q2 q3 q4 q5
          generalize w20.heap.size = hb9 at *
          have H22 := Lib.hid (H21.out.quiet (Kept.drew0 w21))
          clear H21
          refine wp_region_held_drew (S := fun w' => Blk w' lb #[.int .u64 l0, .bool l1, .bool l2, .bool l3, .bool l4, .int .u8 l5] 71) (by kernel_rfl) (H22.out.at_ 1 rfl) (fun hHeld => ?_)
          generalize w21.drew = w22 at *
          refine tk (v := ?_) 0 ?_ ?_
          rotate_left
          · intro w hSw
            obtain ⟨q0, q1, q2, q3, q4, q5⟩ := hSw.c6
            go_simp
            (try with_reducible rfl)
          (try simp only [Act.put, List.setIfInBounds_toArray, List.set_cons_zero, List.set_cons_succ])
          refine tk (v := ?_) 1 ?_ ?_
          rotate_left
          · intro w hSw
            go_simp
            (try with_reducible rfl)
          (try simp only [Act.put, List.setIfInBounds_toArray, List.set_cons_zero, List.set_cons_succ])
          refine wpAnyH_ready (rs := [2]) (by kernel_rfl) (by simp) ?_
          refine anyH_one rfl (fun K hK => ?_) ?_
          · go_simp
            refine (HPL.out _).mono ?_
            rintro e _ ⟨rfl, rfl⟩
            refine hK.out _ _ ((H22.out.at_ 1 rfl)) (fun hHeld => ?_)
            clear hK K
            (try simp only [Act.put, List.setIfInBounds_toArray, List.set_cons_zero, List.set_cons_succ])
            refine wpAnyH_ready (rs := [3]) (by kernel_rfl) (by simp) ?_
            refine anyH_one rfl (fun K hK => ?_) ?_
            · go_simp
              refine (HHAS.out _).mono ?_
              rintro e w23 ⟨rfl, hb⟩
              have H23 := Lib.hid (H22.out.quiet hb)
              clear hb H22
              refine hK.out _ _ ((H23.out.at_ 1 rfl)) (fun hHeld => ?_)
              clear hK K
              (try simp only [Act.put, List.setIfInBounds_toArray, List.set_cons_zero, List.set_cons_succ])
              refine tk (v := ?_) 4 ?_ ?_
              rotate_left
              · intro w hSw
                go_simp
                (try with_reducible rfl)
              (try simp only [Act.put, List.setIfInBounds_toArray, List.set_cons_zero, List.set_cons_succ])
              refine tk (v := ?_) 5 ?_ ?_
              rotate_left
              · intro w hSw
                go_simp
                (try with_reducible rfl)
              (try simp only [Act.put, List.setIfInBounds_toArray, List.set_cons_zero, List.set_cons_succ])
              refine tk (v := ?_) 6 ?_ ?_
              rotate_left
              · intro w hSw
                go_simp
                (try with_reducible rfl)
              (try simp only [Act.put, List.setIfInBounds_toArray, List.set_cons_zero, List.set_cons_succ])
              refine tk (v := ?_) 7 ?_ ?_
              rotate_left
              · intro w hSw
                go_simp
                (try with_reducible rfl)
              (try simp only [Act.put, List.setIfInBounds_toArray, List.set_cons_zero, List.set_cons_succ])
              refine tk (v := ?_) 8 ?_ ?_
              rotate_left
              · intro w hSw
                go_simp
                (try with_reducible rfl)
              (try simp only [Act.put, List.setIfInBounds_toArray, List.set_cons_zero, List.set_cons_succ])
              refine wpAnyH_done (by kernel_rfl) ?_ _
              clear hHeld
              obtain ⟨r0, r1, r2, r3, r4, r5⟩ := (H23.out.at_ 0 rfl).c6
              have g0 := (H23.out.at_ 0 rfl).fz 0
              go_upto_region 9 with fail
              generalize hq9 : w23.setCell _ _ = w24
              have H24 := Lib.hid ((H23.out.put 0 rfl (turn1 _ _ 0 (.int .u64 f)) (Blk.set1 (H23.out.at_ 0 rfl) 0 (.int .u64 f))).world hq9)
              clear hq9 H23 r0 r1 r2 r3 r4 r5 g0
              obtain ⟨r0, r1, r2, r3, r4, r5⟩ := (H24.out.at_ 0 rfl).c6
              obtain ⟨s0, s1, s2, s3, s4, s5⟩ := (H24.out.at_ 2 rfl).c6
              have g0 := (H24.out.at_ 2 rfl).fz 0; have g1 := (H24.out.at_ 2 rfl).fz 1; have g2 := (H24.out.at_ 2 rfl).fz 2; have g3 := (H24.out.at_ 2 rfl).fz 3; have g4 := (H24.out.at_ 2 rfl).fz 4; have g5 := (H24.out.at_ 2 rfl).fz 5
              go_wp2
              refine bodyPost_ret ?_ rfl ⟨by rw [HE.out], ?_⟩
              · rw [results_cell_tmp rfl]; go_simp
              · exact (by first | exact ((H24.out.m.put6 2 rfl rfl).below) | (rw [← HBC.out]; exact ((H24.out.m.put6 2 rfl rfl).below)))
            exact AllReadyH.nil
          exact AllReadyH.nil
      | false =>
        have HN : Hid (fromT M p a 1 = o) := Lib.hid (by rw [← HO.out, HR.out (HRN.out _ hl hbb)])
        clear hyes hbb hf hl his HOK HO
        cases is with
        | true =>
          go_upto_region 4 with fail
          go_cut [9, 10] from 14 to 51 (fun s9 s10 w9 => ∃ lb : Nat, s9 = .pointer (some ⟨lb, 0, none⟩) ∧ s10 = .bool true ∧ Hid (Dv w w9 (.slice A n c) (.slice A n c) M [⟨lb, #[.int .u64 l0, .bool l1, .bool l2, .bool l3, .bool l4, .int .u8 l5], 71⟩, ⟨bc + 1, #[.int .u64 0, .int .i64 0, .bool false, .bool false, .bool false, .bool false], 44⟩, ⟨bc, #[.slice A n c, .int .i64 S], 28⟩]))
          case first =>
            have H2 := Lib.hid (H1.out.quiet (Kept.drew0 w1))
            clear H1
            refine wp_region_held_drew (S := fun w' => Blk w' bc #[.slice A n c, .int .i64 S] 28) (by kernel_rfl) (H2.out.at_ 1 rfl) (fun hHeld => ?_)
            generalize w1.drew = w2 at *
            refine tk (v := ?_) 0 ?_ ?_
            rotate_left
            · intro w hSw
              obtain ⟨a0, a1⟩ := hSw.c2
              go_simp
              (try with_reducible rfl)
            (try simp only [Act.put, List.setIfInBounds_toArray, List.set_cons_zero, List.set_cons_succ])
            refine tk (v := ?_) 1 ?_ ?_
            rotate_left
            · intro w hSw
              go_simp
              (try with_reducible rfl)
            (try simp only [Act.put, List.setIfInBounds_toArray, List.set_cons_zero, List.set_cons_succ])
            refine tk (v := ?_) 2 ?_ ?_
            rotate_left
            · intro w hSw
              go_simp
              (try with_reducible rfl)
            (try simp only [Act.put, List.setIfInBounds_toArray, List.set_cons_zero, List.set_cons_succ])
            refine tk (v := ?_) 3 ?_ ?_
            rotate_left
            · intro w hSw
              go_simp
              (try with_reducible rfl)
            (try simp only [Act.put, List.setIfInBounds_toArray, List.set_cons_zero, List.set_cons_succ])
            refine wpAnyH_ready (rs := [4, 9]) (by kernel_rfl) (by simp) ?_
            refine anyH_one rfl (fun K hK => ?_) ?_
            · go_simp
              refine (HK1.out _).mono ?_
              rintro e w3 ⟨rfl, hb⟩
              have H3 := Lib.hid (H2.out.quiet hb)
              clear hb H2
              refine hK.out _ _ ((H3.out.at_ 1 rfl)) (fun hHeld => ?_)
              clear hK K
              (try simp only [Act.put, List.setIfInBounds_toArray, List.set_cons_zero, List.set_cons_succ])
              refine wpAnyH_ready (rs := [5, 9]) (by kernel_rfl) (by simp) ?_
              refine anyH_one rfl (fun K hK => ?_) ?_
              · go_simp
                refine (HGET.out _ H3.out.own).mono ?_
                rintro e w4 ⟨rfl, hb⟩
                have H4 := Lib.hid (H3.out.quiet hb)
                clear hb H3
                refine hK.out _ _ ((H4.out.at_ 1 rfl)) (fun hHeld => ?_)
                clear hK K
                (try simp only [Act.put, List.setIfInBounds_toArray, List.set_cons_zero, List.set_cons_succ])
                refine tk (v := ?_) 6 ?_ ?_
                rotate_left
                · intro w hSw
                  go_simp
                  (try with_reducible rfl)
                (try simp only [Act.put, List.setIfInBounds_toArray, List.set_cons_zero, List.set_cons_succ])
                refine tk (v := ?_) 7 ?_ ?_
                rotate_left
                · intro w hSw
                  go_simp
                  (try with_reducible rfl)
                (try simp only [Act.put, List.setIfInBounds_toArray, List.set_cons_zero, List.set_cons_succ])
                refine tk (v := ?_) 8 ?_ ?_
                rotate_left
                · intro w hSw
                  go_simp
                  (try with_reducible rfl)
                (try simp only [Act.put, List.setIfInBounds_toArray, List.set_cons_zero, List.set_cons_succ])
                refine wpAnyH_ready (rs := [9]) (by kernel_rfl) (by simp) ?_
                refine anyH_one rfl (fun K hK => ?_) ?_
                · go_simp
                  generalize hq9 : w4.alloc _ = w5
                  have H5 := Lib.hid ((H4.out.new (b := w4.heap.size) rfl #[.int .u64 0, .bool false, .bool false, .bool false, .bool false, .int .u8 0] 71).world hq9)
                  clear hq9 H4
                  generalize w4.heap.size = lb at H5 ⊢
                  refine hK.out _ _ ((H5.out.at_ 2 rfl)) (fun hHeld => ?_)
                  clear hK K
                  (try simp only [Act.put, List.setIfInBounds_toArray, List.set_cons_zero, List.set_cons_succ])
                  refine wpAnyH_ready (rs := [10]) (by kernel_rfl) (by simp) ?_
                  refine anyH_one rfl (fun K hK => ?_) ?_
                  · obtain ⟨r0, r1, r2, r3, r4, r5⟩ := (H5.out.at_ 0 rfl).c6
                    have g0 := (H5.out.at_ 0 rfl).fz 0; have g1 := (H5.out.at_ 0 rfl).fz 1; have g2 := (H5.out.at_ 0 rfl).fz 2; have g3 := (H5.out.at_ 0 rfl).fz 3; have g4 := (H5.out.at_ 0 rfl).fz 4; have g5 := (H5.out.at_ 0 rfl).fz 5
                    go_simp
                    generalize hq9 : (((((w5.setCell _ _).setCell _ _).setCell _ _).setCell _ _).setCell _ _).setCell _ _ = w6
                    have H6 := Lib.hid ((H5.out.put 0 rfl (turnB6 _ _ _ _ _ _ _ _) (setB6 (H5.out.at_ 0 rfl) _ _ _ _ _ _)).world hq9)
                    clear hq9 H5 r0 g0 r1 g1 r2 g2 r3 g3 r4 g4 r5 g5
                    refine hK.out _ _ ((H6.out.at_ 2 rfl)) (fun hHeld => ?_)
                    clear hK K
                    (try simp only [Act.put, List.setIfInBounds_toArray, List.set_cons_zero, List.set_cons_succ])
                    refine tk (v := ?_) 11 ?_ ?_
                    rotate_left
                    · intro w hSw
                      go_simp
                      (try with_reducible rfl)
                    (try simp only [Act.put, List.setIfInBounds_toArray, List.set_cons_zero, List.set_cons_succ])
                    refine wpAnyH_done (by kernel_rfl) ?_ _
                    clear hHeld
                    go_wp2
                    go_meet
                    case rel => exact ⟨lb, rfl, rfl, H6⟩
                  exact AllReadyH.nil
                exact AllReadyH.nil
              refine anyH_one rfl (fun K hK => ?_) ?_
              · go_simp
                generalize hq9 : w3.alloc _ = w4
                have H4 := Lib.hid ((H3.out.new (b := w3.heap.size) rfl #[.int .u64 0, .bool false, .bool false, .bool false, .bool false, .int .u8 0] 71).world hq9)
                clear hq9 H3
                generalize w3.heap.size = lb at H4 ⊢
                refine hK.out _ _ ((H4.out.at_ 2 rfl)) (fun hHeld => ?_)
                clear hK K
                (try simp only [Act.put, List.setIfInBounds_toArray, List.set_cons_zero, List.set_cons_succ])
                refine wpAnyH_ready (rs := [5]) (by kernel_rfl) (by simp) ?_
                refine anyH_one rfl (fun K hK => ?_) ?_
                · go_simp
                  refine (HGET.out _ H4.out.own).mono ?_
                  rintro e w5 ⟨rfl, hb⟩
                  have H5 := Lib.hid (H4.out.quiet hb)
                  clear hb H4
                  refine hK.out _ _ ((H5.out.at_ 2 rfl)) (fun hHeld => ?_)
                  clear hK K
                  (try simp only [Act.put, List.setIfInBounds_toArray, List.set_cons_zero, List.set_cons_succ])
                  refine tk (v := ?_) 6 ?_ ?_
                  rotate_left
                  · intro w hSw
                    go_simp
                    (try with_reducible rfl)
                  (try simp only [Act.put, List.setIfInBounds_toArray, List.set_cons_zero, List.set_cons_succ])
                  refine tk (v := ?_) 7 ?_ ?_
                  rotate_left
                  · intro w hSw
                    go_simp
                    (try with_reducible rfl)
                  (try simp only [Act.put, List.setIfInBounds_toArray, List.set_cons_zero, List.set_cons_succ])
                  refine tk (v := ?_) 8 ?_ ?_
                  rotate_left
                  · intro w hSw
                    go_simp
                    (try with_reducible rfl)
                  (try simp only [Act.put, List.setIfInBounds_toArray, List.set_cons_zero, List.set_cons_succ])
                  refine wpAnyH_ready (rs := [10]) (by kernel_rfl) (by simp) ?_
                  refine anyH_one rfl (fun K hK => ?_) ?_
                  · obtain ⟨r0, r1, r2, r3, r4, r5⟩ := (H5.out.at_ 0 rfl).c6
                    have g0 := (H5.out.at_ 0 rfl).fz 0; have g1 := (H5.out.at_ 0 rfl).fz 1; have g2 := (H5.out.at_ 0 rfl).fz 2; have g3 := (H5.out.at_ 0 rfl).fz 3; have g4 := (H5.out.at_ 0 rfl).fz 4; have g5 := (H5.out.at_ 0 rfl).fz 5
                    go_simp
                    generalize hq9 : (((((w5.setCell _ _).setCell _ _).setCell _ _).setCell _ _).setCell _ _).setCell _ _ = w6
                    have H6 := Lib.hid ((H5.out.put 0 rfl (turnB6 _ _ _ _ _ _ _ _) (setB6 (H5.out.at_ 0 rfl) _ _ _ _ _ _)).world hq9)
                    clear hq9 H5 r0 g0 r1 g1 r2 g2 r3 g3 r4 g4 r5 g5
                    refine hK.out _ _ ((H6.out.at_ 2 rfl)) (fun hHeld => ?_)
                    clear hK K
                    (try simp only [Act.put, List.setIfInBounds_toArray, List.set_cons_zero, List.set_cons_succ])
                    refine tk (v := ?_) 11 ?_ ?_
                    rotate_left
                    · intro w hSw
                      go_simp
                      (try with_reducible rfl)
                    (try simp only [Act.put, List.setIfInBounds_toArray, List.set_cons_zero, List.set_cons_succ])
                    refine wpAnyH_done (by kernel_rfl) ?_ _
                    clear hHeld
                    go_wp2
                    go_meet
                    case rel => exact ⟨lb, rfl, rfl, H6⟩
                  exact AllReadyH.nil
                exact AllReadyH.nil
              exact AllReadyH.nil
            refine anyH_one rfl (fun K hK => ?_) ?_
            · go_simp
              generalize hq9 : w2.alloc _ = w3
              have H3 := Lib.hid ((H2.out.new (b := w2.heap.size) rfl #[.int .u64 0, .bool false, .bool false, .bool false, .bool false, .int .u8 0] 71).world hq9)
              clear hq9 H2
              generalize w2.heap.size = lb at H3 ⊢
              refine hK.out _ _ ((H3.out.at_ 2 rfl)) (fun hHeld => ?_)
              clear hK K
              (try simp only [Act.put, List.setIfInBounds_toArray, List.set_cons_zero, List.set_cons_succ])
              refine wpAnyH_ready (rs := [4]) (by kernel_rfl) (by simp) ?_
              refine anyH_one rfl (fun K hK => ?_) ?_
              · go_simp
                refine (HK1.out _).mono ?_
                rintro e w4 ⟨rfl, hb⟩
                have H4 := Lib.hid (H3.out.quiet hb)
                clear hb H3
                refine hK.out _ _ ((H4.out.at_ 2 rfl)) (fun hHeld => ?_)
                clear hK K
                (try simp only [Act.put, List.setIfInBounds_toArray, List.set_cons_zero, List.set_cons_succ])
                refine wpAnyH_ready (rs := [5]) (by kernel_rfl) (by simp) ?_
                refine anyH_one rfl (fun K hK => ?_) ?_
                · go_simp
                  refine (HGET.out _ H4.out.own).mono ?_
                  rintro e w5 ⟨rfl, hb⟩
                  have H5 := Lib.hid (H4.out.quiet hb)
                  clear hb H4
                  refine hK.out _ _ ((H5.out.at_ 2 rfl)) (fun hHeld => ?_)
                  clear hK K
                  (try simp only [Act.put, List.setIfInBounds_toArray, List.set_cons_zero, List.set_cons_succ])
                  refine tk (v := ?_) 6 ?_ ?_
                  rotate_left
                  · intro w hSw
                    go_simp
                    (try with_reducible rfl)
                  (try simp only [Act.put, List.setIfInBounds_toArray, List.set_cons_zero, List.set_cons_succ])
                  refine tk (v := ?_) 7 ?_ ?_
                  rotate_left
                  · intro w hSw
                    go_simp
                    (try with_reducible rfl)
                  (try simp only [Act.put, List.setIfInBounds_toArray, List.set_cons_zero, List.set_cons_succ])
                  refine tk (v := ?_) 8 ?_ ?_
                  rotate_left
                  · intro w hSw
                    go_simp
                    (try with_reducible rfl)
                  (try simp only [Act.put, List.setIfInBounds_toArray, List.set_cons_zero, List.set_cons_succ])
                  refine wpAnyH_ready (rs := [10]) (by kernel_rfl) (by simp) ?_
                  refine anyH_one rfl (fun K hK => ?_) ?_
                  · obtain ⟨r0, r1, r2, r3, r4, r5⟩ := (H5.out.at_ 0 rfl).c6
                    have g0 := (H5.out.at_ 0 rfl).fz 0; have g1 := (H5.out.at_ 0 rfl).fz 1; have g2 := (H5.out.at_ 0 rfl).fz 2; have g3 := (H5.out.at_ 0 rfl).fz 3; have g4 := (H5.out.at_ 0 rfl).fz 4; have g5 := (H5.out.at_ 0 rfl).fz 5
                    go_simp
                    generalize hq9 : (((((w5.setCell _ _).setCell _ _).setCell _ _).setCell _ _).setCell _ _).setCell _ _ = w6
                    have H6 := Lib.hid ((H5.out.put 0 rfl (turnB6 _ _ _ _ _ _ _ _) (setB6 (H5.out.at_ 0 rfl) _ _ _ _ _ _)).world hq9)
                    clear hq9 H5 r0 g0 r1 g1 r2 g2 r3 g3 r4 g4 r5 g5
                    refine hK.out _ _ ((H6.out.at_ 2 rfl)) (fun hHeld => ?_)
                    clear hK K
                    (try simp only [Act.put, List.setIfInBounds_toArray, List.set_cons_zero, List.set_cons_succ])
                    refine tk (v := ?_) 11 ?_ ?_
                    rotate_left
                    · intro w hSw
                      go_simp
                      (try with_reducible rfl)
                    (try simp only [Act.put, List.setIfInBounds_toArray, List.set_cons_zero, List.set_cons_succ])
                    refine wpAnyH_done (by kernel_rfl) ?_ _
                    clear hHeld
                    go_wp2
                    go_meet
                    case rel => exact ⟨lb, rfl, rfl, H6⟩
                  exact AllReadyH.nil
                exact AllReadyH.nil
              exact AllReadyH.nil
            exact AllReadyH.nil
          case rest =>
            obtain ⟨lb, rfl, rfl, H20⟩ := hcut
            clear H1
            generalize wc = w20 at *
            obtain ⟨q0, q1, q2, q3, q4, q5⟩ := (H20.out.at_ 0 rfl).c6
            go_upto_region 7 with fail
            generalize hq9 : w20.alloc _ = w21
            have H21 := Lib.hid ((H20.out.new (b := w20.heap.size) rfl #[.int .u64 l0, .int .i64 1, .bool l1, .bool l2, .bool l3, .bool l4] 44).world hq9)
            clear hq9 H20 q0 q1 q2 q3 q4 q5
            generalize w20.heap.size = hb9 at *
            have H22 := Lib.hid (H21.out.quiet (Kept.drew0 w21))
            clear H21
            refine wp_region_held_drew (S := fun w' => Blk w' lb #[.int .u64 l0, .bool l1, .bool l2, .bool l3, .bool l4, .int .u8 l5] 71) (by kernel_rfl) (H22.out.at_ 1 rfl) (fun hHeld => ?_)
            generalize w21.drew = w22 at *
            refine tk (v := ?_) 0 ?_ ?_
            rotate_left
            · intro w hSw
              obtain ⟨q0, q1, q2, q3, q4, q5⟩ := hSw.c6
              go_simp
              (try with_reducible rfl)
            (try simp only [Act.put, List.setIfInBounds_toArray, List.set_cons_zero, List.set_cons_succ])
            refine tk (v := ?_) 1 ?_ ?_
            rotate_left
            · intro w hSw
              go_simp
              (try with_reducible rfl)
            (try simp only [Act.put, List.setIfInBounds_toArray, List.set_cons_zero, List.set_cons_succ])
            refine wpAnyH_ready (rs := [2]) (by kernel_rfl) (by simp) ?_
            refine anyH_one rfl (fun K hK => ?_) ?_
            · go_simp
              refine (HPL.out _).mono ?_
              rintro e _ ⟨rfl, rfl⟩
              refine hK.out _ _ ((H22.out.at_ 1 rfl)) (fun hHeld => ?_)
              clear hK K
              (try simp only [Act.put, List.setIfInBounds_toArray, List.set_cons_zero, List.set_cons_succ])
              refine wpAnyH_ready (rs := [3]) (by kernel_rfl) (by simp) ?_
              refine anyH_one rfl (fun K hK => ?_) ?_
              · go_simp
                refine (HHAS.out _).mono ?_
                rintro e w23 ⟨rfl, hb⟩
                have H23 := Lib.hid (H22.out.quiet hb)
                clear hb H22
                refine hK.out _ _ ((H23.out.at_ 1 rfl)) (fun hHeld => ?_)
                clear hK K
                (try simp only [Act.put, List.setIfInBounds_toArray, List.set_cons_zero, List.set_cons_succ])
                refine tk (v := ?_) 4 ?_ ?_
                rotate_left
                · intro w hSw
                  go_simp
                  (try with_reducible rfl)
                (try simp only [Act.put, List.setIfInBounds_toArray, List.set_cons_zero, List.set_cons_succ])
                refine tk (v := ?_) 5 ?_ ?_
                rotate_left
                · intro w hSw
                  go_simp
                  (try with_reducible rfl)
                (try simp only [Act.put, List.setIfInBounds_toArray, List.set_cons_zero, List.set_cons_succ])
                refine tk (v := ?_) 6 ?_ ?_
                rotate_left
                · intro w hSw
                  go_simp
                  (try with_reducible rfl)
                (try simp only [Act.put, List.setIfInBounds_toArray, List.set_cons_zero, List.set_cons_succ])
                refine tk (v := ?_) 7 ?_ ?_
                rotate_left
                · intro w hSw
                  go_simp
                  (try with_reducible rfl)
                (try simp only [Act.put, List.setIfInBounds_toArray, List.set_cons_zero, List.set_cons_succ])
                refine tk (v := ?_) 8 ?_ ?_
                rotate_left
                · intro w hSw
                  go_simp
                  (try with_reducible rfl)
                (try simp only [Act.put, List.setIfInBounds_toArray, List.set_cons_zero, List.set_cons_succ])
                refine wpAnyH_done (by kernel_rfl) ?_ _
                clear hHeld
                obtain ⟨r0, r1, r2, r3, r4, r5⟩ := (H23.out.at_ 0 rfl).c6
                have g0 := (H23.out.at_ 0 rfl).fz 0
                go_upto_region 9 with fail
                generalize hq9 : w23.setCell _ _ = w24
                have H24 := Lib.hid ((H23.out.put 0 rfl (turn1 _ _ 0 (.int .u64 f)) (Blk.set1 (H23.out.at_ 0 rfl) 0 (.int .u64 f))).world hq9)
                clear hq9 H23 r0 r1 r2 r3 r4 r5 g0
                go_wp2
                go_roundw
                case rel => exact ⟨1, by omega, rfl, HN, H24.out.pick [2, 3]⟩
                case measure => simp [intOf]
              exact AllReadyH.nil
            exact AllReadyH.nil
        | false =>
          go_upto_region 4 with fail
          go_cut [9, 10] from 14 to 51 (fun s9 s10 w9 => ∃ lb : Nat, s9 = .pointer (some ⟨lb, 0, none⟩) ∧ s10 = .bool false ∧ Hid (Dv w w9 (.slice A n c) (.slice A n c) M [⟨lb, #[.int .u64 l0, .bool l1, .bool l2, .bool l3, .bool l4, .int .u8 l5], 71⟩, ⟨bc + 1, #[.int .u64 0, .int .i64 0, .bool false, .bool false, .bool false, .bool false], 44⟩, ⟨bc, #[.slice A n c, .int .i64 S], 28⟩]))
          case first =>
            have H2 := Lib.hid (H1.out.quiet (Kept.drew0 w1))
            clear H1
            refine wp_region_held_drew (S := fun w' => Blk w' bc #[.slice A n c, .int .i64 S] 28) (by kernel_rfl) (H2.out.at_ 1 rfl) (fun hHeld => ?_)
            generalize w1.drew = w2 at *
            refine tk (v := ?_) 0 ?_ ?_
            rotate_left
            · intro w hSw
              obtain ⟨a0, a1⟩ := hSw.c2
              go_simp
              (try with_reducible rfl)
            (try simp only [Act.put, List.setIfInBounds_toArray, List.set_cons_zero, List.set_cons_succ])
            refine tk (v := ?_) 1 ?_ ?_
            rotate_left
            · intro w hSw
              go_simp
              (try with_reducible rfl)
            (try simp only [Act.put, List.setIfInBounds_toArray, List.set_cons_zero, List.set_cons_succ])
            refine tk (v := ?_) 2 ?_ ?_
            rotate_left
            · intro w hSw
              go_simp
              (try with_reducible rfl)
            (try simp only [Act.put, List.setIfInBounds_toArray, List.set_cons_zero, List.set_cons_succ])
            refine tk (v := ?_) 3 ?_ ?_
            rotate_left
            · intro w hSw
              go_simp
              (try with_reducible rfl)
            (try simp only [Act.put, List.setIfInBounds_toArray, List.set_cons_zero, List.set_cons_succ])
            refine wpAnyH_ready (rs := [4, 9]) (by kernel_rfl) (by simp) ?_
            refine anyH_one rfl (fun K hK => ?_) ?_
            · go_simp
              refine (HK1.out _).mono ?_
              rintro e w3 ⟨rfl, hb⟩
              have H3 := Lib.hid (H2.out.quiet hb)
              clear hb H2
              refine hK.out _ _ ((H3.out.at_ 1 rfl)) (fun hHeld => ?_)
              clear hK K
              (try simp only [Act.put, List.setIfInBounds_toArray, List.set_cons_zero, List.set_cons_succ])
              refine wpAnyH_ready (rs := [5, 9]) (by kernel_rfl) (by simp) ?_
              refine anyH_one rfl (fun K hK => ?_) ?_
              · go_simp
                refine (HGET.out _ H3.out.own).mono ?_
                rintro e w4 ⟨rfl, hb⟩
                have H4 := Lib.hid (H3.out.quiet hb)
                clear hb H3
                refine hK.out _ _ ((H4.out.at_ 1 rfl)) (fun hHeld => ?_)
                clear hK K
                (try simp only [Act.put, List.setIfInBounds_toArray, List.set_cons_zero, List.set_cons_succ])
                refine tk (v := ?_) 6 ?_ ?_
                rotate_left
                · intro w hSw
                  go_simp
                  (try with_reducible rfl)
                (try simp only [Act.put, List.setIfInBounds_toArray, List.set_cons_zero, List.set_cons_succ])
                refine tk (v := ?_) 7 ?_ ?_
                rotate_left
                · intro w hSw
                  go_simp
                  (try with_reducible rfl)
                (try simp only [Act.put, List.setIfInBounds_toArray, List.set_cons_zero, List.set_cons_succ])
                refine tk (v := ?_) 8 ?_ ?_
                rotate_left
                · intro w hSw
                  go_simp
                  (try with_reducible rfl)
                (try simp only [Act.put, List.setIfInBounds_toArray, List.set_cons_zero, List.set_cons_succ])
                refine wpAnyH_ready (rs := [9]) (by kernel_rfl) (by simp) ?_
                refine anyH_one rfl (fun K hK => ?_) ?_
                · go_simp
                  generalize hq9 : w4.alloc _ = w5
                  have H5 := Lib.hid ((H4.out.new (b := w4.heap.size) rfl #[.int .u64 0, .bool false, .bool false, .bool false, .bool false, .int .u8 0] 71).world hq9)
                  clear hq9 H4
                  generalize w4.heap.size = lb at H5 ⊢
                  refine hK.out _ _ ((H5.out.at_ 2 rfl)) (fun hHeld => ?_)
                  clear hK K
                  (try simp only [Act.put, List.setIfInBounds_toArray, List.set_cons_zero, List.set_cons_succ])
                  refine wpAnyH_ready (rs := [10]) (by kernel_rfl) (by simp) ?_
                  refine anyH_one rfl (fun K hK => ?_) ?_
                  · obtain ⟨r0, r1, r2, r3, r4, r5⟩ := (H5.out.at_ 0 rfl).c6
                    have g0 := (H5.out.at_ 0 rfl).fz 0; have g1 := (H5.out.at_ 0 rfl).fz 1; have g2 := (H5.out.at_ 0 rfl).fz 2; have g3 := (H5.out.at_ 0 rfl).fz 3; have g4 := (H5.out.at_ 0 rfl).fz 4; have g5 := (H5.out.at_ 0 rfl).fz 5
                    go_simp
                    generalize hq9 : (((((w5.setCell _ _).setCell _ _).setCell _ _).setCell _ _).setCell _ _).setCell _ _ = w6
                    have H6 := Lib.hid ((H5.out.put 0 rfl (turnB6 _ _ _ _ _ _ _ _) (setB6 (H5.out.at_ 0 rfl) _ _ _ _ _ _)).world hq9)
                    clear hq9 H5 r0 g0 r1 g1 r2 g2 r3 g3 r4 g4 r5 g5
                    refine hK.out _ _ ((H6.out.at_ 2 rfl)) (fun hHeld => ?_)
                    clear hK K
                    (try simp only [Act.put, List.setIfInBounds_toArray, List.set_cons_zero, List.set_cons_succ])
                    refine tk (v := ?_) 11 ?_ ?_
                    rotate_left
                    · intro w hSw
                      go_simp
                      (try with_reducible rfl)
                    (try simp only [Act.put, List.setIfInBounds_toArray, List.set_cons_zero, List.set_cons_succ])
                    refine wpAnyH_done (by kernel_rfl) ?_ _
                    clear hHeld
                    go_wp2
                    go_meet
                    case rel => exact ⟨lb, rfl, rfl, H6⟩
                  exact AllReadyH.nil
                exact AllReadyH.nil
              refine anyH_one rfl (fun K hK => ?_) ?_
              · go_simp
                generalize hq9 : w3.alloc _ = w4
                have H4 := Lib.hid ((H3.out.new (b := w3.heap.size) rfl #[.int .u64 0, .bool false, .bool false, .bool false, .bool false, .int .u8 0] 71).world hq9)
                clear hq9 H3
                generalize w3.heap.size = lb at H4 ⊢
                refine hK.out _ _ ((H4.out.at_ 2 rfl)) (fun hHeld => ?_)
                clear hK K
                (try simp only [Act.put, List.setIfInBounds_toArray, List.set_cons_zero, List.set_cons_succ])
                refine wpAnyH_ready (rs := [5]) (by kernel_rfl) (by simp) ?_
                refine anyH_one rfl (fun K hK => ?_) ?_
                · go_simp
                  refine (HGET.out _ H4.out.own).mono ?_
                  rintro e w5 ⟨rfl, hb⟩
                  have H5 := Lib.hid (H4.out.quiet hb)
                  clear hb H4
                  refine hK.out _ _ ((H5.out.at_ 2 rfl)) (fun hHeld => ?_)
                  clear hK K
                  (try simp only [Act.put, List.setIfInBounds_toArray, List.set_cons_zero, List.set_cons_succ])
                  refine tk (v := ?_) 6 ?_ ?_
                  rotate_left
                  · intro w hSw
                    go_simp
                    (try with_reducible rfl)
                  (try simp only [Act.put, List.setIfInBounds_toArray, List.set_cons_zero, List.set_cons_succ])
                  refine tk (v := ?_) 7 ?_ ?_
                  rotate_left
                  · intro w hSw
                    go_simp
                    (try with_reducible rfl)
                  (try simp only [Act.put, List.setIfInBounds_toArray, List.set_cons_zero, List.set_cons_succ])
                  refine tk (v := ?_) 8 ?_ ?_
                  rotate_left
                  · intro w hSw
                    go_simp
                    (try with_reducible rfl)
                  (try simp only [Act.put, List.setIfInBounds_toArray, List.set_cons_zero, List.set_cons_succ])
                  refine wpAnyH_ready (rs := [10]) (by kernel_rfl) (by simp) ?_
                  refine anyH_one rfl (fun K hK => ?_) ?_
                  · obtain ⟨r0, r1, r2, r3, r4, r5⟩ := (H5.out.at_ 0 rfl).c6
                    have g0 := (H5.out.at_ 0 rfl).fz 0; have g1 := (H5.out.at_ 0 rfl).fz 1; have g2 := (H5.out.at_ 0 rfl).fz 2; have g3 := (H5.out.at_ 0 rfl).fz 3; have g4 := (H5.out.at_ 0 rfl).fz 4; have g5 := (H5.out.at_ 0 rfl).fz 5
                    go_simp
                    generalize hq9 : (((((w5.setCell _ _).setCell _ _).setCell _ _).setCell _ _).setCell _ _).setCell _ _ = w6
                    have H6 := Lib.hid ((H5.out.put 0 rfl (turnB6 _ _ _ _ _ _ _ _) (setB6 (H5.out.at_ 0 rfl) _ _ _ _ _ _)).world hq9)
                    clear hq9 H5 r0 g0 r1 g1 r2 g2 r3 g3 r4 g4 r5 g5
                    refine hK.out _ _ ((H6.out.at_ 2 rfl)) (fun hHeld => ?_)
                    clear hK K
                    (try simp only [Act.put, List.setIfInBounds_toArray, List.set_cons_zero, List.set_cons_succ])
                    refine tk (v := ?_) 11 ?_ ?_
                    rotate_left
                    · intro w hSw
                      go_simp
                      (try with_reducible rfl)
                    (try simp only [Act.put, List.setIfInBounds_toArray, List.set_cons_zero, List.set_cons_succ])
                    refine wpAnyH_done (by kernel_rfl) ?_ _
                    clear hHeld
                    go_wp2
                    go_meet
                    case rel => exact ⟨lb, rfl, rfl, H6⟩
                  exact AllReadyH.nil
                exact AllReadyH.nil
              exact AllReadyH.nil
            refine anyH_one rfl (fun K hK => ?_) ?_
            · go_simp
              generalize hq9 : w2.alloc _ = w3
              have H3 := Lib.hid ((H2.out.new (b := w2.heap.size) rfl #[.int .u64 0, .bool false, .bool false, .bool false, .bool false, .int .u8 0] 71).world hq9)
              clear hq9 H2
              generalize w2.heap.size = lb at H3 ⊢
              refine hK.out _ _ ((H3.out.at_ 2 rfl)) (fun hHeld => ?_)
              clear hK K
              (try simp only [Act.put, List.setIfInBounds_toArray, List.set_cons_zero, List.set_cons_succ])
              refine wpAnyH_ready (rs := [4]) (by kernel_rfl) (by simp) ?_
              refine anyH_one rfl (fun K hK => ?_) ?_
              · go_simp
                refine (HK1.out _).mono ?_
                rintro e w4 ⟨rfl, hb⟩
                have H4 := Lib.hid (H3.out.quiet hb)
                clear hb H3
                refine hK.out _ _ ((H4.out.at_ 2 rfl)) (fun hHeld => ?_)
                clear hK K
                (try simp only [Act.put, List.setIfInBounds_toArray, List.set_cons_zero, List.set_cons_succ])
                refine wpAnyH_ready (rs := [5]) (by kernel_rfl) (by simp) ?_
                refine anyH_one rfl (fun K hK => ?_) ?_
                · go_simp
                  refine (HGET.out _ H4.out.own).mono ?_
                  rintro e w5 ⟨rfl, hb⟩
                  have H5 := Lib.hid (H4.out.quiet hb)
                  clear hb H4
                  refine hK.out _ _ ((H5.out.at_ 2 rfl)) (fun hHeld => ?_)
                  clear hK K
                  (try simp only [Act.put, List.setIfInBounds_toArray, List.set_cons_zero, List.set_cons_succ])
                  refine tk (v := ?_) 6 ?_ ?_
                  rotate_left
                  · intro w hSw
                    go_simp
                    (try with_reducible rfl)
                  (try simp only [Act.put, List.setIfInBounds_toArray, List.set_cons_zero, List.set_cons_succ])
                  refine tk (v := ?_) 7 ?_ ?_
                  rotate_left
                  · intro w hSw
                    go_simp
                    (try with_reducible rfl)
                  (try simp only [Act.put, List.setIfInBounds_toArray, List.set_cons_zero, List.set_cons_succ])
                  refine tk (v := ?_) 8 ?_ ?_
                  rotate_left
                  · intro w hSw
                    go_simp
                    (try with_reducible rfl)
                  (try simp only [Act.put, List.setIfInBounds_toArray, List.set_cons_zero, List.set_cons_succ])
                  refine wpAnyH_ready (rs := [10]) (by kernel_rfl) (by simp) ?_
                  refine anyH_one rfl (fun K hK => ?_) ?_
                  · obtain ⟨r0, r1, r2, r3, r4, r5⟩ := (H5.out.at_ 0 rfl).c6
                    have g0 := (H5.out.at_ 0 rfl).fz 0; have g1 := (H5.out.at_ 0 rfl).fz 1; have g2 := (H5.out.at_ 0 rfl).fz 2; have g3 := (H5.out.at_ 0 rfl).fz 3; have g4 := (H5.out.at_ 0 rfl).fz 4; have g5 := (H5.out.at_ 0 rfl).fz 5
                    go_simp
                    generalize hq9 : (((((w5.setCell _ _).setCell _ _).setCell _ _).setCell _ _).setCell _ _).setCell _ _ = w6
                    have H6 := Lib.hid ((H5.out.put 0 rfl (turnB6 _ _ _ _ _ _ _ _) (setB6 (H5.out.at_ 0 rfl) _ _ _ _ _ _)).world hq9)
                    clear hq9 H5 r0 g0 r1 g1 r2 g2 r3 g3 r4 g4 r5 g5
                    refine hK.out _ _ ((H6.out.at_ 2 rfl)) (fun hHeld => ?_)
                    clear hK K
                    (try simp only [Act.put, List.setIfInBounds_toArray, List.set_cons_zero, List.set_cons_succ])
                    refine tk (v := ?_) 11 ?_ ?_
                    rotate_left
                    · intro w hSw
                      go_simp
                      (try with_reducible rfl)
                    (try simp only [Act.put, List.setIfInBounds_toArray, List.set_cons_zero, List.set_cons_succ])
                    refine wpAnyH_done (by kernel_rfl) ?_ _
                    clear hHeld
                    go_wp2
                    go_meet
                    case rel => exact ⟨lb, rfl, rfl, H6⟩
                  exact AllReadyH.nil
                exact AllReadyH.nil
              exact AllReadyH.nil
            exact AllReadyH.nil
          case rest =>
            obtain ⟨lb, rfl, rfl, H20⟩ := hcut
            clear H1
            generalize wc = w20 at *
            obtain ⟨q0, q1, q2, q3, q4, q5⟩ := (H20.out.at_ 0 rfl).c6
            go_upto_region 7 with fail
            generalize hq9 : w20.alloc _ = w21
            have H21 := Lib.hid ((H20.out.new (b := w20.heap.size) rfl #[.int .u64 l0, .int .i64 1, .bool l1, .bool l2, .bool l3, .bool l4] 44).world hq9)
            clear hq9 H20 q0 q1 q2 q3 q4 q5
            generalize w20.heap.size = hb9 at *
            have H22 := Lib.hid (H21.out.quiet (Kept.drew0 w21))
            clear H21
            refine wp_region_held_drew (S := fun w' => Blk w' lb #[.int .u64 l0, .bool l1, .bool l2, .bool l3, .bool l4, .int .u8 l5] 71) (by kernel_rfl) (H22.out.at_ 1 rfl) (fun hHeld => ?_)
            generalize w21.drew = w22 at *
            refine tk (v := ?_) 0 ?_ ?_
            rotate_left
            · intro w hSw
              obtain ⟨q0, q1, q2, q3, q4, q5⟩ := hSw.c6
              go_simp
              (try with_reducible rfl)
            (try simp only [Act.put, List.setIfInBounds_toArray, List.set_cons_zero, List.set_cons_succ])
            refine tk (v := ?_) 1 ?_ ?_
            rotate_left
            · intro w hSw
              go_simp
              (try with_reducible rfl)
            (try simp only [Act.put, List.setIfInBounds_toArray, List.set_cons_zero, List.set_cons_succ])
            refine wpAnyH_ready (rs := [2]) (by kernel_rfl) (by simp) ?_
            refine anyH_one rfl (fun K hK => ?_) ?_
            · go_simp
              refine (HPL.out _).mono ?_
              rintro e _ ⟨rfl, rfl⟩
              refine hK.out _ _ ((H22.out.at_ 1 rfl)) (fun hHeld => ?_)
              clear hK K
              (try simp only [Act.put, List.setIfInBounds_toArray, List.set_cons_zero, List.set_cons_succ])
              refine wpAnyH_ready (rs := [3]) (by kernel_rfl) (by simp) ?_
              refine anyH_one rfl (fun K hK => ?_) ?_
              · go_simp
                refine (HHAS.out _).mono ?_
                rintro e w23 ⟨rfl, hb⟩
                have H23 := Lib.hid (H22.out.quiet hb)
                clear hb H22
                refine hK.out _ _ ((H23.out.at_ 1 rfl)) (fun hHeld => ?_)
                clear hK K
                (try simp only [Act.put, List.setIfInBounds_toArray, List.set_cons_zero, List.set_cons_succ])
                refine tk (v := ?_) 4 ?_ ?_
                rotate_left
                · intro w hSw
                  go_simp
                  (try with_reducible rfl)
                (try simp only [Act.put, List.setIfInBounds_toArray, List.set_cons_zero, List.set_cons_succ])
                refine tk (v := ?_) 5 ?_ ?_
                rotate_left
                · intro w hSw
                  go_simp
                  (try with_reducible rfl)
                (try simp only [Act.put, List.setIfInBounds_toArray, List.set_cons_zero, List.set_cons_succ])
                refine tk (v := ?_) 6 ?_ ?_
                rotate_left
                · intro w hSw
                  go_simp
                  (try with_reducible rfl)
                (try simp only [Act.put, List.setIfInBounds_toArray, List.set_cons_zero, List.set_cons_succ])
                refine tk (v := ?_) 7 ?_ ?_
                rotate_left
                · intro w hSw
                  go_simp
                  (try with_reducible rfl)
                (try simp only [Act.put, List.setIfInBounds_toArray, List.set_cons_zero, List.set_cons_succ])
                refine tk (v := ?_) 8 ?_ ?_
                rotate_left
                · intro w hSw
                  go_simp
                  (try with_reducible rfl)
                (try simp only [Act.put, List.setIfInBounds_toArray, List.set_cons_zero, List.set_cons_succ])
                refine wpAnyH_done (by kernel_rfl) ?_ _
                clear hHeld
                obtain ⟨r0, r1, r2, r3, r4, r5⟩ := (H23.out.at_ 0 rfl).c6
                have g0 := (H23.out.at_ 0 rfl).fz 0
                go_upto_region 9 with fail
                generalize hq9 : w23.setCell _ _ = w24
                have H24 := Lib.hid ((H23.out.put 0 rfl (turn1 _ _ 0 (.int .u64 f)) (Blk.set1 (H23.out.at_ 0 rfl) 0 (.int .u64 f))).world hq9)
                clear hq9 H23 r0 r1 r2 r3 r4 r5 g0
                go_wp2
                go_roundw
                case rel => exact ⟨1, by omega, rfl, HN, H24.out.pick [2, 3]⟩
                case measure => simp [intOf]
              exact AllReadyH.nil
            exact AllReadyH.nil
    · cases hg : getK M (p, 2, t2) with
      | none =>
        have HN : Hid (fromT M p a 2 = o) := Lib.hid (by rw [← HO.out, H2.out (HGN2.out hg)])
        have HGET : Hid (∀ w1, PairsOwn w1 0 (.slice A n c) M → _) := Lib.hid fun w1 (h : PairsOwn w1 0 (.slice A n c) M) => rgetC_any w1 (.slice A n c) M S p 2 t2 0 0 false false false false h (Nat.le_trans HL.out (by decide)) (by rw [hg]; rfl) false (by rw [hg]; rfl)
        clear hg HO
        go_upto_region 4 with fail
        go_cut [9, 10] from 14 to 51 (fun s9 s10 w9 => ∃ lb : Nat, s9 = .pointer (some ⟨lb, 0, none⟩) ∧ s10 = .bool false ∧ Hid (Dv w w9 (.slice A n c) (.slice A n c) M [⟨lb, #[.int .u64 0, .bool false, .bool false, .bool false, .bool false, .int .u8 0], 71⟩, ⟨bc + 1, #[.int .u64 0, .int .i64 0, .bool false, .bool false, .bool false, .bool false], 44⟩, ⟨bc, #[.slice A n c, .int .i64 S], 28⟩]))
        case first =>
          have H2 := Lib.hid (H1.out.quiet (Kept.drew0 w1))
          clear H1
          refine wp_region_held_drew (S := fun w' => Blk w' bc #[.slice A n c, .int .i64 S] 28) (by kernel_rfl) (H2.out.at_ 1 rfl) (fun hHeld => ?_)
          generalize w1.drew = w2 at *
          refine tk (v := ?_) 0 ?_ ?_
          rotate_left
          · intro w hSw
            obtain ⟨a0, a1⟩ := hSw.c2
            go_simp
            (try with_reducible rfl)
          (try simp only [Act.put, List.setIfInBounds_toArray, List.set_cons_zero, List.set_cons_succ])
          refine tk (v := ?_) 1 ?_ ?_
          rotate_left
          · intro w hSw
            go_simp
            (try with_reducible rfl)
          (try simp only [Act.put, List.setIfInBounds_toArray, List.set_cons_zero, List.set_cons_succ])
          refine tk (v := ?_) 2 ?_ ?_
          rotate_left
          · intro w hSw
            go_simp
            (try with_reducible rfl)
          (try simp only [Act.put, List.setIfInBounds_toArray, List.set_cons_zero, List.set_cons_succ])
          refine tk (v := ?_) 3 ?_ ?_
          rotate_left
          · intro w hSw
            go_simp
            (try with_reducible rfl)
          (try simp only [Act.put, List.setIfInBounds_toArray, List.set_cons_zero, List.set_cons_succ])
          refine wpAnyH_ready (rs := [4, 9]) (by kernel_rfl) (by simp) ?_
          refine anyH_one rfl (fun K hK => ?_) ?_
          · go_simp
            refine (HK2.out _).mono ?_
            rintro e w3 ⟨rfl, hb⟩
            have H3 := Lib.hid (H2.out.quiet hb)
            clear hb H2
            refine hK.out _ _ ((H3.out.at_ 1 rfl)) (fun hHeld => ?_)
            clear hK K
            (try simp only [Act.put, List.setIfInBounds_toArray, List.set_cons_zero, List.set_cons_succ])
            refine wpAnyH_ready (rs := [5, 9]) (by kernel_rfl) (by simp) ?_
            refine anyH_one rfl (fun K hK => ?_) ?_
            · go_simp
              refine (HGET.out _ H3.out.own).mono ?_
              rintro e w4 ⟨rfl, hb⟩
              have H4 := Lib.hid (H3.out.quiet hb)
              clear hb H3
              refine hK.out _ _ ((H4.out.at_ 1 rfl)) (fun hHeld => ?_)
              clear hK K
              (try simp only [Act.put, List.setIfInBounds_toArray, List.set_cons_zero, List.set_cons_succ])
              refine tk (v := ?_) 6 ?_ ?_
              rotate_left
              · intro w hSw
                go_simp
                (try with_reducible rfl)
              (try simp only [Act.put, List.setIfInBounds_toArray, List.set_cons_zero, List.set_cons_succ])
              refine tk (v := ?_) 7 ?_ ?_
              rotate_left
              · intro w hSw
                go_simp
                (try with_reducible rfl)
              (try simp only [Act.put, List.setIfInBounds_toArray, List.set_cons_zero, List.set_cons_succ])
              refine tk (v := ?_) 8 ?_ ?_
              rotate_left
              · intro w hSw
                go_simp
                (try with_reducible rfl)
              (try simp only [Act.put, List.setIfInBounds_toArray, List.set_cons_zero, List.set_cons_succ])
              refine wpAnyH_ready (rs := [9]) (by kernel_rfl) (by simp) ?_
              refine anyH_one rfl (fun K hK => ?_) ?_
              · go_simp
                generalize hq9 : w4.alloc _ = w5
                have H5 := Lib.hid ((H4.out.new (b := w4.heap.size) rfl #[.int .u64 0, .bool false, .bool false, .bool false, .bool false, .int .u8 0] 71).world hq9)
                clear hq9 H4
                generalize w4.heap.size = lb at H5 ⊢
                refine hK.out _ _ ((H5.out.at_ 2 rfl)) (fun hHeld => ?_)
                clear hK K
                (try simp only [Act.put, List.setIfInBounds_toArray, List.set_cons_zero, List.set_cons_succ])
                refine wpAnyH_ready (rs := [10]) (by kernel_rfl) (by simp) ?_
                refine anyH_one rfl (fun K hK => ?_) ?_
                · obtain ⟨r0, r1, r2, r3, r4, r5⟩ := (H5.out.at_ 0 rfl).c6
                  have g0 := (H5.out.at_ 0 rfl).fz 0; have g1 := (H5.out.at_ 0 rfl).fz 1; have g2 := (H5.out.at_ 0 rfl).fz 2; have g3 := (H5.out.at_ 0 rfl).fz 3; have g4 := (H5.out.at_ 0 rfl).fz 4; have g5 := (H5.out.at_ 0 rfl).fz 5
                  go_simp
                  generalize hq9 : (((((w5.setCell _ _).setCell _ _).setCell _ _).setCell _ _).setCell _ _).setCell _ _ = w6
                  have H6 := Lib.hid ((H5.out.put 0 rfl (turnB6 _ _ _ _ _ _ _ _) (setB6 (H5.out.at_ 0 rfl) _ _ _ _ _ _)).world hq9)
                  clear hq9 H5 r0 g0 r1 g1 r2 g2 r3 g3 r4 g4 r5 g5
                  refine hK.out _ _ ((H6.out.at_ 2 rfl)) (fun hHeld => ?_)
                  clear hK K
                  (try simp only [Act.put, List.setIfInBounds_toArray, List.set_cons_zero, List.set_cons_succ])
                  refine tk (v := ?_) 11 ?_ ?_
                  rotate_left
                  · intro w hSw
                    go_simp
                    (try with_reducible rfl)
                  (try simp only [Act.put, List.setIfInBounds_toArray, List.set_cons_zero, List.set_cons_succ])
                  refine wpAnyH_done (by kernel_rfl) ?_ _
                  clear hHeld
                  go_wp2
                  go_meet
                  case rel => exact ⟨lb, rfl, rfl, H6⟩
                exact AllReadyH.nil
              exact AllReadyH.nil
            refine anyH_one rfl (fun K hK => ?_) ?_
            · go_simp
              generalize hq9 : w3.alloc _ = w4
              have H4 := Lib.hid ((H3.out.new (b := w3.heap.size) rfl #[.int .u64 0, .bool false, .bool false, .bool false, .bool false, .int .u8 0] 71).world hq9)
              clear hq9 H3
              generalize w3.heap.size = lb at H4 ⊢
              refine hK.out _ _ ((H4.out.at_ 2 rfl)) (fun hHeld => ?_)
              clear hK K
              (try simp only [Act.put, List.setIfInBounds_toArray, List.set_cons_zero, List.set_cons_succ])
              refine wpAnyH_ready (rs := [5]) (by kernel_rfl) (by simp) ?_
              refine anyH_one rfl (fun K hK => ?_) ?_
              · go_simp
                refine (HGET.out _ H4.out.own).mono ?_
                rintro e w5 ⟨rfl, hb⟩
                have H5 := Lib.hid (H4.out.quiet hb)
                clear hb H4
                refine hK.out _ _ ((H5.out.at_ 2 rfl)) (fun hHeld => ?_)
                clear hK K
                (try simp only [Act.put, List.setIfInBounds_toArray, List.set_cons_zero, List.set_cons_succ])
                refine tk (v := ?_) 6 ?_ ?_
                rotate_left
                · intro w hSw
                  go_simp
                  (try with_reducible rfl)
                (try simp only [Act.put, List.setIfInBounds_toArray, List.set_cons_zero, List.set_cons_succ])
                refine tk (v := ?_) 7 ?_ ?_
                rotate_left
                · intro w hSw
                  go_simp
                  (try with_reducible rfl)
                (try simp only [Act.put, List.setIfInBounds_toArray, List.set_cons_zero, List.set_cons_succ])
                refine tk (v := ?_) 8 ?_ ?_
                rotate_left
                · intro w hSw
                  go_simp
                  (try with_reducible rfl)
                (try simp only [Act.put, List.setIfInBounds_toArray, List.set_cons_zero, List.set_cons_succ])
                refine wpAnyH_ready (rs := [10]) (by kernel_rfl) (by simp) ?_
                refine anyH_one rfl (fun K hK => ?_) ?_
                · obtain ⟨r0, r1, r2, r3, r4, r5⟩ := (H5.out.at_ 0 rfl).c6
                  have g0 := (H5.out.at_ 0 rfl).fz 0; have g1 := (H5.out.at_ 0 rfl).fz 1; have g2 := (H5.out.at_ 0 rfl).fz 2; have g3 := (H5.out.at_ 0 rfl).fz 3; have g4 := (H5.out.at_ 0 rfl).fz 4; have g5 := (H5.out.at_ 0 rfl).fz 5
                  go_simp
                  generalize hq9 : (((((w5.setCell _ _).setCell _ _).setCell _ _).setCell _ _).setCell _ _).setCell _ _ = w6
                  have H6 := Lib.hid ((H5.out.put 0 rfl (turnB6 _ _ _ _ _ _ _ _) (setB6 (H5.out.at_ 0 rfl) _ _ _ _ _ _)).world hq9)
                  clear hq9 H5 r0 g0 r1 g1 r2 g2 r3 g3 r4 g4 r5 g5
                  refine hK.out _ _ ((H6.out.at_ 2 rfl)) (fun hHeld => ?_)
                  clear hK K
                  (try simp only [Act.put, List.setIfInBounds_toArray, List.set_cons_zero, List.set_cons_succ])
                  refine tk (v := ?_) 11 ?_ ?_
                  rotate_left
                  · intro w hSw
                    go_simp
                    (try with_reducible rfl)
                  (try simp only [Act.put, List.setIfInBounds_toArray, List.set_cons_zero, List.set_cons_succ])
                  refine wpAnyH_done (by kernel_rfl) ?_ _
                  clear hHeld
                  go_wp2
                  go_meet
                  case rel => exact ⟨lb, rfl, rfl, H6⟩
                exact AllReadyH.nil
              exact AllReadyH.nil
            exact AllReadyH.nil
          refine anyH_one rfl (fun K hK => ?_) ?_
          · go_simp
            generalize hq9 : w2.alloc _ = w3
            have H3 := Lib.hid ((H2.out.new (b := w2.heap.size) rfl #[.int .u64 0, .bool false, .bool false, .bool false, .bool false, .int .u8 0] 71).world hq9)
            clear hq9 H2
            generalize w2.heap.size = lb at H3 ⊢
            refine hK.out _ _ ((H3.out.at_ 2 rfl)) (fun hHeld => ?_)
            clear hK K
            (try simp only [Act.put, List.setIfInBounds_toArray, List.set_cons_zero, List.set_cons_succ])
            refine wpAnyH_ready (rs := [4]) (by kernel_rfl) (by simp) ?_
            refine anyH_one rfl (fun K hK => ?_) ?_
            · go_simp
              refine (HK2.out _).mono ?_
              rintro e w4 ⟨rfl, hb⟩
              have H4 := Lib.hid (H3.out.quiet hb)
              clear hb H3
              refine hK.out _ _ ((H4.out.at_ 2 rfl)) (fun hHeld => ?_)
              clear hK K
              (try simp only [Act.put, List.setIfInBounds_toArray, List.set_cons_zero, List.set_cons_succ])
              refine wpAnyH_ready (rs := [5]) (by kernel_rfl) (by simp) ?_
              refine anyH_one rfl (fun K hK => ?_) ?_
              · go_simp
                refine (HGET.out _ H4.out.own).mono ?_
                rintro e w5 ⟨rfl, hb⟩
                have H5 := Lib.hid (H4.out.quiet hb)
                clear hb H4
                refine hK.out _ _ ((H5.out.at_ 2 rfl)) (fun hHeld => ?_)
                clear hK K
                (try simp only [Act.put, List.setIfInBounds_toArray, List.set_cons_zero, List.set_cons_succ])
                refine tk (v := ?_) 6 ?_ ?_
                rotate_left
                · intro w hSw
                  go_simp
                  (try with_reducible rfl)
                (try simp only [Act.put, List.setIfInBounds_toArray, List.set_cons_zero, List.set_cons_succ])
                refine tk (v := ?_) 7 ?_ ?_
                rotate_left
                · intro w hSw
                  go_simp
                  (try with_reducible rfl)
                (try simp only [Act.put, List.setIfInBounds_toArray, List.set_cons_zero, List.set_cons_succ])
                refine tk (v := ?_) 8 ?_ ?_
                rotate_left
                · intro w hSw
                  go_simp
                  (try with_reducible rfl)
                (try simp only [Act.put, List.setIfInBounds_toArray, List.set_cons_zero, List.set_cons_succ])
                refine wpAnyH_ready (rs := [10]) (by kernel_rfl) (by simp) ?_
                refine anyH_one rfl (fun K hK => ?_) ?_
                · obtain ⟨r0, r1, r2, r3, r4, r5⟩ := (H5.out.at_ 0 rfl).c6
                  have g0 := (H5.out.at_ 0 rfl).fz 0; have g1 := (H5.out.at_ 0 rfl).fz 1; have g2 := (H5.out.at_ 0 rfl).fz 2; have g3 := (H5.out.at_ 0 rfl).fz 3; have g4 := (H5.out.at_ 0 rfl).fz 4; have g5 := (H5.out.at_ 0 rfl).fz 5
                  go_simp
                  generalize hq9 : (((((w5.setCell _ _).setCell _ _).setCell _ _).setCell _ _).setCell _ _).setCell _ _ = w6
                  have H6 := Lib.hid ((H5.out.put 0 rfl (turnB6 _ _ _ _ _ _ _ _) (setB6 (H5.out.at_ 0 rfl) _ _ _ _ _ _)).world hq9)
                  clear hq9 H5 r0 g0 r1 g1 r2 g2 r3 g3 r4 g4 r5 g5
                  refine hK.out _ _ ((H6.out.at_ 2 rfl)) (fun hHeld => ?_)
                  clear hK K
                  (try simp only [Act.put, List.setIfInBounds_toArray, List.set_cons_zero, List.set_cons_succ])
                  refine tk (v := ?_) 11 ?_ ?_
                  rotate_left
                  · intro w hSw
                    go_simp
                    (try with_reducible rfl)
                  (try simp only [Act.put, List.setIfInBounds_toArray, List.set_cons_zero, List.set_cons_succ])
                  refine wpAnyH_done (by kernel_rfl) ?_ _
                  clear hHeld
                  go_wp2
                  go_meet
                  case rel => exact ⟨lb, rfl, rfl, H6⟩
                exact AllReadyH.nil
              exact AllReadyH.nil
            exact AllReadyH.nil
          exact AllReadyH.nil
        case rest =>
          obtain ⟨lb, rfl, rfl, H20⟩ := hcut
          clear H1
          generalize wc = w20 at *
          obtain ⟨q0, q1, q2, q3, q4, q5⟩ := (H20.out.at_ 0 rfl).c6
          go_upto_region 10 with fail
          generalize hq9 : w20.alloc _ = w21
          have H21 := Lib.hid ((H20.out.new (b := w20.heap.size) rfl #[.int .u64 0, .int .i64 2, .bool false, .bool false, .bool false, .bool false] 44).world hq9)
          clear hq9 H20 q0 q1 q2 q3 q4 q5
          generalize w20.heap.size = hb9 at *
          go_wp2
          go_roundw
          case rel => exact ⟨2, by omega, rfl, HN, H21.out.pick [2, 3]⟩
          case measure => simp [intOf]
      | some l =>
        obtain ⟨l0, l1, l2, l3, l4, l5⟩ := l
        have HE : Hid (ansT o = .tuple #[.agg #[.int .u64 l0, .int .i64 2, .bool l1, .bool l2, .bool l3, .bool l4], .bool true]) := Lib.hid (by rw [← HO.out, H2Y.out _ (HGS2.out _ hg)]; rfl)
        have HGET : Hid (∀ w1, PairsOwn w1 0 (.slice A n c) M → _) := Lib.hid fun w1 (h : PairsOwn w1 0 (.slice A n c) M) => rgetC_any w1 (.slice A n c) M S p 2 t2 l0 l5 l1 l2 l3 l4 h (Nat.le_trans HL.out (by decide)) (by rw [hg]; rfl) true (by rw [hg]; rfl)
        clear hg HO
        go_upto_region 4 with fail
        go_cut [9, 10] from 14 to 51 (fun s9 s10 w9 => ∃ lb : Nat, s9 = .pointer (some ⟨lb, 0, none⟩) ∧ s10 = .bool true ∧ Hid (Dv w w9 (.slice A n c) (.slice A n c) M [⟨lb, #[.int .u64 l0, .bool l1, .bool l2, .bool l3, .bool l4, .int .u8 l5], 71⟩, ⟨bc + 1, #[.int .u64 0, .int .i64 0, .bool false, .bool false, .bool false, .bool false], 44⟩, ⟨bc, #[.slice A n c, .int .i64 S], 28⟩]))
        case first =>
          have H2 := Lib.hid (H1.out.quiet (Kept.drew0 w1))
          clear H1
          refine wp_region_held_drew (S := fun w' => Blk w' bc #[.slice A n c, .int .i64 S] 28) (by kernel_rfl) (H2.out.at_ 1 rfl) (fun hHeld => ?_)
          generalize w1.drew = w2 at *
          refine tk (v := ?_) 0 ?_ ?_
          rotate_left
          · intro w hSw
            obtain ⟨a0, a1⟩ := hSw.c2
            go_simp
            (try with_reducible rfl)
          (try simp only [Act.put, List.setIfInBounds_toArray, List.set_cons_zero, List.set_cons_succ])
          refine tk (v := ?_) 1 ?_ ?_
          rotate_left
          · intro w hSw
            go_simp
            (try with_reducible rfl)
          (try simp only [Act.put, List.setIfInBounds_toArray, List.set_cons_zero, List.set_cons_succ])
          refine tk (v := ?_) 2 ?_ ?_
          rotate_left
          · intro w hSw
            go_simp
            (try with_reducible rfl)
          (try simp only [Act.put, List.setIfInBounds_toArray, List.set_cons_zero, List.set_cons_succ])
          refine tk (v := ?_) 3 ?_ ?_
          rotate_left
          · intro w hSw
            go_simp
            (try with_reducible rfl)
          (try simp only [Act.put, List.setIfInBounds_toArray, List.set_cons_zero, List.set_cons_succ])
          refine wpAnyH_ready (rs := [4, 9]) (by kernel_rfl) (by simp) ?_
          refine anyH_one rfl (fun K hK => ?_) ?_
          · go_simp
            refine (HK2.out _).mono ?_
            rintro e w3 ⟨rfl, hb⟩
            have H3 := Lib.hid (H2.out.quiet hb)
            clear hb H2
            refine hK.out _ _ ((H3.out.at_ 1 rfl)) (fun hHeld => ?_)
            clear hK K
            (try simp only [Act.put, List.setIfInBounds_toArray, List.set_cons_zero, List.set_cons_succ])
            refine wpAnyH_ready (rs := [5, 9]) (by kernel_rfl) (by simp) ?_
            refine anyH_one rfl (fun K hK => ?_) ?_
            · go_simp
              refine (HGET.out _ H3.out.own).mono ?_
              rintro e w4 ⟨rfl, hb⟩
              have H4 := Lib.hid (H3.out.quiet hb)
              clear hb H3
              refine hK.out _ _ ((H4.out.at_ 1 rfl)) (fun hHeld => ?_)
              clear hK K
              (try simp only [Act.put, List.setIfInBounds_toArray, List.set_cons_zero, List.set_cons_succ])
              refine tk (v := ?_) 6 ?_ ?_
              rotate_left
              · intro w hSw
                go_simp
                (try with_reducible rfl)
              (try simp only [Act.put, List.setIfInBounds_toArray, List.set_cons_zero, List.set_cons_succ])
              refine tk (v := ?_) 7 ?_ ?_
              rotate_left
              · intro w hSw
                go_simp
                (try with_reducible rfl)
              (try simp only [Act.put, List.setIfInBounds_toArray, List.set_cons_zero, List.set_cons_succ])
              refine tk (v := ?_) 8 ?_ ?_
              rotate_left
              · intro w hSw
                go_simp
                (try with_reducible rfl)
              (try simp only [Act.put, List.setIfInBounds_toArray, List.set_cons_zero, List.set_cons_succ])
              refine wpAnyH_ready (rs := [9]) (by kernel_rfl) (by simp) ?_
              refine anyH_one rfl (fun K hK => ?_) ?_
              · go_simp
                generalize hq9 : w4.alloc _ = w5
                have H5 := Lib.hid ((H4.out.new (b := w4.heap.size) rfl #[.int .u64 0, .bool false, .bool false, .bool false, .bool false, .int .u8 0] 71).world hq9)
                clear hq9 H4
                generalize w4.heap.size = lb at H5 ⊢
                refine hK.out _ _ ((H5.out.at_ 2 rfl)) (fun hHeld => ?_)
                clear hK K
                (try simp only [Act.put, List.setIfInBounds_toArray, List.set_cons_zero, List.set_cons_succ])
                refine wpAnyH_ready (rs := [10]) (by kernel_rfl) (by simp) ?_
                refine anyH_one rfl (fun K hK => ?_) ?_
                · obtain ⟨r0, r1, r2, r3, r4, r5⟩ := (H5.out.at_ 0 rfl).c6
                  have g0 := (H5.out.at_ 0 rfl).fz 0; have g1 := (H5.out.at_ 0 rfl).fz 1; have g2 := (H5.out.at_ 0 rfl).fz 2; have g3 := (H5.out.at_ 0 rfl).fz 3; have g4 := (H5.out.at_ 0 rfl).fz 4; have g5 := (H5.out.at_ 0 rfl).fz 5
                  go_simp
                  generalize hq9 : (((((w5.setCell _ _).setCell _ _).setCell _ _).setCell _ _).setCell _ _).setCell _ _ = w6
                  have H6 := Lib.hid ((H5.out.put 0 rfl (turnB6 _ _ _ _ _ _ _ _) (setB6 (H5.out.at_ 0 rfl) _ _ _ _ _ _)).world hq9)
                  clear hq9 H5 r0 g0 r1 g1 r2 g2 r3 g3 r4 g4 r5 g5
                  refine hK.out _ _ ((H6.out.at_ 2 rfl)) (fun hHeld => ?_)
                  clear hK K
                  (try simp only [Act.put, List.setIfInBounds_toArray, List.set_cons_zero, List.set_cons_succ])
                  refine tk (v := ?_) 11 ?_ ?_
                  rotate_left
                  · intro w hSw
                    go_simp
                    (try with_reducible rfl)
                  (try simp only [Act.put, List.setIfInBounds_toArray, List.set_cons_zero, List.set_cons_succ])
                  refine wpAnyH_done (by kernel_rfl) ?_ _
                  clear hHeld
                  go_wp2
                  go_meet
                  case rel => exact ⟨lb, rfl, rfl, H6⟩
                exact AllReadyH.nil
              exact AllReadyH.nil
            refine anyH_one rfl (fun K hK => ?_) ?_
            · go_simp
              generalize hq9 : w3.alloc _ = w4
              have H4 := Lib.hid ((H3.out.new (b := w3.heap.size) rfl #[.int .u64 0, .bool false, .bool false, .bool false, .bool false, .int .u8 0] 71).world hq9)
              clear hq9 H3
              generalize w3.heap.size = lb at H4 ⊢
              refine hK.out _ _ ((H4.out.at_ 2 rfl)) (fun hHeld => ?_)
              clear hK K
              (try simp only [Act.put, List.setIfInBounds_toArray, List.set_cons_zero, List.set_cons_succ])
              refine wpAnyH_ready (rs := [5]) (by kernel_rfl) (by simp) ?_
              refine anyH_one rfl (fun K hK => ?_) ?_
              · go_simp
                refine (HGET.out _ H4.out.own).mono ?_
                rintro e w5 ⟨rfl, hb⟩
                have H5 := Lib.hid (H4.out.quiet hb)
                clear hb H4
                refine hK.out _ _ ((H5.out.at_ 2 rfl)) (fun hHeld => ?_)
                clear hK K
                (try simp only [Act.put, List.setIfInBounds_toArray, List.set_cons_zero, List.set_cons_succ])
                refine tk (v := ?_) 6 ?_ ?_
                rotate_left
                · intro w hSw
                  go_simp
                  (try with_reducible rfl)
                (try simp only [Act.put, List.setIfInBounds_toArray, List.set_cons_zero, List.set_cons_succ])
                refine tk (v := ?_) 7 ?_ ?_
                rotate_left
                · intro w hSw
                  go_simp
                  (try with_reducible rfl)
                (try simp only [Act.put, List.setIfInBounds_toArray, List.set_cons_zero, List.set_cons_succ])
                refine tk (v := ?_) 8 ?_ ?_
                rotate_left
                · intro w hSw
                  go_simp
                  (try with_reducible rfl)
                (try simp only [Act.put, List.setIfInBounds_toArray, List.set_cons_zero, List.set_cons_succ])
                refine wpAnyH_ready (rs := [10]) (by kernel_rfl) (by simp) ?_
                refine anyH_one rfl (fun K hK => ?_) ?_
                · obtain ⟨r0, r1, r2, r3, r4, r5⟩ := (H5.out.at_ 0 rfl).c6
                  have g0 := (H5.out.at_ 0 rfl).fz 0; have g1 := (H5.out.at_ 0 rfl).fz 1; have g2 := (H5.out.at_ 0 rfl).fz 2; have g3 := (H5.out.at_ 0 rfl).fz 3; have g4 := (H5.out.at_ 0 rfl).fz 4; have g5 := (H5.out.at_ 0 rfl).fz 5
                  go_simp
                  generalize hq9 : (((((w5.setCell _ _).setCell _ _).setCell _ _).setCell _ _).setCell _ _).setCell _ _ = w6
                  have H6 := Lib.hid ((H5.out.put 0 rfl (turnB6 _ _ _ _ _ _ _ _) (setB6 (H5.out.at_ 0 rfl) _ _ _ _ _ _)).world hq9)
                  clear hq9 H5 r0 g0 r1 g1 r2 g2 r3 g3 r4 g4 r5 g5
                  refine hK.out _ _ ((H6.out.at_ 2 rfl)) (fun hHeld => ?_)
                  clear hK K
                  (try simp only [Act.put, List.setIfInBounds_toArray, List.set_cons_zero, List.set_cons_succ])
                  refine tk (v := ?_) 11 ?_ ?_
                  rotate_left
                  · intro w hSw
                    go_simp
                    (try with_reducible rfl)
                  (try simp only [Act.put, List.setIfInBounds_toArray, List.set_cons_zero, List.set_cons_succ])
                  refine wpAnyH_done (by kernel_rfl) ?_ _
                  clear hHeld
                  go_wp2
                  go_meet
                  case rel => exact ⟨lb, rfl, rfl, H6⟩
                exact AllReadyH.nil
              exact AllReadyH.nil
            exact AllReadyH.nil
          refine anyH_one rfl (fun K hK => ?_) ?_
          · go_simp
            generalize hq9 : w2.alloc _ = w3
            have H3 := Lib.hid ((H2.out.new (b := w2.heap.size) rfl #[.int .u64 0, .bool false, .bool false, .bool false, .bool false, .int .u8 0] 71).world hq9)
            clear hq9 H2
            generalize w2.heap.size = lb at H3 ⊢
            refine hK.out _ _ ((H3.out.at_ 2 rfl)) (fun hHeld => ?_)
            clear hK K
            (try simp only [Act.put, List.setIfInBounds_toArray, List.set_cons_zero, List.set_cons_succ])
            refine wpAnyH_ready (rs := [4]) (by kernel_rfl) (by simp) ?_
            refine anyH_one rfl (fun K hK => ?_) ?_
            · go_simp
              refine (HK2.out _).mono ?_
              rintro e w4 ⟨rfl, hb⟩
              have H4 := Lib.hid (H3.out.quiet hb)
              clear hb H3
              refine hK.out _ _ ((H4.out.at_ 2 rfl)) (fun hHeld => ?_)
              clear hK K
              (try simp only [Act.put, List.setIfInBounds_toArray, List.set_cons_zero, List.set_cons_succ])
              refine wpAnyH_ready (rs := [5]) (by kernel_rfl) (by simp) ?_
              refine anyH_one rfl (fun K hK => ?_) ?_
              · go_simp
                refine (HGET.out _ H4.out.own).mono ?_
                rintro e w5 ⟨rfl, hb⟩
                have H5 := Lib.hid (H4.out.quiet hb)
                clear hb H4
                refine hK.out _ _ ((H5.out.at_ 2 rfl)) (fun hHeld => ?_)
                clear hK K
                (try simp only [Act.put, List.setIfInBounds_toArray, List.set_cons_zero, List.set_cons_succ])
                refine tk (v := ?_) 6 ?_ ?_
                rotate_left
                · intro w hSw
                  go_simp
                  (try with_reducible rfl)
                (try simp only [Act.put, List.setIfInBounds_toArray, List.set_cons_zero, List.set_cons_succ])
                refine tk (v := ?_) 7 ?_ ?_
                rotate_left
                · intro w hSw
                  go_simp
                  (try with_reducible rfl)
                (try simp only [Act.put, List.setIfInBounds_toArray, List.set_cons_zero, List.set_cons_succ])
                refine tk (v := ?_) 8 ?_ ?_
                rotate_left
                · intro w hSw
                  go_simp
                  (try with_reducible rfl)
                (try simp only [Act.put, List.setIfInBounds_toArray, List.set_cons_zero, List.set_cons_succ])
                refine wpAnyH_ready (rs := [10]) (by kernel_rfl) (by simp) ?_
                refine anyH_one rfl (fun K hK => ?_) ?_
                · obtain ⟨r0, r1, r2, r3, r4, r5⟩ := (H5.out.at_ 0 rfl).c6
                  have g0 := (H5.out.at_ 0 rfl).fz 0; have g1 := (H5.out.at_ 0 rfl).fz 1; have g2 := (H5.out.at_ 0 rfl).fz 2; have g3 := (H5.out.at_ 0 rfl).fz 3; have g4 := (H5.out.at_ 0 rfl).fz 4; have g5 := (H5.out.at_ 0 rfl).fz 5
                  go_simp
                  generalize hq9 : (((((w5.setCell _ _).setCell _ _).setCell _ _).setCell _ _).setCell _ _).setCell _ _ = w6
                  have H6 := Lib.hid ((H5.out.put 0 rfl (turnB6 _ _ _ _ _ _ _ _) (setB6 (H5.out.at_ 0 rfl) _ _ _ _ _ _)).world hq9)
                  clear hq9 H5 r0 g0 r1 g1 r2 g2 r3 g3 r4 g4 r5 g5
                  refine hK.out _ _ ((H6.out.at_ 2 rfl)) (fun hHeld => ?_)
                  clear hK K
                  (try simp only [Act.put, List.setIfInBounds_toArray, List.set_cons_zero, List.set_cons_succ])
                  refine tk (v := ?_) 11 ?_ ?_
                  rotate_left
                  · intro w hSw
                    go_simp
                    (try with_reducible rfl)
                  (try simp only [Act.put, List.setIfInBounds_toArray, List.set_cons_zero, List.set_cons_succ])
                  refine wpAnyH_done (by kernel_rfl) ?_ _
                  clear hHeld
                  go_wp2
                  go_meet
                  case rel => exact ⟨lb, rfl, rfl, H6⟩
                exact AllReadyH.nil
              exact AllReadyH.nil
            exact AllReadyH.nil
          exact AllReadyH.nil
        case rest =>
          obtain ⟨lb, rfl, rfl, H20⟩ := hcut
          clear H1
          generalize wc = w20 at *
          obtain ⟨q0, q1, q2, q3, q4, q5⟩ := (H20.out.at_ 0 rfl).c6
          go_upto_region 10 with fail
          generalize hq9 : w20.alloc _ = w21
          have H21 := Lib.hid ((H20.out.new (b := w20.heap.size) rfl #[.int .u64 l0, .int .i64 2, .bool l1, .bool l2, .bool l3, .bool l4] 44).world hq9)
          clear hq9 H20 q0 q1 q2 q3 q4 q5
          generalize w20.heap.size = hb9 at *
          obtain ⟨r0, r1, r2, r3, r4, r5⟩ := (H21.out.at_ 0 rfl).c6
          obtain ⟨s0, s1, s2, s3, s4, s5⟩ := (H21.out.at_ 2 rfl).c6
          have g0 := (H21.out.at_ 2 rfl).fz 0; have g1 := (H21.out.at_ 2 rfl).fz 1; have g2 := (H21.out.at_ 2 rfl).fz 2; have g3 := (H21.out.at_ 2 rfl).fz 3; have g4 := (H21.out.at_ 2 rfl).fz 4; have g5 := (H21.out.at_ 2 rfl).fz 5
          go_wp2
          refine bodyPost_ret ?_ rfl ⟨by rw [HE.out], ?_⟩
          · rw [results_cell_tmp rfl]; go_simp
          · exact (by first | exact ((H21.out.m.put6 2 rfl rfl).below) | (rw [← HBC.out]; exact ((H21.out.m.put6 2 rfl rfl).below)))
    · cases hg : getK M (p, 3, t3) with
      | none =>
        have HN : Hid (fromT M p a 3 = o) := Lib.hid (by rw [← HO.out, (show fromT M p a 2 = fromT M p a 3 from HGN3.out hg)])
        have HGET : Hid (∀ w1, PairsOwn w1 0 (.slice A n c) M → _) := Lib.hid fun w1 (h : PairsOwn w1 0 (.slice A n c) M) => rgetC_any w1 (.slice A n c) M S p 3 t3 0 0 false false false false h (Nat.le_trans HL.out (by decide)) (by rw [hg]; rfl) false (by rw [hg]; rfl)
        clear hg HO
        go_upto_region 4 with fail
        go_cut [9, 10] from 14 to 51 (fun s9 s10 w9 => ∃ lb : Nat, s9 = .pointer (some ⟨lb, 0, none⟩) ∧ s10 = .bool false ∧ Hid (Dv w w9 (.slice A n c) (.slice A n c) M [⟨lb, #[.int .u64 0, .bool false, .bool false, .bool false, .bool false, .int .u8 0], 71⟩, ⟨bc + 1, #[.int .u64 0, .int .i64 0, .bool false, .bool false, .bool false, .bool false], 44⟩, ⟨bc, #[.slice A n c, .int .i64 S], 28⟩]))
        case first =>
          have H2 := Lib.hid (H1.out.quiet (Kept.drew0 w1))
          clear H1
          refine wp_region_held_drew (S := fun w' => Blk w' bc #[.slice A n c, .int .i64 S] 28) (by kernel_rfl) (H2.out.at_ 1 rfl) (fun hHeld => ?_)
          generalize w1.drew = w2 at *
          refine tk (v := ?_) 0 ?_ ?_
          rotate_left
          · intro w hSw
            obtain ⟨a0, a1⟩ := hSw.c2
            go_simp
            (try with_reducible rfl)
          (try simp only [Act.put, List.setIfInBounds_toArray, List.set_cons_zero, List.set_cons_succ])
          refine tk (v := ?_) 1 ?_ ?_
          rotate_left
          · intro w hSw
            go_simp
            (try with_reducible rfl)
          (try simp only [Act.put, List.setIfInBounds_toArray, List.set_cons_zero, List.set_cons_succ])
          refine tk (v := ?_) 2 ?_ ?_
          rotate_left
          · intro w hSw
            go_simp
            (try with_reducible rfl)
          (try simp only [Act.put, List.setIfInBounds_toArray, List.set_cons_zero, List.set_cons_succ])
          refine tk (v := ?_) 3 ?_ ?_
          rotate_left
          · intro w hSw
            go_simp
            (try with_reducible rfl)
          (try simp only [Act.put, List.setIfInBounds_toArray, List.set_cons_zero, List.set_cons_succ])
          refine wpAnyH_ready (rs := [4, 9]) (by kernel_rfl) (by simp) ?_
          refine anyH_one rfl (fun K hK => ?_) ?_
          · go_simp
            refine (HK3.out _).mono ?_
            rintro e w3 ⟨rfl, hb⟩
            have H3 := Lib.hid (H2.out.quiet hb)
            clear hb H2
            refine hK.out _ _ ((H3.out.at_ 1 rfl)) (fun hHeld => ?_)
            clear hK K
            (try simp only [Act.put, List.setIfInBounds_toArray, List.set_cons_zero, List.set_cons_succ])
            refine wpAnyH_ready (rs := [5, 9]) (by kernel_rfl) (by simp) ?_
            refine anyH_one rfl (fun K hK => ?_) ?_
            · go_simp
              refine (HGET.out _ H3.out.own).mono ?_
              rintro e w4 ⟨rfl, hb⟩
              have H4 := Lib.hid (H3.out.quiet hb)
              clear hb H3
              refine hK.out _ _ ((H4.out.at_ 1 rfl)) (fun hHeld => ?_)
              clear hK K
              (try simp only [Act.put, List.setIfInBounds_toArray, List.set_cons_zero, List.set_cons_succ])
              refine tk (v := ?_) 6 ?_ ?_
              rotate_left
              · intro w hSw
                go_simp
                (try with_reducible rfl)
              (try simp only [Act.put, List.setIfInBounds_toArray, List.set_cons_zero, List.set_cons_succ])
              refine tk (v := ?_) 7 ?_ ?_
              rotate_left
              · intro w hSw
                go_simp
                (try with_reducible rfl)
              (try simp only [Act.put, List.setIfInBounds_toArray, List.set_cons_zero, List.set_cons_succ])
              refine tk (v := ?_) 8 ?_ ?_
              rotate_left
              · intro w hSw
                go_simp
                (try with_reducible rfl)
              (try simp only [Act.put, List.setIfInBounds_toArray, List.set_cons_zero, List.set_cons_succ])
              refine wpAnyH_ready (rs := [9]) (by kernel_rfl) (by simp) ?_
              refine anyH_one rfl (fun K hK => ?_) ?_
              · go_simp
                generalize hq9 : w4.alloc _ = w5
                have H5 := Lib.hid ((H4.out.new (b := w4.heap.size) rfl #[.int .u64 0, .bool false, .bool false, .bool false, .bool false, .int .u8 0] 71).world hq9)
                clear hq9 H4
                generalize w4.heap.size = lb at H5 ⊢
                refine hK.out _ _ ((H5.out.at_ 2 rfl)) (fun hHeld => ?_)
                clear hK K
                (try simp only [Act.put, List.setIfInBounds_toArray, List.set_cons_zero, List.set_cons_succ])
                refine wpAnyH_ready (rs := [10]) (by kernel_rfl) (by simp) ?_
                refine anyH_one rfl (fun K hK => ?_) ?_
                · obtain ⟨r0, r1, r2, r3, r4, r5⟩ := (H5.out.at_ 0 rfl).c6
                  have g0 := (H5.out.at_ 0 rfl).fz 0; have g1 := (H5.out.at_ 0 rfl).fz 1; have g2 := (H5.out.at_ 0 rfl).fz 2; have g3 := (H5.out.at_ 0 rfl).fz 3; have g4 := (H5.out.at_ 0 rfl).fz 4; have g5 := (H5.out.at_ 0 rfl).fz 5
                  go_simp
                  generalize hq9 : (((((w5.setCell _ _).setCell _ _).setCell _ _).setCell _ _).setCell _ _).setCell _ _ = w6
                  have H6 := Lib.hid ((H5.out.put 0 rfl (turnB6 _ _ _ _ _ _ _ _) (setB6 (H5.out.at_ 0 rfl) _ _ _ _ _ _)).world hq9)
                  clear hq9 H5 r0 g0 r1 g1 r2 g2 r3 g3 r4 g4 r5 g5
                  refine hK.out _ _ ((H6.out.at_ 2 rfl)) (fun hHeld => ?_)
                  clear hK K
                  (try simp only [Act.put, List.setIfInBounds_toArray, List.set_cons_zero, List.set_cons_succ])
                  refine tk (v := ?_) 11 ?_ ?_
                  rotate_left
                  · intro w hSw
                    go_simp
                    (try with_reducible rfl)
                  (try simp only [Act.put, List.setIfInBounds_toArray, List.set_cons_zero, List.set_cons_succ])
                  refine wpAnyH_done (by kernel_rfl) ?_ _
                  clear hHeld
                  go_wp2
                  go_meet
                  case rel => exact ⟨lb, rfl, rfl, H6⟩
                exact AllReadyH.nil
              exact AllReadyH.nil
            refine anyH_one rfl (fun K hK => ?_) ?_
            · go_simp
              generalize hq9 : w3.alloc _ = w4
              have H4 := Lib.hid ((H3.out.new (b := w3.heap.size) rfl #[.int .u64 0, .bool false, .bool false, .bool false, .bool false, .int .u8 0] 71).world hq9)
              clear hq9 H3
              generalize w3.heap.size = lb at H4 ⊢
              refine hK.out _ _ ((H4.out.at_ 2 rfl)) (fun hHeld => ?_)
              clear hK K
              (try simp only [Act.put, List.setIfInBounds_toArray, List.set_cons_zero, List.set_cons_succ])
              refine wpAnyH_ready (rs := [5]) (by kernel_rfl) (by simp) ?_
              refine anyH_one rfl (fun K hK => ?_) ?_
              · go_simp
                refine (HGET.out _ H4.out.own).mono ?_
                rintro e w5 ⟨rfl, hb⟩
                have H5 := Lib.hid (H4.out.quiet hb)
                clear hb H4
                refine hK.out _ _ ((H5.out.at_ 2 rfl)) (fun hHeld => ?_)
                clear hK K
                (try simp only [Act.put, List.setIfInBounds_toArray, List.set_cons_zero, List.set_cons_succ])
                refine tk (v := ?_) 6 ?_ ?_
                rotate_left
                · intro w hSw
                  go_simp
                  (try with_reducible rfl)
                (try simp only [Act.put, List.setIfInBounds_toArray, List.set_cons_zero, List.set_cons_succ])
                refine tk (v := ?_) 7 ?_ ?_
                rotate_left
                · intro w hSw
                  go_simp
                  (try with_reducible rfl)
                (try simp only [Act.put, List.setIfInBounds_toArray, List.set_cons_zero, List.set_cons_succ])
                refine tk (v := ?_) 8 ?_ ?_
                rotate_left
                · intro w hSw
                  go_simp
                  (try with_reducible rfl)
                (try simp only [Act.put, List.setIfInBounds_toArray, List.set_cons_zero, List.set_cons_succ])
                refine wpAnyH_ready (rs := [10]) (by kernel_rfl) (by simp) ?_
                refine anyH_one rfl (fun K hK => ?_) ?_
                · obtain ⟨r0, r1, r2, r3, r4, r5⟩ := (H5.out.at_ 0 rfl).c6
                  have g0 := (H5.out.at_ 0 rfl).fz 0; have g1 := (H5.out.at_ 0 rfl).fz 1; have g2 := (H5.out.at_ 0 rfl).fz 2; have g3 := (H5.out.at_ 0 rfl).fz 3; have g4 := (H5.out.at_ 0 rfl).fz 4; have g5 := (H5.out.at_ 0 rfl).fz 5
                  go_simp
                  generalize hq9 : (((((w5.setCell _ _).setCell _ _).setCell _ _).setCell _ _).setCell _ _).setCell _ _ = w6
                  have H6 := Lib.hid ((H5.out.put 0 rfl (turnB6 _ _ _ _ _ _ _ _) (setB6 (H5.out.at_ 0 rfl) _ _ _ _ _ _)).world hq9)
                  clear hq9 H5 r0 g0 r1 g1 r2 g2 r3 g3 r4 g4 r5 g5
                  refine hK.out _ _ ((H6.out.at_ 2 rfl)) (fun hHeld => ?_)
                  clear hK K
                  (try simp only [Act.put, List.setIfInBounds_toArray, List.set_cons_zero, List.set_cons_succ])
                  refine tk (v := ?_) 11 ?_ ?_
                  rotate_left
                  · intro w hSw
                    go_simp
                    (try with_reducible rfl)
                  (try simp only [Act.put, List.setIfInBounds_toArray, List.set_cons_zero, List.set_cons_succ])
                  refine wpAnyH_done (by kernel_rfl) ?_ _
                  clear hHeld
                  go_wp2
                  go_meet
                  case rel => exact ⟨lb, rfl, rfl, H6⟩
                exact AllReadyH.nil
              exact AllReadyH.nil
            exact AllReadyH.nil
          refine anyH_one rfl (fun K hK => ?_) ?_
          · go_simp
            generalize hq9 : w2.alloc _ = w3
            have H3 := Lib.hid ((H2.out.new (b := w2.heap.size) rfl #[.int .u64 0, .bool false, .bool false, .bool false, .bool false, .int .u8 0] 71).world hq9)
            clear hq9 H2
            generalize w2.heap.size = lb at H3 ⊢
            refine hK.out _ _ ((H3.out.at_ 2 rfl)) (fun hHeld => ?_)
            clear hK K
            (try simp only [Act.put, List.setIfInBounds_toArray, List.set_cons_zero, List.set_cons_succ])
            refine wpAnyH_ready (rs := [4]) (by kernel_rfl) (by simp) ?_
            refine anyH_one rfl (fun K hK => ?_) ?_
            · go_simp
              refine (HK3.out _).mono ?_
              rintro e w4 ⟨rfl, hb⟩
              have H4 := Lib.hid (H3.out.quiet hb)
              clear hb H3
              refine hK.out _ _ ((H4.out.at_ 2 rfl)) (fun hHeld => ?_)
              clear hK K
              (try simp only [Act.put, List.setIfInBounds_toArray, List.set_cons_zero, List.set_cons_succ])
              refine wpAnyH_ready (rs := [5]) (by kernel_rfl) (by simp) ?_
              refine anyH_one rfl (fun K hK => ?_) ?_
              · go_simp
                refine (HGET.out _ H4.out.own).mono ?_
                rintro e w5 ⟨rfl, hb⟩
                have H5 := Lib.hid (H4.out.quiet hb)
                clear hb H4
                refine hK.out _ _ ((H5.out.at_ 2 rfl)) (fun hHeld => ?_)
                clear hK K
                (try simp only [Act.put, List.setIfInBounds_toArray, List.set_cons_zero, List.set_cons_succ])
                refine tk (v := ?_) 6 ?_ ?_
                rotate_left
                · intro w hSw
                  go_simp
                  (try with_reducible rfl)
                (try simp only [Act.put, List.setIfInBounds_toArray, List.set_cons_zero, List.set_cons_succ])
                refine tk (v := ?_) 7 ?_ ?_
                rotate_left
                · intro w hSw
                  go_simp
                  (try with_reducible rfl)
                (try simp only [Act.put, List.setIfInBounds_toArray, List.set_cons_zero, List.set_cons_succ])
                refine tk (v := ?_) 8 ?_ ?_
                rotate_left
                · intro w hSw
                  go_simp
                  (try with_reducible rfl)
                (try simp only [Act.put, List.setIfInBounds_toArray, List.set_cons_zero, List.set_cons_succ])
                refine wpAnyH_ready (rs := [10]) (by kernel_rfl) (by simp) ?_
                refine anyH_one rfl (fun K hK => ?_) ?_
                · obtain ⟨r0, r1, r2, r3, r4, r5⟩ := (H5.out.at_ 0 rfl).c6
                  have g0 := (H5.out.at_ 0 rfl).fz 0; have g1 := (H5.out.at_ 0 rfl).fz 1; have g2 := (H5.out.at_ 0 rfl).fz 2; have g3 := (H5.out.at_ 0 rfl).fz 3; have g4 := (H5.out.at_ 0 rfl).fz 4; have g5 := (H5.out.at_ 0 rfl).fz 5
                  go_simp
                  generalize hq9 : (((((w5.setCell _ _).setCell _ _).setCell _ _).setCell _ _).setCell _ _).setCell _ _ = w6
                  have H6 := Lib.hid ((H5.out.put 0 rfl (turnB6 _ _ _ _ _ _ _ _) (setB6 (H5.out.at_ 0 rfl) _ _ _ _ _ _)).world hq9)
                  clear hq9 H5 r0 g0 r1 g1 r2 g2 r3 g3 r4 g4 r5 g5
                  refine hK.out _ _ ((H6.out.at_ 2 rfl)) (fun hHeld => ?_)
                  clear hK K
                  (try simp only [Act.put, List.setIfInBounds_toArray, List.set_cons_zero, List.set_cons_succ])
                  refine tk (v := ?_) 11 ?_ ?_
                  rotate_left
                  · intro w hSw
                    go_simp
                    (try with_reducible rfl)
                  (try simp only [Act.put, List.setIfInBounds_toArray, List.set_cons_zero, List.set_cons_succ])
                  refine wpAnyH_done (by kernel_rfl) ?_ _
                  clear hHeld
                  go_wp2
                  go_meet
                  case rel => exact ⟨lb, rfl, rfl, H6⟩
                exact AllReadyH.nil
              exact AllReadyH.nil
            exact AllReadyH.nil
          exact AllReadyH.nil
        case rest =>
          obtain ⟨lb, rfl, rfl, H20⟩ := hcut
          clear H1
          generalize wc = w20 at *
          obtain ⟨q0, q1, q2, q3, q4, q5⟩ := (H20.out.at_ 0 rfl).c6
          go_upto_region 10 with fail
          generalize hq9 : w20.alloc _ = w21
          have H21 := Lib.hid ((H20.out.new (b := w20.heap.size) rfl #[.int .u64 0, .int .i64 3, .bool false, .bool false, .bool false, .bool false] 44).world hq9)
          clear hq9 H20 q0 q1 q2 q3 q4 q5
          generalize w20.heap.size = hb9 at *
          go_wp2
          go_roundw
          case rel => exact ⟨3, by omega, rfl, HN, H21.out.pick [2, 3]⟩
          case measure => simp [intOf]
      | some l =>
        obtain ⟨l0, l1, l2, l3, l4, l5⟩ := l
        have HE : Hid (ansT o = .tuple #[.agg #[.int .u64 l0, .int .i64 3, .bool l1, .bool l2, .bool l3, .bool l4], .bool true]) := Lib.hid (by rw [← HO.out, (show fromT M p a 2 = _ from HGS3.out _ hg)]; rfl)
        have HGET : Hid (∀ w1, PairsOwn w1 0 (.slice A n c) M → _) := Lib.hid fun w1 (h : PairsOwn w1 0 (.slice A n c) M) => rgetC_any w1 (.slice A n c) M S p 3 t3 l0 l5 l1 l2 l3 l4 h (Nat.le_trans HL.out (by decide)) (by rw [hg]; rfl) true (by rw [hg]; rfl)
        clear hg HO
        go_upto_region 4 with fail
        go_cut [9, 10] from 14 to 51 (fun s9 s10 w9 => ∃ lb : Nat, s9 = .pointer (some ⟨lb, 0, none⟩) ∧ s10 = .bool true ∧ Hid (Dv w w9 (.slice A n c) (.slice A n c) M [⟨lb, #[.int .u64 l0, .bool l1, .bool l2, .bool l3, .bool l4, .int .u8 l5], 71⟩, ⟨bc + 1, #[.int .u64 0, .int .i64 0, .bool false, .bool false, .bool false, .bool false], 44⟩, ⟨bc, #[.slice A n c, .int .i64 S], 28⟩]))
        case first =>
          have H2 := Lib.hid (H1.out.quiet (Kept.drew0 w1))
          clear H1
          refine wp_region_held_drew (S := fun w' => Blk w' bc #[.slice A n c, .int .i64 S] 28) (by kernel_rfl) (H2.out.at_ 1 rfl) (fun hHeld => ?_)
          generalize w1.drew = w2 at *
          refine tk (v := ?_) 0 ?_ ?_
          rotate_left
          · intro w hSw
            obtain ⟨a0, a1⟩ := hSw.c2
            go_simp
            (try with_reducible rfl)
          (try simp only [Act.put, List.setIfInBounds_toArray, List.set_cons_zero, List.set_cons_succ])
          refine tk (v := ?_) 1 ?_ ?_
          rotate_left
          · intro w hSw
            go_simp
            (try with_reducible rfl)
          (try simp only [Act.put, List.setIfInBounds_toArray, List.set_cons_zero, List.set_cons_succ])
          refine tk (v := ?_) 2 ?_ ?_
          rotate_left
          · intro w hSw
            go_simp
            (try with_reducible rfl)
          (try simp only [Act.put, List.setIfInBounds_toArray, List.set_cons_zero, List.set_cons_succ])
          refine tk (v := ?_) 3 ?_ ?_
          rotate_left
          · intro w hSw
            go_simp
            (try with_reducible rfl)
          (try simp only [Act.put, List.setIfInBounds_toArray, List.set_cons_zero, List.set_cons_succ])
          refine wpAnyH_ready (rs := [4, 9]) (by kernel_rfl) (by simp) ?_
          refine anyH_one rfl (fun K hK => ?_) ?_
          · go_simp
            refine (HK3.out _).mono ?_
            rintro e w3 ⟨rfl, hb⟩
            have H3 := Lib.hid (H2.out.quiet hb)
            clear hb H2
            refine hK.out _ _ ((H3.out.at_ 1 rfl)) (fun hHeld => ?_)
            clear hK K
            (try simp only [Act.put, List.setIfInBounds_toArray, List.set_cons_zero, List.set_cons_succ])
            refine wpAnyH_ready (rs := [5, 9]) (by kernel_rfl) (by simp) ?_
            refine anyH_one rfl (fun K hK => ?_) ?_
            · go_simp
              refine (HGET.out _ H3.out.own).mono ?_
              rintro e w4 ⟨rfl, hb⟩
              have H4 := Lib.hid (H3.out.quiet hb)
              clear hb H3
              refine hK.out _ _ ((H4.out.at_ 1 rfl)) (fun hHeld => ?_)
              clear hK K
              (try simp only [Act.put, List.setIfInBounds_toArray, List.set_cons_zero, List.set_cons_succ])
              refine tk (v := ?_) 6 ?_ ?_
              rotate_left
              · intro w hSw
                go_simp
                (try with_reducible rfl)
              (try simp only [Act.put, List.setIfInBounds_toArray, List.set_cons_zero, List.set_cons_succ])
              refine tk (v := ?_) 7 ?_ ?_
              rotate_left
              · intro w hSw
                go_simp
                (try with_reducible rfl)
              (try simp only [Act.put, List.setIfInBounds_toArray, List.set_cons_zero, List.set_cons_succ])
              refine tk (v := ?_) 8 ?_ ?_
              rotate_left
              · intro w hSw
                go_simp
                (try with_reducible rfl)
              (try simp only [Act.put, List.setIfInBounds_toArray, List.set_cons_zero, List.set_cons_succ])
              refine wpAnyH_ready (rs := [9]) (by kernel_rfl) (by simp) ?_
              refine anyH_one rfl (fun K hK => ?_) ?_
              · go_simp
                generalize hq9 : w4.alloc _ = w5
                have H5 := Lib.hid ((H4.out.new (b := w4.heap.size) rfl #[.int .u64 0, .bool false, .bool false, .bool false, .bool false, .int .u8 0] 71).world hq9)
                clear hq9 H4
                generalize w4.heap.size = lb at H5 ⊢
                refine hK.out _ _ ((H5.out.at_ 2 rfl)) (fun hHeld => ?_)
                clear hK K
                (try simp only [Act.put, List.setIfInBounds_toArray, List.set_cons_zero, List.set_cons_succ])
                refine wpAnyH_ready (rs := [10]) (by kernel_rfl) (by simp) ?_
                refine anyH_one rfl (fun K hK => ?_) ?_
                · obtain ⟨r0, r1, r2, r3, r4, r5⟩ := (H5.out.at_ 0 rfl).c6
                  have g0 := (H5.out.at_ 0 rfl).fz 0; have g1 := (H5.out.at_ 0 rfl).fz 1; have g2 := (H5.out.at_ 0 rfl).fz 2; have g3 := (H5.out.at_ 0 rfl).fz 3; have g4 := (H5.out.at_ 0 rfl).fz 4; have g5 := (H5.out.at_ 0 rfl).fz 5
                  go_simp
                  generalize hq9 : (((((w5.setCell _ _).setCell _ _).setCell _ _).setCell _ _).setCell _ _).setCell _ _ = w6
                  have H6 := Lib.hid ((H5.out.put 0 rfl (turnB6 _ _ _ _ _ _ _ _) (setB6 (H5.out.at_ 0 rfl) _ _ _ _ _ _)).world hq9)
                  clear hq9 H5 r0 g0 r1 g1 r2 g2 r3 g3 r4 g4 r5 g5
                  refine hK.out _ _ ((H6.out.at_ 2 rfl)) (fun hHeld => ?_)
                  clear hK K
                  (try simp only [Act.put, List.setIfInBounds_toArray, List.set_cons_zero, List.set_cons_succ])
                  refine tk (v := ?_) 11 ?_ ?_
                  rotate_left
                  · intro w hSw
                    go_simp
                    (try with_reducible rfl)
                  (try simp only [Act.put, List.setIfInBounds_toArray, List.set_cons_zero, List.set_cons_succ])
                  refine wpAnyH_done (by kernel_rfl) ?_ _
                  clear hHeld
                  go_wp2
                  go_meet
                  case rel => exact ⟨lb, rfl, rfl, H6⟩
                exact AllReadyH.nil
              exact AllReadyH.nil
            refine anyH_one rfl (fun K hK => ?_) ?_
            · go_simp
              generalize hq9 : w3.alloc _ = w4
              have H4 := Lib.hid ((H3.out.new (b := w3.heap.size) rfl #[.int .u64 0, .bool false, .bool false, .bool false, .bool false, .int .u8 0] 71).world hq9)
              clear hq9 H3
              generalize w3.heap.size = lb at H4 ⊢
              refine hK.out _ _ ((H4.out.at_ 2 rfl)) (fun hHeld => ?_)
              clear hK K
              (try simp only [Act.put, List.setIfInBounds_toArray, List.set_cons_zero, List.set_cons_succ])
              refine wpAnyH_ready (rs := [5]) (by kernel_rfl) (by simp) ?_
              refine anyH_one rfl (fun K hK => ?_) ?_
              · go_simp
                refine (HGET.out _ H4.out.own).mono ?_
                rintro e w5 ⟨rfl, hb⟩
                have H5 := Lib.hid (H4.out.quiet hb)
                clear hb H4
                refine hK.out _ _ ((H5.out.at_ 2 rfl)) (fun hHeld => ?_)
                clear hK K
                (try simp only [Act.put, List.setIfInBounds_toArray, List.set_cons_zero, List.set_cons_succ])
                refine tk (v := ?_) 6 ?_ ?_
                rotate_left
                · intro w hSw
                  go_simp
                  (try with_reducible rfl)
                (try simp only [Act.put, List.setIfInBounds_toArray, List.set_cons_zero, List.set_cons_succ])
                refine tk (v := ?_) 7 ?_ ?_
                rotate_left
                · intro w hSw
                  go_simp
                  (try with_reducible rfl)
                (try simp only [Act.put, List.setIfInBounds_toArray, List.set_cons_zero, List.set_cons_succ])
                refine tk (v := ?_) 8 ?_ ?_
                rotate_left
                · intro w hSw
                  go_simp
                  (try with_reducible rfl)
                (try simp only [Act.put, List.setIfInBounds_toArray, List.set_cons_zero, List.set_cons_succ])
                refine wpAnyH_ready (rs := [10]) (by kernel_rfl) (by simp) ?_
                refine anyH_one rfl (fun K hK => ?_) ?_
                · obtain ⟨r0, r1, r2, r3, r4, r5⟩ := (H5.out.at_ 0 rfl).c6
                  have g0 := (H5.out.at_ 0 rfl).fz 0; have g1 := (H5.out.at_ 0 rfl).fz 1; have g2 := (H5.out.at_ 0 rfl).fz 2; have g3 := (H5.out.at_ 0 rfl).fz 3; have g4 := (H5.out.at_ 0 rfl).fz 4; have g5 := (H5.out.at_ 0 rfl).fz 5
                  go_simp
                  generalize hq9 : (((((w5.setCell _ _).setCell _ _).setCell _ _).setCell _ _).setCell _ _).setCell _ _ = w6
                  have H6 := Lib.hid ((H5.out.put 0 rfl (turnB6 _ _ _ _ _ _ _ _) (setB6 (H5.out.at_ 0 rfl) _ _ _ _ _ _)).world hq9)
                  clear hq9 H5 r0 g0 r1 g1 r2 g2 r3 g3 r4 g4 r5 g5
                  refine hK.out _ _ ((H6.out.at_ 2 rfl)) (fun hHeld => ?_)
                  clear hK K
                  (try simp only [Act.put, List.setIfInBounds_toArray, List.set_cons_zero, List.set_cons_succ])
                  refine tk (v := ?_) 11 ?_ ?_
                  rotate_left
                  · intro w hSw
                    go_simp
                    (try with_reducible rfl)
                  (try simp only [Act.put, List.setIfInBounds_toArray, List.set_cons_zero, List.set_cons_succ])
                  refine wpAnyH_done (by kernel_rfl) ?_ _
                  clear hHeld
                  go_wp2
                  go_meet
                  case rel => exact ⟨lb, rfl, rfl, H6⟩
                exact AllReadyH.nil
              exact AllReadyH.nil
            exact AllReadyH.nil
          refine anyH_one rfl (fun K hK => ?_) ?_
          · go_simp
            generalize hq9 : w2.alloc _ = w3
            have H3 := Lib.hid ((H2.out.new (b := w2.heap.size) rfl #[.int .u64 0, .bool false, .bool false, .bool false, .bool false, .int .u8 0] 71).world hq9)
            clear hq9 H2
            generalize w2.heap.size = lb at H3 ⊢
            refine hK.out _ _ ((H3.out.at_ 2 rfl)) (fun hHeld => ?_)
            clear hK K
            (try simp only [Act.put, List.setIfInBounds_toArray, List.set_cons_zero, List.set_cons_succ])
            refine wpAnyH_ready (rs := [4]) (by kernel_rfl) (by simp) ?_
            refine anyH_one rfl (fun K hK => ?_) ?_
            · go_simp
              refine (HK3.out _).mono ?_
              rintro e w4 ⟨rfl, hb⟩
              have H4 := Lib.hid (H3.out.quiet hb)
              clear hb H3
              refine hK.out _ _ ((H4.out.at_ 2 rfl)) (fun hHeld => ?_)
              clear hK K
              (try simp only [Act.put, List.setIfInBounds_toArray, List.set_cons_zero, List.set_cons_succ])
              refine wpAnyH_ready (rs := [5]) (by kernel_rfl) (by simp) ?_
              refine anyH_one rfl (fun K hK => ?_) ?_
              · go_simp
                refine (HGET.out _ H4.out.own).mono ?_
                rintro e w5 ⟨rfl, hb⟩
                have H5 := Lib.hid (H4.out.quiet hb)
                clear hb H4
                refine hK.out _ _ ((H5.out.at_ 2 rfl)) (fun hHeld => ?_)
                clear hK K
                (try simp only [Act.put, List.setIfInBounds_toArray, List.set_cons_zero, List.set_cons_succ])
                refine tk (v := ?_) 6 ?_ ?_
                rotate_left
                · intro w hSw
                  go_simp
                  (try with_reducible rfl)
                (try simp only [Act.put, List.setIfInBounds_toArray, List.set_cons_zero, List.set_cons_succ])
                refine tk (v := ?_) 7 ?_ ?_
                rotate_left
                · intro w hSw
                  go_simp
                  (try with_reducible rfl)
                (try simp only [Act.put, List.setIfInBounds_toArray, List.set_cons_zero, List.set_cons_succ])
                refine tk (v := ?_) 8 ?_ ?_
                rotate_left
                · intro w hSw
                  go_simp
                  (try with_reducible rfl)
                (try simp only [Act.put, List.setIfInBounds_toArray, List.set_cons_zero, List.set_cons_succ])
                refine wpAnyH_ready (rs := [10]) (by kernel_rfl) (by simp) ?_
                refine anyH_one rfl (fun K hK => ?_) ?_
                · obtain ⟨r0, r1, r2, r3, r4, r5⟩ := (H5.out.at_ 0 rfl).c6
                  have g0 := (H5.out.at_ 0 rfl).fz 0; have g1 := (H5.out.at_ 0 rfl).fz 1; have g2 := (H5.out.at_ 0 rfl).fz 2; have g3 := (H5.out.at_ 0 rfl).fz 3; have g4 := (H5.out.at_ 0 rfl).fz 4; have g5 := (H5.out.at_ 0 rfl).fz 5
                  go_simp
                  generalize hq9 : (((((w5.setCell _ _).setCell _ _).setCell _ _).setCell _ _).setCell _ _).setCell _ _ = w6
                  have H6 := Lib.hid ((H5.out.put 0 rfl (turnB6 _ _ _ _ _ _ _ _) (setB6 (H5.out.at_ 0 rfl) _ _ _ _ _ _)).world hq9)
                  clear hq9 H5 r0 g0 r1 g1 r2 g2 r3 g3 r4 g4 r5 g5
                  refine hK.out _ _ ((H6.out.at_ 2 rfl)) (fun hHeld => ?_)
                  clear hK K
                  (try simp only [Act.put, List.setIfInBounds_toArray, List.set_cons_zero, List.set_cons_succ])
                  refine tk (v := ?_) 11 ?_ ?_
                  rotate_left
                  · intro w hSw
                    go_simp
                    (try with_reducible rfl)
                  (try simp only [Act.put, List.setIfInBounds_toArray, List.set_cons_zero, List.set_cons_succ])
                  refine wpAnyH_done (by kernel_rfl) ?_ _
                  clear hHeld
                  go_wp2
                  go_meet
                  case rel => exact ⟨lb, rfl, rfl, H6⟩
                exact AllReadyH.nil
              exact AllReadyH.nil
            exact AllReadyH.nil
          exact AllReadyH.nil
        case rest =>
          obtain ⟨lb, rfl, rfl, H20⟩ := hcut
          clear H1
          generalize wc = w20 at *
          obtain ⟨q0, q1, q2, q3, q4, q5⟩ := (H20.out.at_ 0 rfl).c6
          go_upto_region 10 with fail
          generalize hq9 : w20.alloc _ = w21
          have H21 := Lib.hid ((H20.out.new (b := w20.heap.size) rfl #[.int .u64 l0, .int .i64 3, .bool l1, .bool l2, .bool l3, .bool l4] 44).world hq9)
          clear hq9 H20 q0 q1 q2 q3 q4 q5
          generalize w20.heap.size = hb9 at *
          obtain ⟨r0, r1, r2, r3, r4, r5⟩ := (H21.out.at_ 0 rfl).c6
          obtain ⟨s0, s1, s2, s3, s4, s5⟩ := (H21.out.at_ 2 rfl).c6
          have g0 := (H21.out.at_ 2 rfl).fz 0; have g1 := (H21.out.at_ 2 rfl).fz 1; have g2 := (H21.out.at_ 2 rfl).fz 2; have g3 := (H21.out.at_ 2 rfl).fz 3; have g4 := (H21.out.at_ 2 rfl).fz 4; have g5 := (H21.out.at_ 2 rfl).fz 5
          go_wp2
          refine bodyPost_ret ?_ rfl ⟨by rw [HE.out], ?_⟩
          · rw [results_cell_tmp rfl]; go_simp
          · exact (by first | exact ((H21.out.m.put6 2 rfl rfl).below) | (rw [← HBC.out]; exact ((H21.out.m.put6 2 rfl rfl).below)))
    · have HE : Hid (ansT o = .tuple #[.agg #[.int .u64 0, .int .i64 0, .bool false, .bool false, .bool false, .bool false], .bool false]) := Lib.hid (by rw [← HO.out]; rfl)
      obtain ⟨s0, s1, s2, s3, s4, s5⟩ := (H1.out.at_ 0 rfl).c6
      have g0 := (H1.out.at_ 0 rfl).fz 0; have g1 := (H1.out.at_ 0 rfl).fz 1; have g2 := (H1.out.at_ 0 rfl).fz 2; have g3 := (H1.out.at_ 0 rfl).fz 3; have g4 := (H1.out.at_ 0 rfl).fz 4; have g5 := (H1.out.at_ 0 rfl).fz 5
      go_wp2
      refine bodyPost_ret ?_ rfl ⟨by rw [HE.out], ?_⟩
      · rw [results_cell_tmp rfl]; go_simp
      · exact (by first | exact ((H1.out.m.put6 0 rfl rfl).below) | (rw [← HBC.out]; exact ((H1.out.m.put6 0 rfl rfl).below)))
end Go.Proofs.YtddbjbdhbeijjaaDoor
