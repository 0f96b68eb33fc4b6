/- Several texts of ours in one: L12f, L12e, L12s. -/
import Derived.Test.YtmglikmphddicaaDoorGOlL12lL12m
import Derived.Test.YtmglikmphddicaaDoorGEsNgGs
import Derived.Test.YtmglikmphddicaaDoorGNhNkNm
import Derived.Test.YtmglikmphddicaaDoorGNnL12rOu
/- The walk of GroupFrames. (Laid by tools/gen_l12.py.) -/
namespace Go.Proofs.YtmglikmphddicaaDoor
set_option linter.unusedVariables false
set_option linter.unusedSimpArgs false
open Go.ChangeShapes Go.WideShapes Go.ChangeAt Go.RowKit Go.Joins

set_option maxRecDepth 100000 in
set_option maxHeartbeats 3200000 in
theorem groupFrames_walk (s : Sn) (w : World) (hs : OkS s) (hp : PagesT w) :
    Calls Tryd.prog 5 #[seenV s] w fun e w' => e = .returned (.bool true) ∧ Below w.heap.size w w' := by
  obtain ⟨r, hr⟩ : ∃ r, s.a.tmod 8 = r := ⟨_, rfl⟩
  have hrb := mod_bd s.a
  rw [hr] at hrb
  obtain ⟨r0, r7⟩ := hrb
  obtain ⟨a, ha⟩ : ∃ a, (r + 8) % 8 = a := ⟨_, rfl⟩
  have e2 : (r + 8).tmod 8 = a := (mod_up r0 r7).trans ha
  have a0 : 0 ≤ a := by omega
  have a7 : a ≤ 7 := by omega
  obtain ⟨s1, hs1⟩ : ∃ s1, ({ s with a := a } : Sn) = s1 := ⟨_, rfl⟩
  have ok1 : OkS s1 := by rw [← hs1]; exact hs.with_ ⟨by omega, by omega⟩
  have ea : s1.a = a := by rw [← hs1]
  have g0 : 0 ≤ s1.a := by omega
  have g7 : s1.a ≤ 7 := by omega
  have g8 : s1.a < 8 := by omega
  obtain ⟨xa, hxa⟩ : ∃ x, thW s1.X s1.a = x := ⟨_, rfl⟩
  have hx : W64 xa := by rw [← hxa]; exact ok1.at_ s1.a
  have q0 : xa.tmod 2 = xa % 2 := tmod_pos hx.1
  obtain ⟨b0, hb0⟩ : ∃ b, bitF xa 0 = b := ⟨_, rfl⟩
  have q1 : (xa % 2 == 0) = !b0 := by rw [bit0_even hx, hb0]
  obtain ⟨rs, hrs⟩ : ∃ r, resF xa 1 s1.b s1.n = r := ⟨_, rfl⟩
  have CRS : ∀ w', Calls Tryd.prog 20 #[.int .u64 xa, .int .i64 1, .int .i64 s1.b, .bool s1.n] w' fun e w'' => e = .returned (.bool rs) ∧ w' = w'' := fun w' => by
    have h := rres_any xa 1 s1.b s1.n w' hx; rwa [hrs] at h
  obtain ⟨l, hl⟩ : ∃ l, runF s1.X s1.a s1.b s1.n s1.W s1.U s1.Y = l := ⟨_, rfl⟩
  have hok : OkL l := by rw [← hl]; exact ok_run _ _ _ _ _ _ _
  have CR : ∀ w', PagesT w' → Calls Tryd.prog 11 #[seenV s1] w' fun e w'' => e = .returned (lineV l) ∧ Below w'.heap.size w' w'' := fun w' hp' => by
    have h := grun_any s1 w' ok1 hp'; unfold RunPost at h; rwa [hl] at h
  have hmap : mapW xa s1.b s1.n = (b0 && !rs) := by unfold mapW; rw [hb0, hrs]
  have HNO : Hid ((b0 && !rs) = false → l = zL) := Lib.hid fun h => by
    rw [← hl]; exact run_no (by rw [okRun_in g0 g7, hxa, hmap, h]) _ _ _
  have HYES : Hid ((b0 && !rs) = true → okRun s1.X s1.a s1.b s1.n = true) := Lib.hid fun h => by rw [okRun_in g0 g7, hxa, hmap, h]
  have hq0 : ∀ w', (binOp .eql 34 (.agg zeroC) (.agg zeroC)).run Tryd.prog w' = .ok (.bool true) w' := eqlC zL
  have HXA := Lib.hid hxa
  have HX := Lib.hid hx
  have HS1 := Lib.hid hs1
  have HO1 := Lib.hid ok1
  have HL := Lib.hid hl
  have HOK := Lib.hid hok
  have HT := Lib.hid hp
  have H0 := Lib.hid ((Mine.start w).new (b := w.heap.size) rfl (seenC s) 27)
  clear hp hs ok1 ha hl hok hxa hs1 ea hx hb0 hrs hmap
  go_enter Tryd.func5, Tryd.ntmps5
  go_upto_region 1 with fail
  generalize hw0 : w.alloc _ = w0
  have H1 := Lib.hid (H0.out.world hw0)
  clear hw0 H0
  go_upto_region 2 with (go_at_call 9; refine (awake12_any _ (pages_keep HT.out H1.out.below (Nat.le_refl _))).mono ?_; rintro e w2 ⟨rfl, hb⟩; have H2 := Lib.hid (H1.out.quiet hb); clear hb H1)
  have r8 := (cell_of_block (H2.out.at_ 0 rfl) 8).trans (show (seenC s)[8]? = some (.int .i64 s.a) from rfl)
  have f8 := (H2.out.at_ 0 rfl).fz 8
  go_upto_region 3 with fail
  generalize hw3 : w2.setCell _ _ = w3
  have H3 := Lib.hid (H2.out.putA 0 rfl hw3)
  clear hw3 H2 r8 f8
  rw [HS1.out] at H3
  have H4 : Hid (Mine w w3 [⟨w.heap.size, seenC s1, 27⟩] []) := H3
  clear H3 hr e2 r0 r7
  obtain ⟨c0, c1, c2, c3, c4, c5, c6, c7, c8, c9, c10, c11, c12, c13⟩ := (H4.out.at_ 0 rfl).seen
  go_upto_region 4 with (go_at_call 11; refine (CR _ (pages_keep HT.out H4.out.below (Nat.le_refl _))).mono ?_; rintro e w5 ⟨rfl, hb⟩; have H5 := Lib.hid (H4.out.quiet hb); clear hb H4 c0 c1 c2 c3 c4 c5 c6 c7 c8 c9 c10 c11 c12 c13)
  generalize hw6 : w5.alloc _ = w6
  have H6 := Lib.hid ((H5.out.new (b := w5.heap.size) rfl (lineC l) 34).world hw6)
  clear hw6 H5
  generalize w5.heap.size = bl at *
  have r8 := (cell_of_block (H6.out.at_ 1 rfl) 8).trans (show (seenC s1)[8]? = some (.int .i64 s1.a) from rfl)
  have ra := seen_word (H6.out.at_ 1 rfl) g0 g7
  rw [HXA.out] at ra
  have r12 := (cell_of_block (H6.out.at_ 1 rfl) 12).trans (show (seenC s1)[12]? = some (.int .i64 s1.b) from rfl)
  have r13 := (cell_of_block (H6.out.at_ 1 rfl) 13).trans (show (seenC s1)[13]? = some (.bool s1.n) from rfl)
  cases b0
  · have he : l = zL := by first | exact HNO.out rfl | exact HNO.out trivial | exact HNO.out
    clear HNO HYES
    subst he
    obtain ⟨l0, l1, l2, l3, l4, l5⟩ := (show Hid (Mine w w6 [⟨bl, zeroC, 34⟩, ⟨w.heap.size, seenC s1, 27⟩] []) from H6).out.at_ 0 rfl |>.line6
    go_wp2
    go_ret
    exact ⟨rfl, H6.out.below⟩
  · cases rs
    · have hyes : okRun s1.X s1.a s1.b s1.n = true := by first | exact HYES.out rfl | exact HYES.out trivial | exact HYES.out
      clear HNO HYES
      obtain ⟨fl, r1, r2, r3, d, mm⟩ := l
      have hl := HL.out
      rw [run_yes hyes, HXA.out] at hl
      have e1 : (s1.W && bitF xa 1) = r1 := congrArg (fun z : Ln => z.2.1) hl
      have e2 : (s1.U && bitF xa 2) = r2 := congrArg (fun z : Ln => z.2.2.1) hl
      have e3 : (s1.Y && !bitF xa 63) = r3 := congrArg (fun z : Ln => z.2.2.2.1) hl
      have e4 : bitF xa 6 = d := congrArg (fun z : Ln => z.2.2.2.2.1) hl
      have E1 := Lib.hid e1; have E2 := Lib.hid e2; have E3 := Lib.hid e3; have E4 := Lib.hid e4
      clear hl e1 e2 e3
      have hH : Mine w w6 [⟨bl, #[.int .u64 fl, .bool r1, .bool r2, .bool r3, .bool d, .int .u8 mm], 34⟩, ⟨w.heap.size, seenC s1, 27⟩] [] := H6.out
      have H7 := Lib.hid hH
      clear hH H6
      obtain ⟨fo, hfo⟩ : ∃ f, atG (fl, r1, r2, r3, d, mm) s1.a = f := ⟨_, rfl⟩
      have hown : hasG (fl, r1, r2, r3, d, mm) s1.a = true := by rw [← HL.out, has_run hyes _ _ _ g0 g7]; exact tog_own _ _ _ _
      have CH : ∀ w', PagesT w' → Calls Tryd.prog 14 #[.agg #[.int .u64 fl, .bool r1, .bool r2, .bool r3, .bool d, .int .u8 mm], .int .i64 s1.a] w' fun e w'' => e = .returned (.tuple #[.int .u64 fo, .bool true]) ∧ Below w'.heap.size w' w'' := fun w' hp' => by
        have h := ghas_any (fl, r1, r2, r3, d, mm) s1.a w' hp' HOK.out; rwa [hfo, hown] at h
      have p1 : xa.tdiv 64 = xa / 64 := tdiv_pos HX.out
      have p1w : IntKind.u64.wrap (xa / 64) = xa / 64 := wrap_quo HX.out (by decide)
      have p2 : (xa / 64).tmod 2 = xa / 64 % 2 := tmod_pos (by have := HX.out.1; omega)
      have p3 : (xa / 64 % 2 == 1) = d := by rw [bit6_odd HX.out, e4]
      clear hfo hown e4
      have HTG : Hid (∀ k : Nat, k < 8 → hasG (fl, r1, r2, r3, d, mm) k = togF s1.X s1.a s1.b s1.n k) := Lib.hid fun k hk => by rw [← HL.out]; exact has_run hyes _ _ _ (by omega) (by omega)
      have HPG : Hid (∀ k : Nat, k < 8 → togF s1.X s1.a s1.b s1.n k = true → atG (fl, r1, r2, r3, d, mm) k = tableF (thW s1.X k) ∧ bitF (thW s1.X k) 0 = true ∧ bitF (thW s1.X k) 1 = bitF (thW s1.X s1.a) 1 ∧ bitF (thW s1.X k) 2 = bitF (thW s1.X s1.a) 2 ∧ bitF (thW s1.X k) 63 = bitF (thW s1.X s1.a) 63 ∧ bitF (thW s1.X k) 6 = bitF (thW s1.X s1.a) 6 ∧ ((k : Int) ≠ s1.a → bitF (thW s1.X k) 5 = true)) := Lib.hid fun k hk ht => by rw [← HL.out]; exact run_page hyes _ _ _ (by omega) (by omega) ht
      clear HL
      obtain ⟨l0, l1, l2, l3, l4, l5⟩ := (H7.out.at_ 0 rfl).line6
      go_upto_region 8 with (first | (go_at_call 14; refine (CH _ (pages_keep HT.out H7.out.below (Nat.le_refl _))).mono ?_; rintro e w7 ⟨rfl, hb⟩; have H9 := Lib.hid (H7.out.quiet hb); clear hb H7 l0 l1 l2 l3 l4 l5 r8 ra r12 r13) | (go_at_call 20; refine (CRS _).mono ?_; rintro e w' ⟨rfl, rfl⟩))
      obtain ⟨l0, l1, l2, l3, l4, l5⟩ := (H9.out.at_ 0 rfl).line6
      go_wp2
      clear l0 l1 l2 l3 l4 l5 p1 p1w p2 p3 q0 q1
      go_loopw [8] (fun j wr => ∃ k : Nat, k ≤ 8 ∧ j = .int .i64 k ∧ Hid (Mine w wr [⟨bl, #[.int .u64 fl, .bool r1, .bool r2, .bool r3, .bool d, .int .u8 mm], 34⟩, ⟨w.heap.size, seenC s1, 27⟩] [])) (fun j _ => (8 - intOf j).toNat)
      case atStart => exact ⟨0, by omega, rfl, H9⟩
      case round =>
        obtain ⟨k, hk8, rfl, HR⟩ := hrel
        clear H9
        by_cases hlt : k < 8
        · have k0 : (0 : Int) ≤ k := by omega
          have k7 : (k : Int) ≤ 7 := by omega
          obtain ⟨l0, l1, l2, l3, l4, l5⟩ := (HR.out.at_ 0 rfl).line6
          have hh := HTG.out k hlt
          have CK := fun w' hp' => ghas_any (fl, r1, r2, r3, d, mm) (k : Int) w' hp' HOK.out
          obtain ⟨y, hyk⟩ : ∃ y, thW s1.X k = y := ⟨_, rfl⟩
          have hy : W64 y := by rw [← hyk]; exact HO1.out.at_ k
          have HYK := Lib.hid hyk
          cases ht : togF s1.X s1.a s1.b s1.n k
          · rw [ht] at hh
            have CK2 : ∀ w', PagesT w' → Calls Tryd.prog 14 #[.agg #[.int .u64 fl, .bool r1, .bool r2, .bool r3, .bool d, .int .u8 mm], .int .i64 (k : Int)] w' fun e w'' => e = .returned (.tuple #[.int .u64 0, .bool false]) ∧ Below w'.heap.size w' w'' := fun w' hp' => by
              have h := CK w' hp'; rwa [at_no hh, hh] at h
            clear CK hh ht hyk
            go_upto_region 14 with (go_at_call 14; refine (CK2 _ (pages_keep HT.out HR.out.below (Nat.le_refl _))).mono ?_; rintro e w8 ⟨rfl, hb⟩; have H8 := Lib.hid (HR.out.quiet hb); clear hb HR l0 l1 l2 l3 l4 l5)
            have rk := seen_word (H8.out.at_ 1 rfl) k0 k7
            rw [HYK.out] at rk
            simp only [Int.toNat_natCast] at rk
            go_upto_region 15 with fail
            clear rk
            refine wp_region_held_drew (S := fun w' => Mine w w' [⟨bl, #[.int .u64 fl, .bool r1, .bool r2, .bool r3, .bool d, .int .u8 mm], 34⟩, ⟨w.heap.size, seenC s1, 27⟩] []) (by kernel_rfl) ((H8.out.quiet (Kept.drew0 _))) (fun hHeld => ?_)
            have H20 := Lib.hid ((H8.out.quiet (Kept.drew0 _)))
            clear H8
            generalize w8.drew = w20 at *
            refine tk (v := ?_) 0 ?_ ?_
            rotate_left
            · intro w hSw
              go_simp
              (try with_reducible rfl)
            (try simp only [Act.put, List.setIfInBounds_toArray, List.set_cons_zero, List.set_cons_succ])
            refine tk (v := ?_) 1 ?_ ?_
            rotate_left
            · intro w hSw
              go_simp
              (try with_reducible rfl)
            (try simp only [Act.put, List.setIfInBounds_toArray, List.set_cons_zero, List.set_cons_succ])
            refine sk 2 ?_
            (try simp only [Act.put, List.setIfInBounds_toArray, List.set_cons_zero, List.set_cons_succ])
            refine sk 3 ?_
            (try simp only [Act.put, List.setIfInBounds_toArray, List.set_cons_zero, List.set_cons_succ])
            refine sk 4 ?_
            (try simp only [Act.put, List.setIfInBounds_toArray, List.set_cons_zero, List.set_cons_succ])
            refine sk 5 ?_
            (try simp only [Act.put, List.setIfInBounds_toArray, List.set_cons_zero, List.set_cons_succ])
            refine sk 6 ?_
            (try simp only [Act.put, List.setIfInBounds_toArray, List.set_cons_zero, List.set_cons_succ])
            refine sk 7 ?_
            (try simp only [Act.put, List.setIfInBounds_toArray, List.set_cons_zero, List.set_cons_succ])
            refine sk 8 ?_
            (try simp only [Act.put, List.setIfInBounds_toArray, List.set_cons_zero, List.set_cons_succ])
            refine sk 9 ?_
            (try simp only [Act.put, List.setIfInBounds_toArray, List.set_cons_zero, List.set_cons_succ])
            refine sk 10 ?_
            (try simp only [Act.put, List.setIfInBounds_toArray, List.set_cons_zero, List.set_cons_succ])
            refine sk 11 ?_
            (try simp only [Act.put, List.setIfInBounds_toArray, List.set_cons_zero, List.set_cons_succ])
            refine sk 12 ?_
            (try simp only [Act.put, List.setIfInBounds_toArray, List.set_cons_zero, List.set_cons_succ])
            refine sk 13 ?_
            (try simp only [Act.put, List.setIfInBounds_toArray, List.set_cons_zero, List.set_cons_succ])
            refine sk 14 ?_
            (try simp only [Act.put, List.setIfInBounds_toArray, List.set_cons_zero, List.set_cons_succ])
            refine sk 15 ?_
            (try simp only [Act.put, List.setIfInBounds_toArray, List.set_cons_zero, List.set_cons_succ])
            refine sk 16 ?_
            (try simp only [Act.put, List.setIfInBounds_toArray, List.set_cons_zero, List.set_cons_succ])
            refine sk 17 ?_
            (try simp only [Act.put, List.setIfInBounds_toArray, List.set_cons_zero, List.set_cons_succ])
            refine sk 18 ?_
            (try simp only [Act.put, List.setIfInBounds_toArray, List.set_cons_zero, List.set_cons_succ])
            refine sk 19 ?_
            (try simp only [Act.put, List.setIfInBounds_toArray, List.set_cons_zero, List.set_cons_succ])
            refine sk 20 ?_
            (try simp only [Act.put, List.setIfInBounds_toArray, List.set_cons_zero, List.set_cons_succ])
            refine sk 21 ?_
            (try simp only [Act.put, List.setIfInBounds_toArray, List.set_cons_zero, List.set_cons_succ])
            refine sk 22 ?_
            (try simp only [Act.put, List.setIfInBounds_toArray, List.set_cons_zero, List.set_cons_succ])
            refine sk 23 ?_
            (try simp only [Act.put, List.setIfInBounds_toArray, List.set_cons_zero, List.set_cons_succ])
            refine sk 24 ?_
            (try simp only [Act.put, List.setIfInBounds_toArray, List.set_cons_zero, List.set_cons_succ])
            refine sk 25 ?_
            (try simp only [Act.put, List.setIfInBounds_toArray, List.set_cons_zero, List.set_cons_succ])
            refine sk 26 ?_
            (try simp only [Act.put, List.setIfInBounds_toArray, List.set_cons_zero, List.set_cons_succ])
            refine sk 27 ?_
            (try simp only [Act.put, List.setIfInBounds_toArray, List.set_cons_zero, List.set_cons_succ])
            refine sk 28 ?_
            (try simp only [Act.put, List.setIfInBounds_toArray, List.set_cons_zero, List.set_cons_succ])
            refine sk 29 ?_
            (try simp only [Act.put, List.setIfInBounds_toArray, List.set_cons_zero, List.set_cons_succ])
            refine sk 30 ?_
            (try simp only [Act.put, List.setIfInBounds_toArray, List.set_cons_zero, List.set_cons_succ])
            refine sk 31 ?_
            (try simp only [Act.put, List.setIfInBounds_toArray, List.set_cons_zero, List.set_cons_succ])
            refine sk 32 ?_
            (try simp only [Act.put, List.setIfInBounds_toArray, List.set_cons_zero, List.set_cons_succ])
            refine sk 33 ?_
            (try simp only [Act.put, List.setIfInBounds_toArray, List.set_cons_zero, List.set_cons_succ])
            refine sk 34 ?_
            (try simp only [Act.put, List.setIfInBounds_toArray, List.set_cons_zero, List.set_cons_succ])
            refine sk 35 ?_
            (try simp only [Act.put, List.setIfInBounds_toArray, List.set_cons_zero, List.set_cons_succ])
            refine sk 36 ?_
            (try simp only [Act.put, List.setIfInBounds_toArray, List.set_cons_zero, List.set_cons_succ])
            refine sk 37 ?_
            (try simp only [Act.put, List.setIfInBounds_toArray, List.set_cons_zero, List.set_cons_succ])
            refine sk 38 ?_
            (try simp only [Act.put, List.setIfInBounds_toArray, List.set_cons_zero, List.set_cons_succ])
            refine sk 39 ?_
            (try simp only [Act.put, List.setIfInBounds_toArray, List.set_cons_zero, List.set_cons_succ])
            refine sk 40 ?_
            (try simp only [Act.put, List.setIfInBounds_toArray, List.set_cons_zero, List.set_cons_succ])
            refine tk (v := ?_) 41 ?_ ?_
            rotate_left
            · intro w hSw
              go_simp
              (try with_reducible rfl)
            (try simp only [Act.put, List.setIfInBounds_toArray, List.set_cons_zero, List.set_cons_succ])
            refine wpAnyH_done (by kernel_rfl) ?_ _
            clear hHeld
            go_wp2
            go_roundw
            case rel => exact ⟨k + 1, by omega, by go_num, H20⟩
            case measure => simp [intOf]; omega
          · rw [ht] at hh
            obtain ⟨t1, t2, t3, t4, t5, t6, t7⟩ := HPG.out k hlt ht
            rw [hyk] at t1 t2 t3 t4 t5 t6 t7
            rw [HXA.out] at t3 t4 t5 t6
            have CK2 : ∀ w', PagesT w' → Calls Tryd.prog 14 #[.agg #[.int .u64 fl, .bool r1, .bool r2, .bool r3, .bool d, .int .u8 mm], .int .i64 (k : Int)] w' fun e w'' => e = .returned (.tuple #[.int .u64 (tableF y), .bool true]) ∧ Below w'.heap.size w' w'' := fun w' hp' => by
              have h := CK w' hp'; rwa [hh, t1] at h
            have HAN : Hid (andV s1.W s1.U s1.Y y = rgtV r1 r2 r3) := Lib.hid (by show rgtV _ _ _ = _; rw [t3, t4, t5, E1.out, E2.out, E3.out])
            obtain ⟨ty, hty⟩ : ∃ t, tableF y = t := ⟨_, rfl⟩
            rw [hty] at CK2
            have HTY := Lib.hid hty
            have hq := neqG r1 r2 r3
            have n0 : y.tmod 2 = y % 2 := tmod_pos hy.1
            have n1 : (y % 2 == 0) = false := by rw [bit0_even hy, t2]; rfl
            have n2 : y.tdiv 64 = y / 64 := tdiv_pos hy
            have n2w : IntKind.u64.wrap (y / 64) = y / 64 := wrap_quo hy (by decide)
            have n5w : IntKind.u64.wrap (y / 32) = y / 32 := wrap_quo hy (by decide)
            have n3 : (y / 64).tmod 2 = y / 64 % 2 := tmod_pos (by have := hy.1; omega)
            have n4 : (y / 64 % 2 == 1) = d := by rw [bit6_odd hy, t6, E4.out]
            have n5 : y.tdiv 32 = y / 32 := tdiv_pos hy
            have n6 : (y / 32).tmod 2 = y / 32 % 2 := tmod_pos (by have := hy.1; omega)
            have HN7 : Hid ((k : Int) ≠ s1.a → (y / 32 % 2 == 0) = false) := Lib.hid fun h => by rw [bit5_even hy, t7 h]; rfl
            clear CK hh ht hyk hty t1 t2 t3 t4 t5 t6 t7
            go_upto_region 14 with (go_at_call 14; refine (CK2 _ (pages_keep HT.out HR.out.below (Nat.le_refl _))).mono ?_; rintro e w8 ⟨rfl, hb⟩; have H8 := Lib.hid (HR.out.quiet hb); clear hb HR l0 l1 l2 l3 l4 l5)
            have rk := seen_word (H8.out.at_ 1 rfl) k0 k7
            rw [HYK.out] at rk
            simp only [Int.toNat_natCast] at rk
            go_upto_region 15 with fail
            clear rk
            by_cases hka : (k : Int) = s1.a
            · have hne : ((k : Int) != s1.a) = false := by simp [hka]
              clear hka HN7
              refine wp_region_held_drew (S := fun w' => Mine w w' [⟨bl, #[.int .u64 fl, .bool r1, .bool r2, .bool r3, .bool d, .int .u8 mm], 34⟩, ⟨w.heap.size, seenC s1, 27⟩] []) (by kernel_rfl) ((H8.out.quiet (Kept.drew0 _))) (fun hHeld => ?_)
              have H20 := Lib.hid ((H8.out.quiet (Kept.drew0 _)))
              clear H8
              generalize w8.drew = w20 at *
              refine tk (v := ?_) 0 ?_ ?_
              rotate_left
              · intro w hSw
                go_simp
                (try with_reducible rfl)
              (try simp only [Act.put, List.setIfInBounds_toArray, List.set_cons_zero, List.set_cons_succ])
              refine tk (v := ?_) 1 ?_ ?_
              rotate_left
              · intro w hSw
                go_simp
                (try with_reducible rfl)
              (try simp only [Act.put, List.setIfInBounds_toArray, List.set_cons_zero, List.set_cons_succ])
              refine tk (v := ?_) 2 ?_ ?_
              rotate_left
              · intro w hSw
                go_simp
                (try with_reducible rfl)
              (try simp only [Act.put, List.setIfInBounds_toArray, List.set_cons_zero, List.set_cons_succ])
              refine tk (v := ?_) 3 ?_ ?_
              rotate_left
              · intro w hSw
                go_simp
                (try with_reducible rfl)
              (try simp only [Act.put, List.setIfInBounds_toArray, List.set_cons_zero, List.set_cons_succ])
              refine wpAnyH_ready (rs := [4]) (by kernel_rfl) (by simp) ?_
              refine anyH_one rfl (fun K hK => ?_) ?_
              · go_simp
                refine (callsB (rtable_any _ _ hy)).mono ?_
                rw [HTY.out]
                rintro e w21 ⟨rfl, hB21⟩
                have H21 := Lib.hid (H20.out.quiet hB21)
                clear H20
                refine hK.out _ _ (H21.out.pick [0, 1] []) (fun hHeld => ?_)
                clear hK K
                (try simp only [Act.put, List.setIfInBounds_toArray, List.set_cons_zero, List.set_cons_succ])
                refine tk (v := ?_) 5 ?_ ?_
                rotate_left
                · intro w hSw
                  go_simp
                  (try with_reducible rfl)
                (try simp only [Act.put, List.setIfInBounds_toArray, List.set_cons_zero, List.set_cons_succ])
                refine tk (v := ?_) 6 ?_ ?_
                rotate_left
                · intro w hSw
                  go_simp
                  (try with_reducible rfl)
                (try simp only [Act.put, List.setIfInBounds_toArray, List.set_cons_zero, List.set_cons_succ])
                refine tk (v := ?_) 7 ?_ ?_
                rotate_left
                · intro w hSw
                  go_simp
                  (try with_reducible rfl)
                (try simp only [Act.put, List.setIfInBounds_toArray, List.set_cons_zero, List.set_cons_succ])
                refine tk (v := ?_) 8 ?_ ?_
                rotate_left
                · intro w hSw
                  go_simp
                  (try with_reducible rfl)
                (try simp only [Act.put, List.setIfInBounds_toArray, List.set_cons_zero, List.set_cons_succ])
                refine tk (v := ?_) 9 ?_ ?_
                rotate_left
                · intro w hSw
                  go_simp
                  (try with_reducible rfl)
                (try simp only [Act.put, List.setIfInBounds_toArray, List.set_cons_zero, List.set_cons_succ])
                refine tk (v := ?_) 10 ?_ ?_
                rotate_left
                · intro w hSw
                  go_simp
                  (try with_reducible rfl)
                (try simp only [Act.put, List.setIfInBounds_toArray, List.set_cons_zero, List.set_cons_succ])
                refine tk (v := ?_) 11 ?_ ?_
                rotate_left
                · intro w hSw
                  go_simp
                  (try with_reducible rfl)
                (try simp only [Act.put, List.setIfInBounds_toArray, List.set_cons_zero, List.set_cons_succ])
                refine tk (v := ?_) 12 ?_ ?_
                rotate_left
                · intro w hSw
                  go_simp
                  (try with_reducible rfl)
                (try simp only [Act.put, List.setIfInBounds_toArray, List.set_cons_zero, List.set_cons_succ])
                refine tk (v := ?_) 13 ?_ ?_
                rotate_left
                · intro w hSw
                  obtain ⟨l0, l1, l2, l3, l4, l5⟩ := (hSw.at_ 0 rfl).line6
                  go_simp
                  (try with_reducible rfl)
                (try simp only [Act.put, List.setIfInBounds_toArray, List.set_cons_zero, List.set_cons_succ])
                refine tk (v := ?_) 14 ?_ ?_
                rotate_left
                · intro w hSw
                  go_simp
                  (try with_reducible rfl)
                (try simp only [Act.put, List.setIfInBounds_toArray, List.set_cons_zero, List.set_cons_succ])
                refine tk (v := ?_) 15 ?_ ?_
                rotate_left
                · intro w hSw
                  have r9 := (cell_of_block (hSw.at_ 1 rfl) 9).trans (show (seenC s1)[9]? = some (.bool s1.W) from rfl)
                  have r10 := (cell_of_block (hSw.at_ 1 rfl) 10).trans (show (seenC s1)[10]? = some (.bool s1.U) from rfl)
                  have r11 := (cell_of_block (hSw.at_ 1 rfl) 11).trans (show (seenC s1)[11]? = some (.bool s1.Y) from rfl)
                  go_simp
                  (try with_reducible rfl)
                (try simp only [Act.put, List.setIfInBounds_toArray, List.set_cons_zero, List.set_cons_succ])
                refine tk (v := ?_) 16 ?_ ?_
                rotate_left
                · intro w hSw
                  go_simp
                  (try with_reducible rfl)
                (try simp only [Act.put, List.setIfInBounds_toArray, List.set_cons_zero, List.set_cons_succ])
                refine wpAnyH_ready (rs := [17]) (by kernel_rfl) (by simp) ?_
                refine anyH_one rfl (fun K hK => ?_) ?_
                · go_simp
                  refine (and_any _ _ _ _ _).mono ?_
                  rw [HAN.out]
                  rintro e w22 ⟨rfl, hB22⟩
                  have H22 := Lib.hid (H21.out.quiet hB22)
                  clear H21
                  refine hK.out _ _ (H22.out.pick [0, 1] []) (fun hHeld => ?_)
                  clear hK K
                  (try simp only [Act.put, List.setIfInBounds_toArray, List.set_cons_zero, List.set_cons_succ])
                  refine tk (v := ?_) 18 ?_ ?_
                  rotate_left
                  · intro w hSw
                    go_simp
                    (try with_reducible rfl)
                  (try simp only [Act.put, List.setIfInBounds_toArray, List.set_cons_zero, List.set_cons_succ])
                  refine tk (v := ?_) 19 ?_ ?_
                  rotate_left
                  · intro w hSw
                    go_simp
                    (try with_reducible rfl)
                  (try simp only [Act.put, List.setIfInBounds_toArray, List.set_cons_zero, List.set_cons_succ])
                  refine tk (v := ?_) 20 ?_ ?_
                  rotate_left
                  · intro w hSw
                    go_simp
                    (try with_reducible rfl)
                  (try simp only [Act.put, List.setIfInBounds_toArray, List.set_cons_zero, List.set_cons_succ])
                  refine tk (v := ?_) 21 ?_ ?_
                  rotate_left
                  · intro w hSw
                    go_simp
                    (try with_reducible rfl)
                  (try simp only [Act.put, List.setIfInBounds_toArray, List.set_cons_zero, List.set_cons_succ])
                  refine tk (v := ?_) 22 ?_ ?_
                  rotate_left
                  · intro w hSw
                    go_simp
                    (try with_reducible rfl)
                  (try simp only [Act.put, List.setIfInBounds_toArray, List.set_cons_zero, List.set_cons_succ])
                  refine tk (v := ?_) 23 ?_ ?_
                  rotate_left
                  · intro w hSw
                    have r8 := (cell_of_block (hSw.at_ 1 rfl) 8).trans (show (seenC s1)[8]? = some (.int .i64 s1.a) from rfl)
                    go_simp
                    (try with_reducible rfl)
                  (try simp only [Act.put, List.setIfInBounds_toArray, List.set_cons_zero, List.set_cons_succ])
                  refine tk (v := ?_) 24 ?_ ?_
                  rotate_left
                  · intro w hSw
                    go_simp
                    (try with_reducible rfl)
                  (try simp only [Act.put, List.setIfInBounds_toArray, List.set_cons_zero, List.set_cons_succ])
                  refine tk (v := ?_) 25 ?_ ?_
                  rotate_left
                  · intro w hSw
                    go_simp
                    (try with_reducible rfl)
                  (try simp only [Act.put, List.setIfInBounds_toArray, List.set_cons_zero, List.set_cons_succ])
                  refine sk 26 ?_
                  (try simp only [Act.put, List.setIfInBounds_toArray, List.set_cons_zero, List.set_cons_succ])
                  refine sk 27 ?_
                  (try simp only [Act.put, List.setIfInBounds_toArray, List.set_cons_zero, List.set_cons_succ])
                  refine sk 28 ?_
                  (try simp only [Act.put, List.setIfInBounds_toArray, List.set_cons_zero, List.set_cons_succ])
                  refine sk 29 ?_
                  (try simp only [Act.put, List.setIfInBounds_toArray, List.set_cons_zero, List.set_cons_succ])
                  refine tk (v := ?_) 30 ?_ ?_
                  rotate_left
                  · intro w hSw
                    go_simp
                    (try with_reducible rfl)
                  (try simp only [Act.put, List.setIfInBounds_toArray, List.set_cons_zero, List.set_cons_succ])
                  refine tk (v := ?_) 31 ?_ ?_
                  rotate_left
                  · intro w hSw
                    go_simp
                    (try with_reducible rfl)
                  (try simp only [Act.put, List.setIfInBounds_toArray, List.set_cons_zero, List.set_cons_succ])
                  refine tk (v := ?_) 32 ?_ ?_
                  rotate_left
                  · intro w hSw
                    go_simp
                    (try with_reducible rfl)
                  (try simp only [Act.put, List.setIfInBounds_toArray, List.set_cons_zero, List.set_cons_succ])
                  refine tk (v := ?_) 33 ?_ ?_
                  rotate_left
                  · intro w hSw
                    go_simp
                    (try with_reducible rfl)
                  (try simp only [Act.put, List.setIfInBounds_toArray, List.set_cons_zero, List.set_cons_succ])
                  refine tk (v := ?_) 34 ?_ ?_
                  rotate_left
                  · intro w hSw
                    go_simp
                    (try with_reducible rfl)
                  (try simp only [Act.put, List.setIfInBounds_toArray, List.set_cons_zero, List.set_cons_succ])
                  refine tk (v := ?_) 35 ?_ ?_
                  rotate_left
                  · intro w hSw
                    go_simp
                    (try with_reducible rfl)
                  (try simp only [Act.put, List.setIfInBounds_toArray, List.set_cons_zero, List.set_cons_succ])
                  refine tk (v := ?_) 36 ?_ ?_
                  rotate_left
                  · intro w hSw
                    go_simp
                    (try with_reducible rfl)
                  (try simp only [Act.put, List.setIfInBounds_toArray, List.set_cons_zero, List.set_cons_succ])
                  refine tk (v := ?_) 37 ?_ ?_
                  rotate_left
                  · intro w hSw
                    go_simp
                    (try with_reducible rfl)
                  (try simp only [Act.put, List.setIfInBounds_toArray, List.set_cons_zero, List.set_cons_succ])
                  refine tk (v := ?_) 38 ?_ ?_
                  rotate_left
                  · intro w hSw
                    obtain ⟨l0, l1, l2, l3, l4, l5⟩ := (hSw.at_ 0 rfl).line6
                    go_simp
                    (try with_reducible rfl)
                  (try simp only [Act.put, List.setIfInBounds_toArray, List.set_cons_zero, List.set_cons_succ])
                  refine tk (v := ?_) 39 ?_ ?_
                  rotate_left
                  · intro w hSw
                    go_simp
                    (try with_reducible rfl)
                  (try simp only [Act.put, List.setIfInBounds_toArray, List.set_cons_zero, List.set_cons_succ])
                  refine tk (v := ?_) 40 ?_ ?_
                  rotate_left
                  · intro w hSw
                    go_simp
                    (try with_reducible rfl)
                  (try simp only [Act.put, List.setIfInBounds_toArray, List.set_cons_zero, List.set_cons_succ])
                  refine tk (v := ?_) 41 ?_ ?_
                  rotate_left
                  · intro w hSw
                    go_simp
                    (try with_reducible rfl)
                  (try simp only [Act.put, List.setIfInBounds_toArray, List.set_cons_zero, List.set_cons_succ])
                  refine wpAnyH_done (by kernel_rfl) ?_ _
                  clear hHeld
                  go_wp2
                  go_roundw
                  case rel => exact ⟨k + 1, by omega, by go_num, H22⟩
                  case measure => simp [intOf]; omega
                exact AllReadyH.nil
              exact AllReadyH.nil
            · have hne : ((k : Int) != s1.a) = true := by simp [hka]
              have n7 := HN7.out hka
              clear hka HN7
              refine wp_region_held_drew (S := fun w' => Mine w w' [⟨bl, #[.int .u64 fl, .bool r1, .bool r2, .bool r3, .bool d, .int .u8 mm], 34⟩, ⟨w.heap.size, seenC s1, 27⟩] []) (by kernel_rfl) ((H8.out.quiet (Kept.drew0 _))) (fun hHeld => ?_)
              have H20 := Lib.hid ((H8.out.quiet (Kept.drew0 _)))
              clear H8
              generalize w8.drew = w20 at *
              refine tk (v := ?_) 0 ?_ ?_
              rotate_left
              · intro w hSw
                go_simp
                (try with_reducible rfl)
              (try simp only [Act.put, List.setIfInBounds_toArray, List.set_cons_zero, List.set_cons_succ])
              refine tk (v := ?_) 1 ?_ ?_
              rotate_left
              · intro w hSw
                go_simp
                (try with_reducible rfl)
              (try simp only [Act.put, List.setIfInBounds_toArray, List.set_cons_zero, List.set_cons_succ])
              refine tk (v := ?_) 2 ?_ ?_
              rotate_left
              · intro w hSw
                go_simp
                (try with_reducible rfl)
              (try simp only [Act.put, List.setIfInBounds_toArray, List.set_cons_zero, List.set_cons_succ])
              refine tk (v := ?_) 3 ?_ ?_
              rotate_left
              · intro w hSw
                go_simp
                (try with_reducible rfl)
              (try simp only [Act.put, List.setIfInBounds_toArray, List.set_cons_zero, List.set_cons_succ])
              refine wpAnyH_ready (rs := [4]) (by kernel_rfl) (by simp) ?_
              refine anyH_one rfl (fun K hK => ?_) ?_
              · go_simp
                refine (callsB (rtable_any _ _ hy)).mono ?_
                rw [HTY.out]
                rintro e w21 ⟨rfl, hB21⟩
                have H21 := Lib.hid (H20.out.quiet hB21)
                clear H20
                refine hK.out _ _ (H21.out.pick [0, 1] []) (fun hHeld => ?_)
                clear hK K
                (try simp only [Act.put, List.setIfInBounds_toArray, List.set_cons_zero, List.set_cons_succ])
                refine tk (v := ?_) 5 ?_ ?_
                rotate_left
                · intro w hSw
                  go_simp
                  (try with_reducible rfl)
                (try simp only [Act.put, List.setIfInBounds_toArray, List.set_cons_zero, List.set_cons_succ])
                refine tk (v := ?_) 6 ?_ ?_
                rotate_left
                · intro w hSw
                  go_simp
                  (try with_reducible rfl)
                (try simp only [Act.put, List.setIfInBounds_toArray, List.set_cons_zero, List.set_cons_succ])
                refine tk (v := ?_) 7 ?_ ?_
                rotate_left
                · intro w hSw
                  go_simp
                  (try with_reducible rfl)
                (try simp only [Act.put, List.setIfInBounds_toArray, List.set_cons_zero, List.set_cons_succ])
                refine tk (v := ?_) 8 ?_ ?_
                rotate_left
                · intro w hSw
                  go_simp
                  (try with_reducible rfl)
                (try simp only [Act.put, List.setIfInBounds_toArray, List.set_cons_zero, List.set_cons_succ])
                refine tk (v := ?_) 9 ?_ ?_
                rotate_left
                · intro w hSw
                  go_simp
                  (try with_reducible rfl)
                (try simp only [Act.put, List.setIfInBounds_toArray, List.set_cons_zero, List.set_cons_succ])
                refine tk (v := ?_) 10 ?_ ?_
                rotate_left
                · intro w hSw
                  go_simp
                  (try with_reducible rfl)
                (try simp only [Act.put, List.setIfInBounds_toArray, List.set_cons_zero, List.set_cons_succ])
                refine tk (v := ?_) 11 ?_ ?_
                rotate_left
                · intro w hSw
                  go_simp
                  (try with_reducible rfl)
                (try simp only [Act.put, List.setIfInBounds_toArray, List.set_cons_zero, List.set_cons_succ])
                refine tk (v := ?_) 12 ?_ ?_
                rotate_left
                · intro w hSw
                  go_simp
                  (try with_reducible rfl)
                (try simp only [Act.put, List.setIfInBounds_toArray, List.set_cons_zero, List.set_cons_succ])
                refine tk (v := ?_) 13 ?_ ?_
                rotate_left
                · intro w hSw
                  obtain ⟨l0, l1, l2, l3, l4, l5⟩ := (hSw.at_ 0 rfl).line6
                  go_simp
                  (try with_reducible rfl)
                (try simp only [Act.put, List.setIfInBounds_toArray, List.set_cons_zero, List.set_cons_succ])
                refine tk (v := ?_) 14 ?_ ?_
                rotate_left
                · intro w hSw
                  go_simp
                  (try with_reducible rfl)
                (try simp only [Act.put, List.setIfInBounds_toArray, List.set_cons_zero, List.set_cons_succ])
                refine tk (v := ?_) 15 ?_ ?_
                rotate_left
                · intro w hSw
                  have r9 := (cell_of_block (hSw.at_ 1 rfl) 9).trans (show (seenC s1)[9]? = some (.bool s1.W) from rfl)
                  have r10 := (cell_of_block (hSw.at_ 1 rfl) 10).trans (show (seenC s1)[10]? = some (.bool s1.U) from rfl)
                  have r11 := (cell_of_block (hSw.at_ 1 rfl) 11).trans (show (seenC s1)[11]? = some (.bool s1.Y) from rfl)
                  go_simp
                  (try with_reducible rfl)
                (try simp only [Act.put, List.setIfInBounds_toArray, List.set_cons_zero, List.set_cons_succ])
                refine tk (v := ?_) 16 ?_ ?_
                rotate_left
                · intro w hSw
                  go_simp
                  (try with_reducible rfl)
                (try simp only [Act.put, List.setIfInBounds_toArray, List.set_cons_zero, List.set_cons_succ])
                refine wpAnyH_ready (rs := [17]) (by kernel_rfl) (by simp) ?_
                refine anyH_one rfl (fun K hK => ?_) ?_
                · go_simp
                  refine (and_any _ _ _ _ _).mono ?_
                  rw [HAN.out]
                  rintro e w22 ⟨rfl, hB22⟩
                  have H22 := Lib.hid (H21.out.quiet hB22)
                  clear H21
                  refine hK.out _ _ (H22.out.pick [0, 1] []) (fun hHeld => ?_)
                  clear hK K
                  (try simp only [Act.put, List.setIfInBounds_toArray, List.set_cons_zero, List.set_cons_succ])
                  refine tk (v := ?_) 18 ?_ ?_
                  rotate_left
                  · intro w hSw
                    go_simp
                    (try with_reducible rfl)
                  (try simp only [Act.put, List.setIfInBounds_toArray, List.set_cons_zero, List.set_cons_succ])
                  refine tk (v := ?_) 19 ?_ ?_
                  rotate_left
                  · intro w hSw
                    go_simp
                    (try with_reducible rfl)
                  (try simp only [Act.put, List.setIfInBounds_toArray, List.set_cons_zero, List.set_cons_succ])
                  refine tk (v := ?_) 20 ?_ ?_
                  rotate_left
                  · intro w hSw
                    go_simp
                    (try with_reducible rfl)
                  (try simp only [Act.put, List.setIfInBounds_toArray, List.set_cons_zero, List.set_cons_succ])
                  refine tk (v := ?_) 21 ?_ ?_
                  rotate_left
                  · intro w hSw
                    go_simp
                    (try with_reducible rfl)
                  (try simp only [Act.put, List.setIfInBounds_toArray, List.set_cons_zero, List.set_cons_succ])
                  refine tk (v := ?_) 22 ?_ ?_
                  rotate_left
                  · intro w hSw
                    go_simp
                    (try with_reducible rfl)
                  (try simp only [Act.put, List.setIfInBounds_toArray, List.set_cons_zero, List.set_cons_succ])
                  refine tk (v := ?_) 23 ?_ ?_
                  rotate_left
                  · intro w hSw
                    have r8 := (cell_of_block (hSw.at_ 1 rfl) 8).trans (show (seenC s1)[8]? = some (.int .i64 s1.a) from rfl)
                    go_simp
                    (try with_reducible rfl)
                  (try simp only [Act.put, List.setIfInBounds_toArray, List.set_cons_zero, List.set_cons_succ])
                  refine tk (v := ?_) 24 ?_ ?_
                  rotate_left
                  · intro w hSw
                    go_simp
                    (try with_reducible rfl)
                  (try simp only [Act.put, List.setIfInBounds_toArray, List.set_cons_zero, List.set_cons_succ])
                  refine tk (v := ?_) 25 ?_ ?_
                  rotate_left
                  · intro w hSw
                    go_simp
                    (try with_reducible rfl)
                  (try simp only [Act.put, List.setIfInBounds_toArray, List.set_cons_zero, List.set_cons_succ])
                  refine tk (v := ?_) 26 ?_ ?_
                  rotate_left
                  · intro w hSw
                    go_simp
                    (try with_reducible rfl)
                  (try simp only [Act.put, List.setIfInBounds_toArray, List.set_cons_zero, List.set_cons_succ])
                  refine tk (v := ?_) 27 ?_ ?_
                  rotate_left
                  · intro w hSw
                    go_simp
                    (try with_reducible rfl)
                  (try simp only [Act.put, List.setIfInBounds_toArray, List.set_cons_zero, List.set_cons_succ])
                  refine tk (v := ?_) 28 ?_ ?_
                  rotate_left
                  · intro w hSw
                    go_simp
                    (try with_reducible rfl)
                  (try simp only [Act.put, List.setIfInBounds_toArray, List.set_cons_zero, List.set_cons_succ])
                  refine tk (v := ?_) 29 ?_ ?_
                  rotate_left
                  · intro w hSw
                    go_simp
                    (try with_reducible rfl)
                  (try simp only [Act.put, List.setIfInBounds_toArray, List.set_cons_zero, List.set_cons_succ])
                  refine tk (v := ?_) 30 ?_ ?_
                  rotate_left
                  · intro w hSw
                    go_simp
                    (try with_reducible rfl)
                  (try simp only [Act.put, List.setIfInBounds_toArray, List.set_cons_zero, List.set_cons_succ])
                  refine tk (v := ?_) 31 ?_ ?_
                  rotate_left
                  · intro w hSw
                    go_simp
                    (try with_reducible rfl)
                  (try simp only [Act.put, List.setIfInBounds_toArray, List.set_cons_zero, List.set_cons_succ])
                  refine tk (v := ?_) 32 ?_ ?_
                  rotate_left
                  · intro w hSw
                    go_simp
                    (try with_reducible rfl)
                  (try simp only [Act.put, List.setIfInBounds_toArray, List.set_cons_zero, List.set_cons_succ])
                  refine tk (v := ?_) 33 ?_ ?_
                  rotate_left
                  · intro w hSw
                    go_simp
                    (try with_reducible rfl)
                  (try simp only [Act.put, List.setIfInBounds_toArray, List.set_cons_zero, List.set_cons_succ])
                  refine tk (v := ?_) 34 ?_ ?_
                  rotate_left
                  · intro w hSw
                    go_simp
                    (try with_reducible rfl)
                  (try simp only [Act.put, List.setIfInBounds_toArray, List.set_cons_zero, List.set_cons_succ])
                  refine tk (v := ?_) 35 ?_ ?_
                  rotate_left
                  · intro w hSw
                    go_simp
                    (try with_reducible rfl)
                  (try simp only [Act.put, List.setIfInBounds_toArray, List.set_cons_zero, List.set_cons_succ])
                  refine tk (v := ?_) 36 ?_ ?_
                  rotate_left
                  · intro w hSw
                    go_simp
                    (try with_reducible rfl)
                  (try simp only [Act.put, List.setIfInBounds_toArray, List.set_cons_zero, List.set_cons_succ])
                  refine tk (v := ?_) 37 ?_ ?_
                  rotate_left
                  · intro w hSw
                    go_simp
                    (try with_reducible rfl)
                  (try simp only [Act.put, List.setIfInBounds_toArray, List.set_cons_zero, List.set_cons_succ])
                  refine tk (v := ?_) 38 ?_ ?_
                  rotate_left
                  · intro w hSw
                    obtain ⟨l0, l1, l2, l3, l4, l5⟩ := (hSw.at_ 0 rfl).line6
                    go_simp
                    (try with_reducible rfl)
                  (try simp only [Act.put, List.setIfInBounds_toArray, List.set_cons_zero, List.set_cons_succ])
                  refine tk (v := ?_) 39 ?_ ?_
                  rotate_left
                  · intro w hSw
                    go_simp
                    (try with_reducible rfl)
                  (try simp only [Act.put, List.setIfInBounds_toArray, List.set_cons_zero, List.set_cons_succ])
                  refine tk (v := ?_) 40 ?_ ?_
                  rotate_left
                  · intro w hSw
                    go_simp
                    (try with_reducible rfl)
                  (try simp only [Act.put, List.setIfInBounds_toArray, List.set_cons_zero, List.set_cons_succ])
                  refine tk (v := ?_) 41 ?_ ?_
                  rotate_left
                  · intro w hSw
                    go_simp
                    (try with_reducible rfl)
                  (try simp only [Act.put, List.setIfInBounds_toArray, List.set_cons_zero, List.set_cons_succ])
                  refine wpAnyH_done (by kernel_rfl) ?_ _
                  clear hHeld
                  go_wp2
                  go_roundw
                  case rel => exact ⟨k + 1, by omega, by go_num, H22⟩
                  case measure => simp [intOf]; omega
                exact AllReadyH.nil
              exact AllReadyH.nil
        · obtain rfl : k = 8 := by omega
          go_wp2
          go_ret
          exact ⟨rfl, HR.out.below⟩
    · have he : l = zL := by first | exact HNO.out rfl | exact HNO.out trivial | exact HNO.out
      clear HNO HYES
      subst he
      obtain ⟨l0, l1, l2, l3, l4, l5⟩ := (show Hid (Mine w w6 [⟨bl, zeroC, 34⟩, ⟨w.heap.size, seenC s1, 27⟩] []) from H6).out.at_ 0 rfl |>.line6
      go_wp2_with (go_at_call 20; refine (CRS _).mono ?_; rintro e w' ⟨rfl, rfl⟩)
      go_ret
      exact ⟨rfl, H6.out.below⟩
end Go.Proofs.YtmglikmphddicaaDoor
/- The walk of GroupLess. (Laid by tools/gen_l12.py.) -/
namespace Go.Proofs.YtmglikmphddicaaDoor
set_option linter.unusedVariables false
set_option linter.unusedSimpArgs false
open Go.ChangeShapes Go.WideShapes Go.ChangeAt Go.RowKit Go.Joins

theorem tmod8 {i : Int} (h : 0 ≤ i) : i.tmod 8 = i % 8 := Int.tmod_eq_emod_of_nonneg h

set_option maxRecDepth 100000 in
set_option maxHeartbeats 3200000 in
theorem groupLess_walk (s : Sn) (i k : Int) (w : World) (hs : OkS s) (hp : PagesT w) (hi : U8 i) (hk : U8 k) :
    Calls Tryd.prog 7 #[seenV s, .int .u8 i, .int .u8 k] w fun e w' => e = .returned (.bool true) ∧ Below w.heap.size w w' := by
  obtain ⟨l, hl⟩ : ∃ l, runF s.X s.a s.b s.n s.W s.U s.Y = l := ⟨_, rfl⟩
  have hok : OkL l := by rw [← hl]; exact ok_run _ _ _ _ _ _ _
  have CR : ∀ w', PagesT w' → Calls Tryd.prog 11 #[seenV s] w' fun e w'' => e = .returned (lineV l) ∧ Below w'.heap.size w' w'' := fun w' hp' => by
    have h := grun_any s w' hs hp'; unfold RunPost at h; rwa [hl] at h
  obtain ⟨a, ha⟩ : ∃ a, i % 8 = a := ⟨_, rfl⟩
  obtain ⟨b, hb⟩ : ∃ b, k % 8 = b := ⟨_, rfl⟩
  have ea : i.tmod 8 = a := (tmod8 hi.1).trans ha
  have eb : k.tmod 8 = b := (tmod8 hk.1).trans hb
  have a0 : 0 ≤ a := by omega
  have a7 : a ≤ 7 := by omega
  have b0 : 0 ≤ b := by omega
  have b7 : b ≤ 7 := by omega
  obtain ⟨m, hm⟩ : ∃ m, wthG l a = m := ⟨_, rfl⟩
  have okm : OkL m := by rw [← hm]; exact ok_wth hok a
  obtain ⟨m2, hm2⟩ : ∃ z, wthG m b = z := ⟨_, rfl⟩
  have okm2 : OkL m2 := by rw [← hm2]; exact ok_wth okm b
  have hm3 : wthG m2 a = m2 := by rw [← hm2, ← hm]; exact wth_twice hok a b
  obtain ⟨f1, hf1⟩ : ∃ f, atG l b = f := ⟨_, rfl⟩
  obtain ⟨p1, hp1⟩ : ∃ f, hasG l b = f := ⟨_, rfl⟩
  obtain ⟨f2, hf2⟩ : ∃ f, atG m b = f := ⟨_, rfl⟩
  obtain ⟨p2, hp2⟩ : ∃ f, hasG m b = f := ⟨_, rfl⟩
  have hga : hasG m a = false := by rw [← hm, has_wth hok]; simp
  have hgb : a ≠ b → f2 = f1 ∧ p2 = p1 := fun h => by
    rw [← hf2, ← hp2, ← hm, at_wth hok h, has_wth hok, hf1, hp1, decide_eq_true h, Bool.and_true]; exact ⟨rfl, rfl⟩
  have CW : ∀ w', PagesT w' → Calls Tryd.prog 16 #[lineV l, .int .i64 a] w' fun e w'' => e = .returned (lineV m) ∧ Below w'.heap.size w' w'' := fun w' hp' => by
    have h := gwith_any l a w' hp' hok; rwa [hm] at h
  have CW2 : ∀ w', PagesT w' → Calls Tryd.prog 16 #[lineV m, .int .i64 b] w' fun e w'' => e = .returned (lineV m2) ∧ Below w'.heap.size w' w'' := fun w' hp' => by
    have h := gwith_any m b w' hp' okm; rwa [hm2] at h
  have CW3 : ∀ w', PagesT w' → Calls Tryd.prog 16 #[lineV m2, .int .i64 a] w' fun e w'' => e = .returned (lineV m2) ∧ Below w'.heap.size w' w'' := fun w' hp' => by
    have h := gwith_any m2 a w' hp' okm2; rwa [hm3] at h
  have CH0 : ∀ w', PagesT w' → Calls Tryd.prog 14 #[lineV m, .int .i64 a] w' fun e w'' => e = .returned (.tuple #[.int .u64 0, .bool false]) ∧ Below w'.heap.size w' w'' := fun w' hp' => by
    have h := ghas_any m a w' hp' okm; rwa [at_no hga, hga] at h
  have CH1 : ∀ w', PagesT w' → Calls Tryd.prog 14 #[lineV l, .int .i64 b] w' fun e w'' => e = .returned (.tuple #[.int .u64 f1, .bool p1]) ∧ Below w'.heap.size w' w'' := fun w' hp' => by
    have h := ghas_any l b w' hp' hok; rwa [hf1, hp1] at h
  have CH2 : ∀ w', PagesT w' → Calls Tryd.prog 14 #[lineV m, .int .i64 b] w' fun e w'' => e = .returned (.tuple #[.int .u64 f2, .bool p2]) ∧ Below w'.heap.size w' w'' := fun w' hp' => by
    have h := ghas_any m b w' hp' okm; rwa [hf2, hp2] at h
  have hq := eqlC m2
  have hq0 : ∀ w', (binOp .eql 34 (.agg zeroC) (.agg zeroC)).run Tryd.prog w' = .ok (.bool true) w' := eqlC zL
  have HOK := Lib.hid hok
  have HT := Lib.hid hp
  have HGB := Lib.hid hgb
  have H0 := Lib.hid ((Mine.start w).new (b := w.heap.size) rfl (seenC s) 27)
  clear hp hs hl hok ha hb hm okm hm2 okm2 hm3 hf1 hp1 hf2 hp2 hga hgb
  go_enter Tryd.func7, Tryd.ntmps7
  go_upto_region 1 with fail
  generalize hw0 : w.alloc _ = w0
  have H1 := Lib.hid (H0.out.world hw0)
  clear hw0 H0
  go_upto_region 2 with (go_at_call 9; refine (awake12_any _ (pages_keep HT.out H1.out.below (Nat.le_refl _))).mono ?_; rintro e w2 ⟨rfl, hb⟩; have H2 := Lib.hid (H1.out.quiet hb); clear hb H1)
  obtain ⟨c0, c1, c2, c3, c4, c5, c6, c7, c8, c9, c10, c11, c12, c13⟩ := (H2.out.at_ 0 rfl).seen
  go_upto_region 3 with (go_at_call 11; refine (CR _ (pages_keep HT.out H2.out.below (Nat.le_refl _))).mono ?_; rintro e w3 ⟨rfl, hb⟩; have H3 := Lib.hid (H2.out.quiet hb); clear hb H2 c0 c1 c2 c3 c4 c5 c6 c7 c8 c9 c10 c11 c12 c13)
  generalize hw4 : w3.alloc _ = w4
  have H4 := Lib.hid ((H3.out.new (b := w3.heap.size) rfl (lineC l) 34).world hw4)
  clear hw4 H3
  generalize w3.heap.size = bl at *
  obtain ⟨l0, l1, l2, l3, l4, l5⟩ := (H4.out.at_ 0 rfl).line6
  go_upto_region 6 with (go_at_call 16; refine (CW _ (pages_keep HT.out H4.out.below (Nat.le_refl _))).mono ?_; rintro e w5 ⟨rfl, hb⟩; have H5 := Lib.hid (H4.out.quiet hb); clear hb H4)
  clear l0 l1 l2 l3 l4 l5
  generalize hw6 : w5.alloc _ = w6
  have H6 := Lib.hid ((H5.out.new (b := w5.heap.size) rfl (lineC m) 34).world hw6)
  clear hw6 H5
  generalize w5.heap.size = bm at *
  obtain ⟨m0, m1, m2', m3, m4, m5⟩ := (H6.out.at_ 0 rfl).line6
  go_upto_region 7 with (go_at_call 14; refine (CH0 _ (pages_keep HT.out H6.out.below (Nat.le_refl _))).mono ?_; rintro e w7 ⟨rfl, hb⟩; have H7 := Lib.hid (H6.out.quiet hb); clear hb H6)
  clear m0 m1 m2' m3 m4 m5
  obtain ⟨l0, l1, l2, l3, l4, l5⟩ := (H7.out.at_ 1 rfl).line6
  go_upto_region 8 with (go_at_call 14; refine (CH1 _ (pages_keep HT.out H7.out.below (Nat.le_refl _))).mono ?_; rintro e w8 ⟨rfl, hb⟩; have H8 := Lib.hid (H7.out.quiet hb); clear hb H7)
  clear l0 l1 l2 l3 l4 l5
  obtain ⟨m0, m1, m2', m3, m4, m5⟩ := (H8.out.at_ 0 rfl).line6
  go_upto_region 9 with (go_at_call 14; refine (CH2 _ (pages_keep HT.out H8.out.below (Nat.le_refl _))).mono ?_; rintro e w9 ⟨rfl, hb⟩; have H9 := Lib.hid (H8.out.quiet hb); clear hb H8)
  clear m0 m1 m2' m3 m4 m5
  go_wp2
  go_loopw [18] (fun j wr => ∃ k : Nat, k ≤ 8 ∧ j = .int .i64 k ∧ Hid (Mine w wr [⟨bm, lineC m, 34⟩, ⟨bl, lineC (itG l k), 34⟩, ⟨w.heap.size, seenC s, 27⟩] [])) (fun j _ => (8 - intOf j).toNat)
  case atStart => exact ⟨0, by omega, rfl, H9⟩
  case round =>
    obtain ⟨k, hk8, rfl, HR⟩ := hrel
    clear H9
    by_cases hlt : k < 8
    · obtain ⟨lk, hlk⟩ : ∃ lk, itG l k = lk := ⟨_, rfl⟩
      obtain ⟨ln, hln⟩ : ∃ ln, itG l (k + 1) = ln := ⟨_, rfl⟩
      have CK : ∀ w', PagesT w' → Calls Tryd.prog 16 #[lineV lk, .int .i64 (k : Int)] w' fun e w'' => e = .returned (lineV ln) ∧ Below w'.heap.size w' w'' := fun w' hp' => by
        have h := gwith_any (itG l k) k w' hp' (ok_it HOK.out k)
        rw [show wthG (itG l k) (k : Int) = ln from hln, hlk] at h
        exact h
      have HLN := Lib.hid hln
      rw [hlk] at HR
      clear hlk hln
      obtain ⟨l0, l1, l2, l3, l4, l5⟩ := (HR.out.at_ 1 rfl).line6
      have f0 := (HR.out.at_ 1 rfl).fz 0; have f1' := (HR.out.at_ 1 rfl).fz 1; have f2' := (HR.out.at_ 1 rfl).fz 2; have f3 := (HR.out.at_ 1 rfl).fz 3; have f4 := (HR.out.at_ 1 rfl).fz 4; have f5 := (HR.out.at_ 1 rfl).fz 5
      go_upto_region 11 with (go_at_call 16; refine (CK _ (pages_keep HT.out HR.out.below (Nat.le_refl _))).mono ?_; rintro e w10 ⟨rfl, hb⟩; have H10 := Lib.hid (HR.out.quiet hb); clear hb HR l0 l1 l2 l3 l4 l5 f0 f1' f2' f3 f4 f5; obtain ⟨l0, l1, l2, l3, l4, l5⟩ := (H10.out.at_ 1 rfl).line6; have f0 := (H10.out.at_ 1 rfl).fz 0; have f1' := (H10.out.at_ 1 rfl).fz 1; have f2' := (H10.out.at_ 1 rfl).fz 2; have f3 := (H10.out.at_ 1 rfl).fz 3; have f4 := (H10.out.at_ 1 rfl).fz 4; have f5 := (H10.out.at_ 1 rfl).fz 5)
      generalize hw11 : (((((w10.setCell _ _).setCell _ _).setCell _ _).setCell _ _).setCell _ _).setCell _ _ = w11
      have H11 := Lib.hid (H10.out.put6 1 rfl hw11)
      clear hw11 H10 l0 l1 l2 l3 l4 l5 f0 f1' f2' f3 f4 f5
      go_wp2
      go_roundw
      case rel => exact ⟨k + 1, by omega, by go_num, by rw [HLN.out]; exact H11⟩
      case measure => simp [intOf]; omega
    · obtain rfl : k = 8 := by omega
      rw [it_zero HOK.out] at HR
      have H12 : Hid (Mine w wr [⟨bm, lineC m, 34⟩, ⟨bl, zeroC, 34⟩, ⟨w.heap.size, seenC s, 27⟩] []) := HR
      clear HR
      obtain ⟨g, hg⟩ : ∃ g, (a != b) = g := ⟨_, rfl⟩
      cases g
      · go_upto_region 15 with fail
        clear hg
        refine wp_region_held_drew (S := fun w' => Mine w w' [⟨bm, lineC m, 34⟩, ⟨bl, zeroC, 34⟩] []) (by kernel_rfl) ((H12.out.quiet (Kept.drew0 _)).pick [0, 1] []) (fun hHeld => ?_)
        have H20 := Lib.hid ((H12.out.quiet (Kept.drew0 _)).pick [0, 1] [])
        clear H12
        generalize wr.drew = w20 at *
        refine tk (v := ?_) 0 ?_ ?_
        rotate_left
        · intro w hSw
          go_simp
          (try with_reducible rfl)
        (try simp only [Act.put, List.setIfInBounds_toArray, List.set_cons_zero, List.set_cons_succ])
        refine tk (v := ?_) 1 ?_ ?_
        rotate_left
        · intro w hSw
          go_simp
          (try with_reducible rfl)
        (try simp only [Act.put, List.setIfInBounds_toArray, List.set_cons_zero, List.set_cons_succ])
        refine tk (v := ?_) 2 ?_ ?_
        rotate_left
        · intro w hSw
          go_simp
          (try with_reducible rfl)
        (try simp only [Act.put, List.setIfInBounds_toArray, List.set_cons_zero, List.set_cons_succ])
        refine tk (v := ?_) 3 ?_ ?_
        rotate_left
        · intro w hSw
          go_simp
          (try with_reducible rfl)
        (try simp only [Act.put, List.setIfInBounds_toArray, List.set_cons_zero, List.set_cons_succ])
        refine tk (v := ?_) 4 ?_ ?_
        rotate_left
        · intro w hSw
          go_simp
          (try with_reducible rfl)
        (try simp only [Act.put, List.setIfInBounds_toArray, List.set_cons_zero, List.set_cons_succ])
        refine tk (v := ?_) 5 ?_ ?_
        rotate_left
        · intro w hSw
          go_simp
          (try with_reducible rfl)
        (try simp only [Act.put, List.setIfInBounds_toArray, List.set_cons_zero, List.set_cons_succ])
        refine tk (v := ?_) 6 ?_ ?_
        rotate_left
        · intro w hSw
          obtain ⟨z0, z1, z2, z3, z4, z5⟩ := (hSw.at_ 1 rfl).line6
          go_simp
          (try with_reducible rfl)
        (try simp only [Act.put, List.setIfInBounds_toArray, List.set_cons_zero, List.set_cons_succ])
        refine tk (v := ?_) 7 ?_ ?_
        rotate_left
        · intro w hSw
          go_simp
          (try with_reducible rfl)
        (try simp only [Act.put, List.setIfInBounds_toArray, List.set_cons_zero, List.set_cons_succ])
        refine tk (v := ?_) 8 ?_ ?_
        rotate_left
        · intro w hSw
          go_simp
          (try with_reducible rfl)
        (try simp only [Act.put, List.setIfInBounds_toArray, List.set_cons_zero, List.set_cons_succ])
        refine tk (v := ?_) 9 ?_ ?_
        rotate_left
        · intro w hSw
          go_simp
          (try with_reducible rfl)
        (try simp only [Act.put, List.setIfInBounds_toArray, List.set_cons_zero, List.set_cons_succ])
        refine tk (v := ?_) 10 ?_ ?_
        rotate_left
        · intro w hSw
          go_simp
          (try with_reducible rfl)
        (try simp only [Act.put, List.setIfInBounds_toArray, List.set_cons_zero, List.set_cons_succ])
        refine tk (v := ?_) 11 ?_ ?_
        rotate_left
        · intro w hSw
          obtain ⟨l0, l1, l2, l3, l4, l5⟩ := (hSw.at_ 0 rfl).line6
          go_simp
          (try with_reducible rfl)
        (try simp only [Act.put, List.setIfInBounds_toArray, List.set_cons_zero, List.set_cons_succ])
        refine tk (v := ?_) 12 ?_ ?_
        rotate_left
        · intro w hSw
          go_simp
          (try with_reducible rfl)
        (try simp only [Act.put, List.setIfInBounds_toArray, List.set_cons_zero, List.set_cons_succ])
        refine tk (v := ?_) 14 ?_ ?_
        rotate_left
        · intro w hSw
          go_simp
          (try with_reducible rfl)
        (try simp only [Act.put, List.setIfInBounds_toArray, List.set_cons_zero, List.set_cons_succ])
        refine tk (v := ?_) 16 ?_ ?_
        rotate_left
        · intro w hSw
          obtain ⟨l0, l1, l2, l3, l4, l5⟩ := (hSw.at_ 0 rfl).line6
          go_simp
          (try with_reducible rfl)
        (try simp only [Act.put, List.setIfInBounds_toArray, List.set_cons_zero, List.set_cons_succ])
        refine tk (v := ?_) 17 ?_ ?_
        rotate_left
        · intro w hSw
          go_simp
          (try with_reducible rfl)
        (try simp only [Act.put, List.setIfInBounds_toArray, List.set_cons_zero, List.set_cons_succ])
        refine wpAnyH_ready (rs := [13]) (by kernel_rfl) (by simp) ?_
        refine anyH_one rfl (fun K hK => ?_) ?_
        · go_simp
          refine (CW2 _ (pages_keep HT.out H20.out.below (Nat.le_refl _))).mono ?_
          rintro e w21 ⟨rfl, hB21⟩
          have H21 := Lib.hid (H20.out.quiet hB21)
          clear H20
          refine hK.out _ _ (H21.out.pick [0, 1] []) (fun hHeld => ?_)
          clear hK K
          (try simp only [Act.put, List.setIfInBounds_toArray, List.set_cons_zero, List.set_cons_succ])
          refine wpAnyH_ready (rs := [15]) (by kernel_rfl) (by simp) ?_
          refine anyH_one rfl (fun K hK => ?_) ?_
          · go_simp
            refine (CW3 _ (pages_keep HT.out H21.out.below (Nat.le_refl _))).mono ?_
            rintro e w22 ⟨rfl, hB22⟩
            have H22 := Lib.hid (H21.out.quiet hB22)
            clear H21
            refine hK.out _ _ (H22.out.pick [0, 1] []) (fun hHeld => ?_)
            clear hK K
            (try simp only [Act.put, List.setIfInBounds_toArray, List.set_cons_zero, List.set_cons_succ])
            refine wpAnyH_ready (rs := [18]) (by kernel_rfl) (by simp) ?_
            refine anyH_one rfl (fun K hK => ?_) ?_
            · go_simp
              refine (CW2 _ (pages_keep HT.out H22.out.below (Nat.le_refl _))).mono ?_
              rintro e w23 ⟨rfl, hB23⟩
              have H23 := Lib.hid (H22.out.quiet hB23)
              clear H22
              refine hK.out _ _ (H23.out.pick [0, 1] []) (fun hHeld => ?_)
              clear hK K
              (try simp only [Act.put, List.setIfInBounds_toArray, List.set_cons_zero, List.set_cons_succ])
              refine tk (v := ?_) 19 ?_ ?_
              rotate_left
              · intro w hSw
                go_simp
                (try with_reducible rfl)
              (try simp only [Act.put, List.setIfInBounds_toArray, List.set_cons_zero, List.set_cons_succ])
              refine tk (v := ?_) 20 ?_ ?_
              rotate_left
              · intro w hSw
                go_simp
                (try with_reducible rfl)
              (try simp only [Act.put, List.setIfInBounds_toArray, List.set_cons_zero, List.set_cons_succ])
              refine tk (v := ?_) 21 ?_ ?_
              rotate_left
              · intro w hSw
                go_simp
                (try with_reducible rfl)
              (try simp only [Act.put, List.setIfInBounds_toArray, List.set_cons_zero, List.set_cons_succ])
              refine wpAnyH_done (by kernel_rfl) ?_ _
              clear hHeld
              go_wp2
              go_ret
              exact ⟨rfl, H23.out.below⟩
            exact AllReadyH.nil
          exact AllReadyH.nil
        exact AllReadyH.nil
      · obtain ⟨rfl, rfl⟩ := HGB.out (by simpa using hg)
        go_upto_region 15 with fail
        clear hg
        refine wp_region_held_drew (S := fun w' => Mine w w' [⟨bm, lineC m, 34⟩, ⟨bl, zeroC, 34⟩] []) (by kernel_rfl) ((H12.out.quiet (Kept.drew0 _)).pick [0, 1] []) (fun hHeld => ?_)
        have H20 := Lib.hid ((H12.out.quiet (Kept.drew0 _)).pick [0, 1] [])
        clear H12
        generalize wr.drew = w20 at *
        refine tk (v := ?_) 0 ?_ ?_
        rotate_left
        · intro w hSw
          go_simp
          (try with_reducible rfl)
        (try simp only [Act.put, List.setIfInBounds_toArray, List.set_cons_zero, List.set_cons_succ])
        refine tk (v := ?_) 1 ?_ ?_
        rotate_left
        · intro w hSw
          go_simp
          (try with_reducible rfl)
        (try simp only [Act.put, List.setIfInBounds_toArray, List.set_cons_zero, List.set_cons_succ])
        refine tk (v := ?_) 2 ?_ ?_
        rotate_left
        · intro w hSw
          go_simp
          (try with_reducible rfl)
        (try simp only [Act.put, List.setIfInBounds_toArray, List.set_cons_zero, List.set_cons_succ])
        refine tk (v := ?_) 3 ?_ ?_
        rotate_left
        · intro w hSw
          go_simp
          (try with_reducible rfl)
        (try simp only [Act.put, List.setIfInBounds_toArray, List.set_cons_zero, List.set_cons_succ])
        refine tk (v := ?_) 4 ?_ ?_
        rotate_left
        · intro w hSw
          go_simp
          (try with_reducible rfl)
        (try simp only [Act.put, List.setIfInBounds_toArray, List.set_cons_zero, List.set_cons_succ])
        refine tk (v := ?_) 5 ?_ ?_
        rotate_left
        · intro w hSw
          go_simp
          (try with_reducible rfl)
        (try simp only [Act.put, List.setIfInBounds_toArray, List.set_cons_zero, List.set_cons_succ])
        refine tk (v := ?_) 6 ?_ ?_
        rotate_left
        · intro w hSw
          obtain ⟨z0, z1, z2, z3, z4, z5⟩ := (hSw.at_ 1 rfl).line6
          go_simp
          (try with_reducible rfl)
        (try simp only [Act.put, List.setIfInBounds_toArray, List.set_cons_zero, List.set_cons_succ])
        refine tk (v := ?_) 7 ?_ ?_
        rotate_left
        · intro w hSw
          go_simp
          (try with_reducible rfl)
        (try simp only [Act.put, List.setIfInBounds_toArray, List.set_cons_zero, List.set_cons_succ])
        refine tk (v := ?_) 8 ?_ ?_
        rotate_left
        · intro w hSw
          go_simp
          (try with_reducible rfl)
        (try simp only [Act.put, List.setIfInBounds_toArray, List.set_cons_zero, List.set_cons_succ])
        refine tk (v := ?_) 9 ?_ ?_
        rotate_left
        · intro w hSw
          go_simp
          (try with_reducible rfl)
        (try simp only [Act.put, List.setIfInBounds_toArray, List.set_cons_zero, List.set_cons_succ])
        refine tk (v := ?_) 10 ?_ ?_
        rotate_left
        · intro w hSw
          go_simp
          (try with_reducible rfl)
        (try simp only [Act.put, List.setIfInBounds_toArray, List.set_cons_zero, List.set_cons_succ])
        refine tk (v := ?_) 11 ?_ ?_
        rotate_left
        · intro w hSw
          obtain ⟨l0, l1, l2, l3, l4, l5⟩ := (hSw.at_ 0 rfl).line6
          go_simp
          (try with_reducible rfl)
        (try simp only [Act.put, List.setIfInBounds_toArray, List.set_cons_zero, List.set_cons_succ])
        refine tk (v := ?_) 12 ?_ ?_
        rotate_left
        · intro w hSw
          go_simp
          (try with_reducible rfl)
        (try simp only [Act.put, List.setIfInBounds_toArray, List.set_cons_zero, List.set_cons_succ])
        refine tk (v := ?_) 14 ?_ ?_
        rotate_left
        · intro w hSw
          go_simp
          (try with_reducible rfl)
        (try simp only [Act.put, List.setIfInBounds_toArray, List.set_cons_zero, List.set_cons_succ])
        refine tk (v := ?_) 16 ?_ ?_
        rotate_left
        · intro w hSw
          obtain ⟨l0, l1, l2, l3, l4, l5⟩ := (hSw.at_ 0 rfl).line6
          go_simp
          (try with_reducible rfl)
        (try simp only [Act.put, List.setIfInBounds_toArray, List.set_cons_zero, List.set_cons_succ])
        refine tk (v := ?_) 17 ?_ ?_
        rotate_left
        · intro w hSw
          go_simp
          (try with_reducible rfl)
        (try simp only [Act.put, List.setIfInBounds_toArray, List.set_cons_zero, List.set_cons_succ])
        refine wpAnyH_ready (rs := [13]) (by kernel_rfl) (by simp) ?_
        refine anyH_one rfl (fun K hK => ?_) ?_
        · go_simp
          refine (CW2 _ (pages_keep HT.out H20.out.below (Nat.le_refl _))).mono ?_
          rintro e w21 ⟨rfl, hB21⟩
          have H21 := Lib.hid (H20.out.quiet hB21)
          clear H20
          refine hK.out _ _ (H21.out.pick [0, 1] []) (fun hHeld => ?_)
          clear hK K
          (try simp only [Act.put, List.setIfInBounds_toArray, List.set_cons_zero, List.set_cons_succ])
          refine wpAnyH_ready (rs := [15]) (by kernel_rfl) (by simp) ?_
          refine anyH_one rfl (fun K hK => ?_) ?_
          · go_simp
            refine (CW3 _ (pages_keep HT.out H21.out.below (Nat.le_refl _))).mono ?_
            rintro e w22 ⟨rfl, hB22⟩
            have H22 := Lib.hid (H21.out.quiet hB22)
            clear H21
            refine hK.out _ _ (H22.out.pick [0, 1] []) (fun hHeld => ?_)
            clear hK K
            (try simp only [Act.put, List.setIfInBounds_toArray, List.set_cons_zero, List.set_cons_succ])
            refine wpAnyH_ready (rs := [18]) (by kernel_rfl) (by simp) ?_
            refine anyH_one rfl (fun K hK => ?_) ?_
            · go_simp
              refine (CW2 _ (pages_keep HT.out H22.out.below (Nat.le_refl _))).mono ?_
              rintro e w23 ⟨rfl, hB23⟩
              have H23 := Lib.hid (H22.out.quiet hB23)
              clear H22
              refine hK.out _ _ (H23.out.pick [0, 1] []) (fun hHeld => ?_)
              clear hK K
              (try simp only [Act.put, List.setIfInBounds_toArray, List.set_cons_zero, List.set_cons_succ])
              refine tk (v := ?_) 19 ?_ ?_
              rotate_left
              · intro w hSw
                go_simp
                (try with_reducible rfl)
              (try simp only [Act.put, List.setIfInBounds_toArray, List.set_cons_zero, List.set_cons_succ])
              refine tk (v := ?_) 20 ?_ ?_
              rotate_left
              · intro w hSw
                go_simp
                (try with_reducible rfl)
              (try simp only [Act.put, List.setIfInBounds_toArray, List.set_cons_zero, List.set_cons_succ])
              refine tk (v := ?_) 21 ?_ ?_
              rotate_left
              · intro w hSw
                go_simp
                (try with_reducible rfl)
              (try simp only [Act.put, List.setIfInBounds_toArray, List.set_cons_zero, List.set_cons_succ])
              refine wpAnyH_done (by kernel_rfl) ?_ _
              clear hHeld
              go_wp2
              go_ret
              exact ⟨rfl, H23.out.below⟩
            exact AllReadyH.nil
          exact AllReadyH.nil
        exact AllReadyH.nil
end Go.Proofs.YtmglikmphddicaaDoor
/- The walk of GroupSlots. (Laid by tools/gen_l12.py.) -/
namespace Go.Proofs.YtmglikmphddicaaDoor
set_option linter.unusedVariables false
set_option linter.unusedSimpArgs false
open Go.ChangeShapes Go.WideShapes Go.ChangeAt Go.RowKit Go.Joins

theorem slot_cell {w : World} {b : Nat} {s : Int} {t : TypeId} (h : Blk w b (slotsC s) t) {k : Int} (k0 : 0 ≤ k) (k7 : k ≤ 7) : w.cell? ⟨b, k.toNat, none⟩ = some (.int .u64 (sltF s k)) := by
  obtain ⟨j, rfl⟩ := eight_of k0 k7
  rw [show ((j.val : Int)).toNat = j.val by simp]
  refine (cell_of_block h j.val).trans ?_
  match j with
  | ⟨0, _⟩ => rfl
  | ⟨1, _⟩ => rfl
  | ⟨2, _⟩ => rfl
  | ⟨3, _⟩ => rfl
  | ⟨4, _⟩ => rfl
  | ⟨5, _⟩ => rfl
  | ⟨6, _⟩ => rfl
  | ⟨7, _⟩ => rfl
  | ⟨j + 8, h⟩ => exact absurd h (by omega)
theorem slotsC_same (s : Int) {j : Int} (j0 : 0 ≤ j) (j7 : j ≤ 7) : slotsC (sltF s j) = slotsC s := by
  unfold slotsC
  simp only [slt_same s j0 j7]
theorem slt_eql {s : Int} {p : Nat} (hp : sltF s p = s) (k : Nat) : (sltF s k == s) = decide (p = k) := by
  rw [Bool.eq_iff_iff]; simp
  unfold sltF at *
  omega

set_option maxRecDepth 100000 in
set_option maxHeartbeats 3200000 in
theorem groupSlots_walk (n o : Int) (w : World) (hp : PagesT w) (n0 : 0 ≤ n) (n1 : n < 4294967296) (ho : U8 o) :
    Calls Tryd.prog 8 #[.int .u32 n, .int .u8 o] w fun e w' => e = .returned (.bool true) ∧ Below w.heap.size w w' := by
  obtain ⟨s, hs⟩ : ∃ s, n * 8 = s := ⟨_, rfl⟩
  have s0 : 0 ≤ s := by omega
  have s1 : s < 34359738368 := by omega
  have s8 : s % 8 = 0 := by omega
  have w64 : W64 s := ⟨s0, by omega⟩
  obtain ⟨p, p8, hps, _⟩ := slt_at s8
  obtain ⟨j, hj⟩ : ∃ j, o % 8 = j := ⟨_, rfl⟩
  have ej : o.tmod 8 = j := (Int.tmod_eq_emod_of_nonneg ho.1).trans hj
  have j0 : 0 ≤ j := by omega
  have j7 : j ≤ 7 := by omega
  have j8 : j < 8 := by omega
  have CS : ∀ w', Calls Tryd.prog 18 #[.int .u64 s] w' fun e w'' => e = .returned (.agg (slotsC s)) ∧ Below w'.heap.size w' w'' := fun w' => slots_any s w' w64
  have CS2 : ∀ w', Calls Tryd.prog 18 #[.int .u64 (sltF s j)] w' fun e w'' => e = .returned (.agg (slotsC s)) ∧ Below w'.heap.size w' w'' := fun w' => by
    have h := slots_any (sltF s j) w' (w64_slt w64 j0 j7); rwa [slotsC_same s j0 j7] at h
  have hq := eqlS s
  have eb : (sltF s 0).tmod 64 = 0 := by rw [Int.tmod_eq_emod_of_nonneg (w64_slt w64 (i := 0) (by decide) (by decide)).1]; exact slt_base s
  have HP := Lib.hid hps
  have HN : Hid (∀ k : Nat, k < 8 → IntKind.u64.wrap (sltF s 0 + 8 * (k : Int)) = sltF s k) := Lib.hid fun k hk => by
    rw [← slt_next, IntKind.wrap_u64]; have := w64_slt w64 (i := k) (by omega) (by omega); unfold W64 at this; omega
  have HT := Lib.hid hp
  have H1 := Lib.hid (Mine.start w)
  clear hp ho hj hps
  go_enter Tryd.func8, Tryd.ntmps8
  go_upto_region 3 with (go_at_call 9; refine (awake12_any _ (pages_keep HT.out H1.out.below (Nat.le_refl _))).mono ?_; rintro e w2 ⟨rfl, hb⟩; have H2 := Lib.hid (H1.out.quiet hb); clear hb H1)
  clear n0 n1
  go_upto_region 4 with (go_at_call 18; refine (CS _).mono ?_; rintro e w3 ⟨rfl, hb⟩; have H3 := Lib.hid (H2.out.quiet hb); clear hb H2)
  generalize hw4 : w3.alloc _ = w4
  have H4 := Lib.hid ((H3.out.new (b := w3.heap.size) rfl (slotsC s) 23).world hw4)
  clear hw4 H3
  generalize w3.heap.size = bl at *
  go_wp2
  go_loopw [8, 9] (fun u i wr => ∃ k : Nat, k ≤ 8 ∧ u = .bool (decide (p < k)) ∧ i = .int .i64 k ∧ Hid (Mine w wr [⟨bl, slotsC s, 23⟩] [])) (fun _ i _ => (8 - intOf i).toNat)
  case atStart => exact ⟨0, by omega, rfl, rfl, H4⟩
  case round =>
    obtain ⟨k, hk8, rfl, rfl, HR⟩ := hrel
    clear H4
    by_cases hlt : k < 8
    · have hv := HN.out k hlt
      have heq := slt_eql HP.out k
      have k0 : (0 : Int) ≤ k := by omega
      have k7 : (k : Int) ≤ 7 := by omega
      have ra := slot_cell (HR.out.at_ 0 rfl) k0 k7
      have rb := slot_cell (HR.out.at_ 0 rfl) (k := 0) (by decide) (by decide)
      simp only [Int.toNat_natCast, Int.toNat_zero] at ra rb
      obtain ⟨z, hz⟩ : ∃ z, sltF s k = z := ⟨_, rfl⟩
      obtain ⟨z0, hz0⟩ : ∃ z, sltF s 0 = z := ⟨_, rfl⟩
      rw [hz] at hv heq ra
      rw [hz0] at hv rb
      have hnx : decide (p < k + 1) = (decide (p < k) || decide (p = k)) := by rw [Bool.eq_iff_iff]; simp; omega
      have HX := Lib.hid hnx
      clear hz hz0 hnx
      generalize decide (p < k) = u1 at *
      generalize decide (p = k) = u2 at *
      cases u1
      all_goals
        go_upto_region 9 with fail
        go_quiet (fail)
        generalize hw1 : wr.drewN _ = w5
        have H5 := Lib.hid ((HR.out.quiet (below_drewN (Below.refl _ _) _)).world hw1)
        clear hw1 HR ra rb
        go_wp2
        go_roundw
        case rel => exact ⟨k + 1, by omega, by rw [HX.out]; rfl, by go_num, H5⟩
        case measure => simp [intOf]; omega
    · obtain rfl : k = 8 := by omega
      have hu : decide (p < 8) = true := by simp; omega
      rw [hu]
      go_upto_region 11 with fail
      refine wp_region_held_drew (S := fun w' => Mine w w' [⟨bl, slotsC s, 23⟩] []) (by kernel_rfl) ((HR.out.quiet (Kept.drew0 _))) (fun hHeld => ?_)
      have H20 := Lib.hid ((HR.out.quiet (Kept.drew0 _)))
      clear HR
      generalize wr.drew = w20 at *
      refine tk (v := ?_) 0 ?_ ?_
      rotate_left
      · intro w hSw
        go_simp
        (try with_reducible rfl)
      (try simp only [Act.put, List.setIfInBounds_toArray, List.set_cons_zero, List.set_cons_succ])
      refine tk (v := ?_) 1 ?_ ?_
      rotate_left
      · intro w hSw
        go_simp
        (try with_reducible rfl)
      (try simp only [Act.put, List.setIfInBounds_toArray, List.set_cons_zero, List.set_cons_succ])
      refine tk (v := ?_) 2 ?_ ?_
      rotate_left
      · intro w hSw
        go_simp
        (try with_reducible rfl)
      (try simp only [Act.put, List.setIfInBounds_toArray, List.set_cons_zero, List.set_cons_succ])
      refine tk (v := ?_) 3 ?_ ?_
      rotate_left
      · intro w hSw
        go_simp
        (try with_reducible rfl)
      (try simp only [Act.put, List.setIfInBounds_toArray, List.set_cons_zero, List.set_cons_succ])
      refine tk (v := ?_) 4 ?_ ?_
      rotate_left
      · intro w hSw
        go_simp
        (try with_reducible rfl)
      (try simp only [Act.put, List.setIfInBounds_toArray, List.set_cons_zero, List.set_cons_succ])
      refine tk (v := ?_) 5 ?_ ?_
      rotate_left
      · intro w hSw
        go_simp
        (try with_reducible rfl)
      (try simp only [Act.put, List.setIfInBounds_toArray, List.set_cons_zero, List.set_cons_succ])
      refine tk (v := ?_) 6 ?_ ?_
      rotate_left
      · intro w hSw
        obtain ⟨a0, a1, a2, a3, a4, a5, a6, a7⟩ := (hSw.at_ 0 rfl).word8
        go_simp
        (try with_reducible rfl)
      (try simp only [Act.put, List.setIfInBounds_toArray, List.set_cons_zero, List.set_cons_succ])
      refine tk (v := ?_) 7 ?_ ?_
      rotate_left
      · intro w hSw
        go_simp
        (try with_reducible rfl)
      (try simp only [Act.put, List.setIfInBounds_toArray, List.set_cons_zero, List.set_cons_succ])
      refine tk (v := ?_) 8 ?_ ?_
      rotate_left
      · intro w hSw
        go_simp
        (try with_reducible rfl)
      (try simp only [Act.put, List.setIfInBounds_toArray, List.set_cons_zero, List.set_cons_succ])
      refine tk (v := ?_) 9 ?_ ?_
      rotate_left
      · intro w hSw
        go_simp
        (try with_reducible rfl)
      (try simp only [Act.put, List.setIfInBounds_toArray, List.set_cons_zero, List.set_cons_succ])
      refine tk (v := ?_) 10 ?_ ?_
      rotate_left
      · intro w hSw
        go_simp
        (try with_reducible rfl)
      (try simp only [Act.put, List.setIfInBounds_toArray, List.set_cons_zero, List.set_cons_succ])
      refine tk (v := ?_) 11 ?_ ?_
      rotate_left
      · intro w hSw
        go_simp
        (try with_reducible rfl)
      (try simp only [Act.put, List.setIfInBounds_toArray, List.set_cons_zero, List.set_cons_succ])
      refine tk (v := ?_) 12 ?_ ?_
      rotate_left
      · intro w hSw
        go_simp
        (try with_reducible rfl)
      (try simp only [Act.put, List.setIfInBounds_toArray, List.set_cons_zero, List.set_cons_succ])
      refine tk (v := ?_) 13 ?_ ?_
      rotate_left
      · intro w hSw
        go_simp
        (try with_reducible rfl)
      (try simp only [Act.put, List.setIfInBounds_toArray, List.set_cons_zero, List.set_cons_succ])
      refine tk (v := ?_) 14 ?_ ?_
      rotate_left
      · intro w hSw
        have ra := slot_cell (hSw.at_ 0 rfl) j0 j7
        go_simp
        (try with_reducible rfl)
      (try simp only [Act.put, List.setIfInBounds_toArray, List.set_cons_zero, List.set_cons_succ])
      refine tk (v := ?_) 16 ?_ ?_
      rotate_left
      · intro w hSw
        obtain ⟨a0, a1, a2, a3, a4, a5, a6, a7⟩ := (hSw.at_ 0 rfl).word8
        go_simp
        (try with_reducible rfl)
      (try simp only [Act.put, List.setIfInBounds_toArray, List.set_cons_zero, List.set_cons_succ])
      refine wpAnyH_ready (rs := [15]) (by kernel_rfl) (by simp) ?_
      refine anyH_one rfl (fun K hK => ?_) ?_
      · go_simp
        refine (CS2 _).mono ?_
        rintro e w21 ⟨rfl, hB21⟩
        have H21 := Lib.hid (H20.out.quiet hB21)
        clear H20
        refine hK.out _ _ (H21.out.pick [0] []) (fun hHeld => ?_)
        clear hK K
        (try simp only [Act.put, List.setIfInBounds_toArray, List.set_cons_zero, List.set_cons_succ])
        refine tk (v := ?_) 17 ?_ ?_
        rotate_left
        · intro w hSw
          go_simp
          (try with_reducible rfl)
        (try simp only [Act.put, List.setIfInBounds_toArray, List.set_cons_zero, List.set_cons_succ])
        refine tk (v := ?_) 18 ?_ ?_
        rotate_left
        · intro w hSw
          go_simp
          (try with_reducible rfl)
        (try simp only [Act.put, List.setIfInBounds_toArray, List.set_cons_zero, List.set_cons_succ])
        refine tk (v := ?_) 19 ?_ ?_
        rotate_left
        · intro w hSw
          go_simp
          (try with_reducible rfl)
        (try simp only [Act.put, List.setIfInBounds_toArray, List.set_cons_zero, List.set_cons_succ])
        refine wpAnyH_done (by kernel_rfl) ?_ _
        clear hHeld
        go_wp2
        go_ret
        exact ⟨rfl, H21.out.below⟩
      exact AllReadyH.nil
end Go.Proofs.YtmglikmphddicaaDoor
