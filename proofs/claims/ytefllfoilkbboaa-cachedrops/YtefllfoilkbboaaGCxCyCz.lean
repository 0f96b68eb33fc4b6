/- Several texts of ours in one: Cx, Cy, Cz. -/
import Derived.Test.YtefllfoilkbboaaGCuCvCw
import Derived.Deep.CutRange
/- Layer 10: run, a cache behind deeds. -/
namespace Go.Proofs.Ytefllfoilkbboaa
set_option linter.unusedVariables false
set_option linter.unusedSimpArgs false
open Go.ChangeShapes Go.WideShapes Go.ChangeAt Go.RowKit Go.Joins

def roomR (a : Int) : Nat := 1 + (a % 8).toNat
theorem roomR_bd {a : Int} (h : 0 ≤ a) : 1 ≤ roomR a ∧ roomR a ≤ 8 := by unfold roomR; omega
def manyC (ds : List Dd) : Nat := min ds.length 120

set_option maxRecDepth 100000 in
set_option maxHeartbeats 8000000 in
theorem runC_any (A : Option Addr) (cp : Nat) (ds : List Dd) (a : Int) (w : World) (hl : ds.length ≤ maxLen) (hd : DeedsC w A ds) (hok : DeedsOkC ds) (h0 : 0 ≤ a) (h1 : a ≤ 255) :
    Calls Try.prog 18 #[.int .u8 a, .slice A ds.length cp] w fun e w' => ∃ (c : Nat) (G : Nat → Prop), e = .returned (.pointer (some ⟨c, 0, none⟩)) ∧ LawC w w' (From w.heap.size) c (roomR a) (playC (roomR a) ds (manyC ds)) G [] [] := by
  unfold maxLen at hl
  have HD := Lib.hid hd
  have HOK := Lib.hid hok
  obtain ⟨R, hR⟩ : ∃ R, roomR a = R := ⟨_, rfl⟩
  have hbd := roomR_bd h0
  rw [hR] at hbd ⊢
  have HR := Lib.hid hR
  obtain ⟨N, hN⟩ : ∃ N, ds.length = N := ⟨_, rfl⟩
  have HN := Lib.hid hN
  rw [hN] at hl ⊢
  have hm : manyC ds ≤ 120 ∧ manyC ds ≤ N ∧ (manyC ds = 120 ∨ manyC ds = N) := by unfold manyC; omega
  obtain ⟨mn, hmn⟩ : ∃ m, manyC ds = m := ⟨_, rfl⟩
  rw [hmn] at hm ⊢
  obtain ⟨hm0, hm1, hm2⟩ := hm
  have t0 : a.tmod 8 = a % 8 := Int.tmod_eq_emod_of_nonneg h0
  have t1 : (R : Int) = 1 + a % 8 := by rw [← hR]; unfold roomR; omega
  have hz0 : 0 ≤ a % 8 := by omega
  have hz1 : a % 8 < 8 := by omega
  clear hd hok hN hmn hR
  generalize a % 8 = z at t0 t1 hz0 hz1
  have t2 : IntKind.i64.wrap z = z := by rw [IntKind.wrap_i64]; omega
  have t3 : IntKind.i64.wrap (1 + z) = 1 + z := by rw [IntKind.wrap_i64]; omega
  have t4 : IntKind.u8.wrap z = z := by show z % 256 = z; omega
  have HF : Hid (roomF (1 + z) = R) := Lib.hid (by unfold roomF; rw [if_neg (by omega), if_pos (by omega)]; omega)
  have M0 := Lib.hid (Mine.start w)
  clear t1
  go_enter Try.func18, Try.ntmps18
  go_upto_region 3 with (first | (go_at_call 10; refine (newC_any _ _).mono ?_; rw [HF.out]; rintro e w1 ⟨rfl, hc1, hb1⟩; have H1 := Lib.hid (LawC.first M0.out hc1 hb1); clear hc1 hb1) | (go_at_call 11; refine (rnewC_any _ _).mono ?_; rw [show ((roomF 1 : Nat) : Int) = 1 from rfl]; rintro e w2 ⟨rfl, hb2⟩; have H2 := Lib.hid (H1.out.quiet hb2); clear hb2 H1))
  obtain ⟨c, hc⟩ : ∃ c, w.heap.size + 1 = c := ⟨_, rfl⟩
  rw [hc] at H2 ⊢
  generalize hw3 : w2.alloc _ = w3
  have H3 := Lib.hid (((H2.out.new (b := w2.heap.size) rfl #[.slice none 0 0, .int .i64 1] 28).got (PairsOwn.nil _ 0) (by simp [Value.ownBlock])).world hw3)
  clear hc hw3 H2 M0 HF t0 t2 t3 t4 hz0 hz1 h0 h1
  generalize w2.heap.size = bx at *
  go_wp2
  go_loopw [7] (fun i wr => ∃ (k nx : Nat) (Ax : Option Addr) (cx : Nat) (G : Nat → Prop), k ≤ mn ∧ i = .int .i64 k ∧ Hid (LawC w wr (From w.heap.size) c R (playC R ds k) G [⟨bx, #[.slice Ax nx cx, .int .i64 1], 28⟩] [⟨51, 9, .slice Ax nx cx, (playC 1 ds k).length, pcs (playC 1 ds k)⟩])) (fun i _ => (120 - intOf i).toNat)
  case atStart => exact ⟨0, 0, none, 0, _, by omega, rfl, H3⟩
  case round =>
    obtain ⟨k, nx, Ax, cx, G, hk, rfl, HL⟩ := hrel
    clear H3
    by_cases hlt : k < mn
    · have hlt2 := hlt
      have hks0 : k < N := by omega
      have h120 : (k : Int) < 120 := by omega
      have hks : k < ds.length := by rw [HN.out]; exact hks0
      obtain ⟨⟨kd, pk, ⟨p, q, t⟩, ⟨f, x1, x2, x3, x4, m⟩⟩, hkk⟩ : ∃ y : Dd, ds.getD k zD = y := ⟨_, rfl⟩
      have hk2 := HOK.out k hks
      rw [hkk] at hk2
      have HKK := Lib.hid hkk
      obtain ⟨L1, hL1⟩ : ∃ L1, playC R ds (k + 1) = L1 := ⟨_, rfl⟩
      obtain ⟨M1, hM1⟩ : ∃ M1, playC 1 ds (k + 1) = M1 := ⟨_, rfl⟩
      obtain ⟨n2, hn2⟩ : ∃ n2, M1.length = n2 := ⟨_, rfl⟩
      obtain ⟨ans, hans⟩ : ∃ b, doA (playC R ds k) (playC 1 ds k) kd (p, q, t) = b := ⟨_, rfl⟩
      have HDO : Hid (∀ (w1 : World) (G : Nat → Prop), Cac w1 G c R (playC R ds k) → PairsOwn w1 0 (.slice Ax nx cx) (playC 1 ds k) → (∀ i, (Value.slice Ax nx cx).ownBlock = some i → ¬ G i) →
          Calls Try.prog 12 #[.pointer (some ⟨c, 0, none⟩), .agg #[.slice Ax nx cx, .int .i64 1], .agg #[.int .i64 kd, .int .i64 pk, .int .i64 p, .int .i64 q, .int .u64 t, .int .u64 f, .bool x1, .bool x2, .bool x3, .bool x4, .int .u8 m]] w1 fun e w' => ∃ A2 d2, e = .returned (.tuple #[.agg #[.slice A2 n2 d2, .int .i64 1], .bool ans]) ∧ DoE w1 w' G c R L1 (.slice A2 n2 d2) M1) := Lib.hid fun w1 G hc hx hoff => by
        have h9 := do_any hc hx hoff (Nat.le_trans (playC_len 1 ds k) (by omega)) 1 kd pk p q t f m x1 x2 x3 x4 hk2.1 hk2.2
        rw [playC_step hkk, playC_step hkk, hL1, hM1, hn2, hans] at h9
        exact h9
      have HL1 := Lib.hid hL1
      have HM1 := Lib.hid hM1
      have HN2 := Lib.hid hn2
      have HAN := Lib.hid hans
      clear hkk hk2 hL1 hM1 hn2 hans
      obtain ⟨ad, e', _⟩ := deedsC_at HD.out HL.out.below hks HKK.out
      subst e'
      go_upto_region 6 with fail
      go_cut [8, 9] from 16 to 36 (fun s9 s10 wc => ∃ (n9 : Nat) (A2 : Option Addr) (d2 : Nat) (G2 : Nat → Prop), s9 = .pointer (some ⟨n9, 0, none⟩) ∧ s10 = .bool ans ∧ Hid (LawC w wc (From w.heap.size) c R L1 G2 [⟨n9, #[.slice A2 n2 d2, .int .i64 1], 28⟩, ⟨bx, #[.slice Ax nx cx, .int .i64 1], 28⟩] [⟨51, 9, .slice A2 n2 d2, M1.length, pcs M1⟩]))
      case first =>
        refine wp_region_held_drew (S := fun w' => Below w.heap.size w w' ∧ Blk w' bx #[.slice Ax nx cx, .int .i64 1] 28) (by kernel_rfl) ⟨(HL.out.quiet (Kept.drew0 _)).below, (HL.out.quiet (Kept.drew0 _)).at_ 0 rfl⟩ (fun hHeld => ?_)
        have H0 := Lib.hid (HL.out.quiet (Kept.drew0 _))
        clear HL
        generalize wr.drew = v0 at *
        refine tk (v := ?_) 0 ?_ ?_
        rotate_left
        · intro w hSw
          go_simp
          (try with_reducible rfl)
        (try simp only [Act.put, List.setIfInBounds_toArray, List.set_cons_zero, List.set_cons_succ])
        refine tk (v := ?_) 1 ?_ ?_
        rotate_left
        · intro w hSw
          obtain ⟨a0, a1⟩ := hSw.2.c2
          go_simp
          (try with_reducible rfl)
        (try simp only [Act.put, List.setIfInBounds_toArray, List.set_cons_zero, List.set_cons_succ])
        refine tk (v := ?_) 2 ?_ ?_
        rotate_left
        · intro w hSw
          go_simp
          (try with_reducible rfl)
        (try simp only [Act.put, List.setIfInBounds_toArray, List.set_cons_zero, List.set_cons_succ])
        refine tk (v := ?_) 3 ?_ ?_
        rotate_left
        · intro w hSw
          go_simp
          (try with_reducible rfl)
        (try simp only [Act.put, List.setIfInBounds_toArray, List.set_cons_zero, List.set_cons_succ])
        refine tk (v := ?_) 4 ?_ ?_
        rotate_left
        · intro w hSw
          go_simp
          (try with_reducible rfl)
        (try simp only [Act.put, List.setIfInBounds_toArray, List.set_cons_zero, List.set_cons_succ])
        refine tk (v := ?_) 5 ?_ ?_
        rotate_left
        · intro w hSw
          obtain ⟨ad', e', hd⟩ := deedsC_at HD.out hSw.1 hks HKK.out
          obtain rfl : ad = ad' := Option.some.inj e'
          have c0 := hd.c0
          obtain ⟨c1, c2, c3, c4, c5, c6, c7, c8, c9, c10⟩ := hd.c1
          go_simp
          (try with_reducible rfl)
        (try simp only [Act.put, List.setIfInBounds_toArray, List.set_cons_zero, List.set_cons_succ])
        refine wpAnyH_ready (rs := [6, 10]) (by kernel_rfl) (by simp) ?_
        refine anyH_one rfl (fun K hK => ?_) ?_
        · go_simp
          refine (HDO.out _ _ H0.out.wk.cac (H0.out.of_ 0 rfl) (H0.out.off 0 rfl)).mono ?_
          rintro e v1 ⟨A2, d2, rfl, hE⟩
          obtain ⟨G1, hH⟩ := H0.out.didDo hE
          have H1 := Lib.hid hH
          clear hE hH H0
          refine hK.out _ _ (⟨H1.out.below, H1.out.at_ 0 rfl⟩) (fun hHeld => ?_)
          clear hK K
          (try simp only [Act.put, List.setIfInBounds_toArray, List.set_cons_zero, List.set_cons_succ])
          refine tk (v := ?_) 7 ?_ ?_
          rotate_left
          · intro w hSw
            go_simp
            (try with_reducible rfl)
          (try simp only [Act.put, List.setIfInBounds_toArray, List.set_cons_zero, List.set_cons_succ])
          refine tk (v := ?_) 8 ?_ ?_
          rotate_left
          · intro w hSw
            go_simp
            (try with_reducible rfl)
          (try simp only [Act.put, List.setIfInBounds_toArray, List.set_cons_zero, List.set_cons_succ])
          refine tk (v := ?_) 9 ?_ ?_
          rotate_left
          · intro w hSw
            go_simp
            (try with_reducible rfl)
          (try simp only [Act.put, List.setIfInBounds_toArray, List.set_cons_zero, List.set_cons_succ])
          refine wpAnyH_ready (rs := [10]) (by kernel_rfl) (by simp) ?_
          refine anyH_one rfl (fun K hK => ?_) ?_
          · go_simp
            generalize hq : v1.alloc _ = v2
            have H2 := Lib.hid ((H1.out.new (b := v1.heap.size) rfl _ _).world hq)
            clear hq H1
            generalize v1.heap.size = n9 at H2 ⊢
            refine hK.out _ _ (⟨H2.out.below, H2.out.at_ 1 rfl⟩) (fun hHeld => ?_)
            clear hK K
            (try simp only [Act.put, List.setIfInBounds_toArray, List.set_cons_zero, List.set_cons_succ])
            refine wpAnyH_ready (rs := [11]) (by kernel_rfl) (by simp) ?_
            refine anyH_one rfl (fun K hK => ?_) ?_
            · obtain ⟨r0, r1⟩ := (H2.out.at_ 0 rfl).c2
              have s0 := (H2.out.at_ 0 rfl).fz 0; have s1 := (H2.out.at_ 0 rfl).fz 1
              go_simp
              generalize hq : (v2.setCell _ _).setCell _ _ = v3
              have H3 := Lib.hid ((H2.out.put 0 rfl (turnB2 _ _ _ _) (setB2 (H2.out.at_ 0 rfl) _ _) (by rfl)).world hq)
              clear hq H2 r0 r1 s0 s1
              refine hK.out _ _ (⟨H3.out.below, H3.out.at_ 1 rfl⟩) (fun hHeld => ?_)
              clear hK K
              (try simp only [Act.put, List.setIfInBounds_toArray, List.set_cons_zero, List.set_cons_succ])
              refine tk (v := ?_) 12 ?_ ?_
              rotate_left
              · intro w hSw
                go_simp
                (try with_reducible rfl)
              (try simp only [Act.put, List.setIfInBounds_toArray, List.set_cons_zero, List.set_cons_succ])
              refine wpAnyH_done (by kernel_rfl) ?_ _
              go_wp2
              go_meet
              case rel => exact ⟨n9, A2, d2, G1, rfl, rfl, H3⟩
            exact AllReadyH.nil
          exact AllReadyH.nil
        refine anyH_one rfl (fun K hK => ?_) ?_
        · go_simp
          generalize hq : v0.alloc _ = v1
          have H1 := Lib.hid ((H0.out.new (b := v0.heap.size) rfl _ _).world hq)
          clear hq H0
          generalize v0.heap.size = n9 at H1 ⊢
          refine hK.out _ _ (⟨H1.out.below, H1.out.at_ 1 rfl⟩) (fun hHeld => ?_)
          clear hK K
          (try simp only [Act.put, List.setIfInBounds_toArray, List.set_cons_zero, List.set_cons_succ])
          refine wpAnyH_ready (rs := [6]) (by kernel_rfl) (by simp) ?_
          refine anyH_one rfl (fun K hK => ?_) ?_
          · go_simp
            refine (HDO.out _ _ H1.out.wk.cac (H1.out.of_ 0 rfl) (H1.out.off 0 rfl)).mono ?_
            rintro e v2 ⟨A2, d2, rfl, hE⟩
            obtain ⟨G2, hH⟩ := H1.out.didDo hE
            have H2 := Lib.hid hH
            clear hE hH H1
            refine hK.out _ _ (⟨H2.out.below, H2.out.at_ 1 rfl⟩) (fun hHeld => ?_)
            clear hK K
            (try simp only [Act.put, List.setIfInBounds_toArray, List.set_cons_zero, List.set_cons_succ])
            refine tk (v := ?_) 7 ?_ ?_
            rotate_left
            · intro w hSw
              go_simp
              (try with_reducible rfl)
            (try simp only [Act.put, List.setIfInBounds_toArray, List.set_cons_zero, List.set_cons_succ])
            refine tk (v := ?_) 8 ?_ ?_
            rotate_left
            · intro w hSw
              go_simp
              (try with_reducible rfl)
            (try simp only [Act.put, List.setIfInBounds_toArray, List.set_cons_zero, List.set_cons_succ])
            refine tk (v := ?_) 9 ?_ ?_
            rotate_left
            · intro w hSw
              go_simp
              (try with_reducible rfl)
            (try simp only [Act.put, List.setIfInBounds_toArray, List.set_cons_zero, List.set_cons_succ])
            refine wpAnyH_ready (rs := [11]) (by kernel_rfl) (by simp) ?_
            refine anyH_one rfl (fun K hK => ?_) ?_
            · obtain ⟨r0, r1⟩ := (H2.out.at_ 0 rfl).c2
              have s0 := (H2.out.at_ 0 rfl).fz 0; have s1 := (H2.out.at_ 0 rfl).fz 1
              go_simp
              generalize hq : (v2.setCell _ _).setCell _ _ = v3
              have H3 := Lib.hid ((H2.out.put 0 rfl (turnB2 _ _ _ _) (setB2 (H2.out.at_ 0 rfl) _ _) (by rfl)).world hq)
              clear hq H2 r0 r1 s0 s1
              refine hK.out _ _ (⟨H3.out.below, H3.out.at_ 1 rfl⟩) (fun hHeld => ?_)
              clear hK K
              (try simp only [Act.put, List.setIfInBounds_toArray, List.set_cons_zero, List.set_cons_succ])
              refine tk (v := ?_) 12 ?_ ?_
              rotate_left
              · intro w hSw
                go_simp
                (try with_reducible rfl)
              (try simp only [Act.put, List.setIfInBounds_toArray, List.set_cons_zero, List.set_cons_succ])
              refine wpAnyH_done (by kernel_rfl) ?_ _
              go_wp2
              go_meet
              case rel => exact ⟨n9, A2, d2, G2, rfl, rfl, H3⟩
            exact AllReadyH.nil
          exact AllReadyH.nil
        exact AllReadyH.nil
      case rest =>
        obtain ⟨n9, A2, d2, G2, rfl, rfl, HC⟩ := hcut
        obtain ⟨a0, a1⟩ := (HC.out.at_ 0 rfl).c2
        obtain ⟨b0, b1⟩ := (HC.out.at_ 1 rfl).c2
        have s0 := (HC.out.at_ 1 rfl).fz 0; have s1 := (HC.out.at_ 1 rfl).fz 1
        go_wp2
        generalize hw9 : (wc.setCell _ _).setCell _ _ = w9
        have H9 := Lib.hid (((HC.out.put 1 rfl (turnB2 _ _ _ _) (setB2 (HC.out.at_ 1 rfl) _ _) (by rfl)).world hw9).pick [1] [0])
        clear hw9 a0 a1 b0 b1 s0 s1 HL
        go_roundw
        case rel => exact ⟨k + 1, n2, A2, d2, G2, by omega, by go_num, by rw [HL1.out, HM1.out]; exact H9⟩
        case measure => simp [intOf]; omega
    · have e : k = mn := by omega
      by_cases h120 : k < N
      · have hk120 : k = 120 := by omega
        subst hk120
        go_wp2
        go_ret
        exact ⟨c, G, rfl, by rw [← e]; exact HL.out.pick [] []⟩
      · have hN : N ≤ k := by omega
        go_wp2
        go_ret
        exact ⟨c, G, rfl, by rw [← e]; exact HL.out.pick [] []⟩
end Go.Proofs.Ytefllfoilkbboaa
/- Layer 10: a cache that run made, beside what the law holds; what a Put loses. -/
namespace Go.Proofs.Ytefllfoilkbboaa
set_option linter.unusedVariables false
set_option linter.unusedSimpArgs false
open Go.ChangeShapes Go.WideShapes Go.ChangeAt Go.RowKit Go.Joins

theorem LawC.ofRun {w w1 w2 : World} {c R : Nat} {L : List Pr} {G : Nat → Prop} {bs : List BoxD} {rs : List RowD} (h : Mine w w1 bs rs) (k : LawC w1 w2 (From w1.heap.size) c R L G [] []) : LawC w w2 (From w.heap.size) c R L G bs rs := by
  have hb := k.below
  have hq := h.quiet hb
  have hs := h.size
  have hG : ∀ i, G i → w1.heap.size ≤ i := fun i hi => by
    rcases (k.wk.foot i hi).2 with h | h
    · exact h
    · exact h
  refine ⟨⟨k.wk.cac, fun i hi => ⟨(k.wk.foot i hi).1, Or.inr (Nat.le_trans hs (hG i hi))⟩, Turn.of_below hq.below⟩, ⟨fun z hz => ⟨(hq.hold.box z hz).1, fun hg => ?_⟩, fun r hr => ⟨(hq.hold.row r hr).1, fun i hi hg => ?_⟩, hq.hold.once, k.hold.lt⟩, fun z hz => Nat.le_of_not_lt (h.hold.box z hz).2⟩
  · have h1 := (h.hold.box z hz).1.lt
    have h2 := hG _ hg
    omega
  · have h1 := (own_lt (h.hold.row r hr).1 hi).2
    have h2 := hG _ hg
    omega
theorem deedsC_move {w w' : World} {A : Option Addr} {ds : List Dd} (h : DeedsC w A ds) (hb : Below w.heap.size w w') : DeedsC w' A ds := fun k hk => by
  obtain ⟨ad, e, hd⟩ := h k hk
  exact ⟨ad, e, DeedAt.below hd hb (Nat.le_refl _)⟩

/-- how many of the first j keys of L are lost in L' -/
def lossN (L L' : List Pr) : Nat → Nat
  | 0 => 0
  | j + 1 => lossN L L' j + (if (getK L' ((keysK L).getD j zK)).isSome then 0 else 1)
theorem lossN_le (L L' : List Pr) : ∀ j, lossN L L' j ≤ j
  | 0 => Nat.le_refl _
  | j + 1 => by
    have := lossN_le L L' j
    unfold lossN
    split <;> omega
theorem lossN_none {L L' : List Pr} : ∀ (j : Nat), (∀ i, i < j → (getK L' ((keysK L).getD i zK)).isSome = true) → lossN L L' j = 0
  | 0, _ => rfl
  | j + 1, h => by
    unfold lossN
    rw [h j (by omega), if_pos rfl, lossN_none j fun i hi => h i (by omega)]
theorem lossN_one {L L' : List Pr} {i0 : Nat} : ∀ (j : Nat), (∀ i, i < j → (getK L' ((keysK L).getD i zK)).isSome = decide (i ≠ i0)) → lossN L L' j = if i0 < j then 1 else 0
  | 0, _ => by simp [lossN]
  | j + 1, h => by
    unfold lossN
    rw [h j (by omega), lossN_one j fun i hi => h i (by omega)]
    by_cases e : j = i0
    · subst e; simp
    · by_cases h1 : i0 < j
      · have h2 : i0 < j + 1 := by omega
        simp [e, h1, h2]
      · have h2 : ¬ (i0 < j + 1) := by omega
        simp [e, h1, h2]
theorem isSome_keys {L L' : List Pr} {i : Nat} (hi : i < L.length) (h : ∀ k, k ∈ keysK L → k ∈ keysK L') : (getK L' ((keysK L).getD i zK)).isSome = true := by
  rw [getK_isSome]
  have hk : i < (keysK L).length := by rw [keysK_len]; exact hi
  rw [List.getD, List.getElem?_eq_getElem hk]
  exact decide_eq_true (h _ (List.getElem_mem _))

theorem keysK_last (L : List Pr) (k : Ky) (l : Ln) : (keysK (L ++ [(k, l)])).getD L.length zK = k := by
  rw [keysK_append]
  simp [List.getD, keysK]

/-- what a Put of a key that there is room for makes -/
structure PutsIs (R n : Nat) (L L' : List Pr) (k : Ky) (l : Ln) (th fb : Bool) (n' wt : Nat) : Prop where
  len : L'.length = n'
  got : getK L' k = some l
  loss : lossN L L' n = wt
  ways : (th = true ∧ n' = n ∧ wt = 0) ∨ (th = false ∧ fb = false ∧ n' = n + 1 ∧ wt = 0 ∧ (keysK L').getD n zK = k) ∨ (th = false ∧ fb = true ∧ n' = n ∧ 0 < n ∧ wt = 1 ∧ (keysK L').getD (n - 1) zK = k)
theorem putsIs {R : Nat} {L : List Pr} (hn : (keysK L).Nodup) (hl : L.length ≤ R) (hR : 0 < R) (k : Ky) (l : Ln) (a : Int) : ∃ n' wt, PutsIs R L.length L (putK R L k l a) k l (getK L k).isSome (decide (L.length = R)) n' wt := by
  cases hx : idxF (keysK L) k with
  | some i =>
    have hi := idxF_of hx
    have hil : i < L.length := by have := hi.1; rwa [keysK_len] at this
    have hp : putK R L k l a = L.set i (k, l) := by unfold putK; rw [hx]
    rw [hp]
    refine ⟨L.length, 0, by simp, ?_, lossN_none _ fun j hj => isSome_keys hj (fun k' hk' => by rw [keysK_set hi.2]; exact hk'), Or.inl ⟨by rw [getK_idx, hx]; rfl, rfl, rfl⟩⟩
    rw [getK_set hn hil hi.2]
    exact if_pos rfl
  | none =>
    have hk := idxF_no hx
    have hth : (getK L k).isSome = false := by rw [getK_idx, hx]; rfl
    by_cases hr : L.length = R
    · have hp : putK R L k l a = evK L a ++ [(k, l)] := by unfold putK; rw [hx]; show (if R = 0 then L else _) = _; rw [if_neg (by omega), if_pos (by omega)]
      have hke : k ∉ keysK (evK L a) := fun h => hk (((evK_sub L a).map (·.1)).subset h)
      have hlp : 0 < L.length := by omega
      have hpl := pickF_lt a hlp
      rw [hp, hth, decide_eq_true hr]
      refine ⟨L.length, 1, by rw [List.length_append, evK_len]; simp; omega, ?_, ?_, Or.inr (Or.inr ⟨rfl, rfl, rfl, hlp, rfl, ?_⟩)⟩
      · rw [getK_push hke]; exact if_pos rfl
      · rw [lossN_one (i0 := pickF a L.length), if_pos hpl]
        intro i hi
        have hev : evK L a = L.eraseIdx (pickF a L.length) := by unfold evK; rw [if_neg (by omega)]
        have hki : i < (keysK L).length := by rw [keysK_len]; exact hi
        have hkp : pickF a L.length < (keysK L).length := by rw [keysK_len]; exact hpl
        have hne : (keysK L).getD i zK ≠ k := fun e => hk (by
          rw [← e, List.getD, List.getElem?_eq_getElem hki]
          exact List.getElem_mem _)
        rw [getK_push hke, hev, getK_erase hn hpl]
        unfold updG
        rw [if_neg hne]
        by_cases e : i = pickF a L.length
        · rw [if_pos (by rw [e, keysK_getD])]
          simp [e]
        · rw [if_neg, decide_eq_true e]
          · exact isSome_keys hi fun _ h => h
          · rw [← keysK_getD]
            intro e2
            rw [List.getD, List.getD, List.getElem?_eq_getElem hki, List.getElem?_eq_getElem hkp] at e2
            exact e ((List.getElem_inj (xs := keysK L) (h₀ := hki) (h₁ := hkp) hn).1 (by simpa using e2))
      · have := keysK_last (evK L a) k l
        rwa [evK_len] at this
    · have hp : putK R L k l a = L ++ [(k, l)] := by unfold putK; rw [hx]; show (if R = 0 then L else _) = _; rw [if_neg (by omega), if_neg (by omega)]
      rw [hp, hth, decide_eq_false hr]
      refine ⟨L.length + 1, 0, by simp, ?_, lossN_none _ fun j hj => isSome_keys hj (fun k' hk' => by rw [keysK_append]; exact List.mem_append.2 (Or.inl hk')), Or.inr (Or.inl ⟨rfl, rfl, rfl, rfl, keysK_last L k l⟩)⟩
      rw [getK_push hk]; exact if_pos rfl
theorem eqlCL (f1 m1 : Int) (y1 y2 y3 y4 : Bool) (w : World) : (binOp .eql 38 (.agg #[.int .u64 f1, .bool y1, .bool y2, .bool y3, .bool y4, .int .u8 m1]) (.agg #[.int .u64 f1, .bool y1, .bool y2, .bool y3, .bool y4, .int .u8 m1])).run Try.prog w = .ok (.bool true) w := by
  have hs : Try.prog.stoodInHeld 38 = false := by kernel_rfl
  have hs2 : Try.prog.stoodInHeld 36 = false := by kernel_rfl
  simp only [binOp]
  simp [Op.equal, Op.maxDepth, run_equalIn_struct w 9999 38 _ _ (by simp [Program.fieldsOf, Try.underlying38]) hs, Program.fieldsOf, Try.underlying38, Op.eqFields, go_sem]
end Go.Proofs.Ytefllfoilkbboaa
/- Layer 10: two caches of a law's own; what is dropped, as a list without some. -/
namespace Go.Proofs.Ytefllfoilkbboaa
set_option linter.unusedVariables false
set_option linter.unusedSimpArgs false
open Go.ChangeShapes Go.WideShapes Go.ChangeAt Go.RowKit Go.Joins

/-- two caches that were made behind w, and boxes and rows beside them -/
structure TwoC (w wr : World) (ca cb R : Nat) (La Lb : List Pr) (Ga Gb : Nat → Prop) (bs : List BoxD) (rs : List RowD) : Prop where
  a : Ck w wr (From w.heap.size) ca R La Ga
  b : Ck w wr (From w.heap.size) cb R Lb Gb
  free : ∀ i, Ga i → ¬ Gb i
  hold : Hold wr (fun i => Ga i ∨ Gb i) bs rs
  low : ∀ z ∈ bs, w.heap.size ≤ z.b

section
variable {w wr w1 w2 w3 w4 : World} {ca cb R k B sz : Nat} {La Lb L' : List Pr} {Ga Gb : Nat → Prop} {bs : List BoxD} {rs : List RowD} {e : TypeId} {v : Value} {xs : List Value}
theorem TwoC.start (h : LawC w w2 (From w.heap.size) ca R La Ga bs rs) (g : LawC w2 w3 (From w2.heap.size) cb R Lb Gb [] []) : TwoC w w3 ca cb R La Lb Ga Gb bs rs := by
  have hb := g.below
  have hq := h.quiet hb
  have hG : ∀ i, Gb i → w2.heap.size ≤ i := fun i hi => by
    rcases (g.wk.foot i hi).2 with h | h
    · exact h
    · exact h
  refine ⟨hq.wk, ⟨g.wk.cac, fun i hi => ⟨(g.wk.foot i hi).1, Or.inr (Nat.le_trans h.size (hG i hi))⟩, Turn.of_below hq.below⟩, fun i hi hg => ?_, ⟨fun z hz => ⟨(hq.hold.box z hz).1, ?_⟩, fun r hr => ⟨(hq.hold.row r hr).1, fun i hi => ?_⟩, hq.hold.once, ?_⟩, hq.low⟩
  · have h1 := h.hold.lt i hi
    have h2 := hG i hg
    omega
  · rintro (hg | hg)
    · exact (hq.hold.box z hz).2 hg
    · have h1 := (h.hold.box z hz).1.lt
      have h2 := hG _ hg
      omega
  · rintro (hg | hg)
    · exact (hq.hold.row r hr).2 i hi hg
    · have h1 := (own_lt (h.hold.row r hr).1 hi).2
      have h2 := hG _ hg
      omega
  · rintro i (hg | hg)
    · exact hq.hold.lt i hg
    · exact (g.wk.foot i hg).1
theorem TwoC.below (h : TwoC w wr ca cb R La Lb Ga Gb bs rs) : Below w.heap.size w wr := h.a.belowW
theorem TwoC.world (h : TwoC w wr ca cb R La Lb Ga Gb bs rs) (e : wr = w3) : TwoC w w3 ca cb R La Lb Ga Gb bs rs := e ▸ h
theorem TwoC.swap (h : TwoC w wr ca cb R La Lb Ga Gb bs rs) : TwoC w wr cb ca R Lb La Gb Ga bs rs :=
  ⟨h.b, h.a, fun i hi hg => h.free i hg hi, ⟨fun z hz => ⟨(h.hold.box z hz).1, fun hg => (h.hold.box z hz).2 hg.symm⟩, fun r hr => ⟨(h.hold.row r hr).1, fun i hi hg => (h.hold.row r hr).2 i hi hg.symm⟩, h.hold.once, fun i hi => h.hold.lt i hi.symm⟩, h.low⟩
theorem TwoC.quiet (h : TwoC w wr ca cb R La Lb Ga Gb bs rs) (hb : Below wr.heap.size wr w3) : TwoC w w3 ca cb R La Lb Ga Gb bs rs := ⟨h.a.quiet hb, h.b.quiet hb, h.free, h.hold.quiet hb, h.low⟩
theorem TwoC.did (h : TwoC w wr ca cb R La Lb Ga Gb bs rs) (hm : Cac w4 (Since Ga wr) ca R L') (ht : Turn Ga wr w4) : TwoC w w4 ca cb R L' Lb (fun i => Since Ga wr i ∧ i < w4.heap.size) Gb bs rs := by
  have j : Ck wr w4 Ga ca R L' (fun i => Since Ga wr i ∧ i < w4.heap.size) := by
    obtain ⟨mb, v, hM, hF⟩ := hm
    exact ⟨⟨mb, v, hM, fun i hi => ⟨hF i hi, hM.own_lt hi⟩⟩, fun i hi => ⟨hi.2, hi.1⟩, ht⟩
  refine ⟨h.a.join j, h.b.other j.turn (fun i _ hg hh => h.free i hg hh) (fun i hi => (h.a.foot i hi).2), fun i hi hh => j.free (fun hg => h.free i hg hh) (h.b.foot i hh).1 hi, ?_, h.low⟩
  have hb : ∀ i, ¬ (Ga i ∨ Gb i) → i < wr.heap.size → ¬ ((Since Ga wr i ∧ i < w4.heap.size) ∨ Gb i) := fun i hn hl hg => by
    rcases hg with hg | hg
    · exact j.free (fun h' => hn (Or.inl h')) hl hg
    · exact hn (Or.inr hg)
  exact ⟨fun z hz => ⟨(h.hold.box z hz).1.turn j.turn (fun hg => (h.hold.box z hz).2 (Or.inl hg)), hb _ (h.hold.box z hz).2 (h.hold.box z hz).1.lt⟩,
    fun r hr => ⟨own_turn (h.hold.row r hr).1 j.turn (fun i hi hg => (h.hold.row r hr).2 i hi (Or.inl hg)), fun i hi => hb i ((h.hold.row r hr).2 i hi) (own_lt (h.hold.row r hr).1 hi).2⟩, h.hold.once,
    fun i hi => hi.elim (fun hg => (j.foot i hg).1) (fun hg => Nat.lt_of_lt_of_le (h.b.foot i hg).1 j.turn.size)⟩
theorem TwoC.made (h : TwoC w wr ca cb R La Lb Ga Gb bs rs) (hb : Below wr.heap.size wr w3) (hr : w3.ownsRow B e sz v k xs) (hB : wr.heap.size ≤ B) : TwoC w w3 ca cb R La Lb Ga Gb bs (⟨e, sz, v, k, xs⟩ :: rs) := by
  have hq := h.quiet hb
  exact ⟨hq.a, hq.b, hq.free, hq.hold.got hr fun i hi hg => by have := h.hold.lt i hg; have := (own_lt hr hi).1; omega, hq.low⟩
theorem TwoC.at_ (h : TwoC w wr ca cb R La Lb Ga Gb bs rs) (k : Nat) {b : Nat} {cs : Array Value} {t : TypeId} (hk : bs[k]? = some ⟨b, cs, t⟩) : Blk wr b cs t := h.hold.at_ k hk
theorem TwoC.of_ (h : TwoC w wr ca cb R La Lb Ga Gb bs rs) (k : Nat) {e : TypeId} {sz n' : Nat} {v : Value} {xs : List Value} (hk : rs[k]? = some ⟨e, sz, v, n', xs⟩) : wr.ownsRow 0 e sz v n' xs := h.hold.of_ k hk
end

/-- how many of the first h lines are so -/
def cntN (P : Pr → Bool) (L : List Pr) (h : Nat) : Nat := ((L.take h).filter P).length
theorem cntN_zero (P : Pr → Bool) (L : List Pr) : cntN P L 0 = 0 := by simp [cntN]
theorem cntN_all (P : Pr → Bool) (L : List Pr) {n : Nat} (h : L.length = n) : cntN P L n = (L.filter P).length := by unfold cntN; rw [List.take_of_length_le (by omega)]
theorem cntN_le (P : Pr → Bool) (L : List Pr) (h : Nat) : cntN P L h ≤ h := by
  unfold cntN
  have h1 := List.length_filter_le P (L.take h)
  have h2 := List.length_take_le h L
  omega
theorem cntN_yes {P : Pr → Bool} {L : List Pr} {h : Nat} (hh : h < L.length) (hp : P (L.getD h zP) = true) : cntN P L (h + 1) = cntN P L h + 1 ∧ cntN P L h < (L.filter P).length ∧ (L.filter P).getD (cntN P L h) zP = L.getD h zP := by
  have hg : L.getD h zP = L[h] := by rw [List.getD, List.getElem?_eq_getElem hh]; rfl
  have ht : L.take (h + 1) = L.take h ++ [L.getD h zP] := by
    rw [List.take_add_one, List.getElem?_eq_getElem hh, hg]; rfl
  have hf : L.filter P = (L.take h).filter P ++ (L.getD h zP :: (L.drop (h + 1)).filter P) := by
    conv => lhs; rw [← List.take_append_drop h L]
    rw [List.filter_append, List.drop_eq_getElem_cons hh, ← hg, List.filter_cons, if_pos hp]
  refine ⟨?_, ?_, ?_⟩
  · unfold cntN
    rw [ht, List.filter_append, List.length_append]
    generalize L.getD h zP = y at hp ⊢
    rw [List.filter_cons, if_pos hp]; rfl
  · rw [hf]; unfold cntN; simp
  · rw [hf]; unfold cntN
    simp [List.getD]
theorem cntN_no {P : Pr → Bool} {L : List Pr} {h : Nat} (hh : h < L.length) (hp : P (L.getD h zP) = false) : cntN P L (h + 1) = cntN P L h := by
  have hg : L.getD h zP = L[h] := by rw [List.getD, List.getElem?_eq_getElem hh]; rfl
  have ht : L.take (h + 1) = L.take h ++ [L.getD h zP] := by
    rw [List.take_add_one, List.getElem?_eq_getElem hh, hg]; rfl
  unfold cntN
  rw [ht, List.filter_append]
  generalize L.getD h zP = y at hp ⊢
  rw [List.filter_cons, if_neg (by rw [hp]; simp)]
  simp
theorem dropK_filter {L : List Pr} (hn : (keysK L).Nodup) (k : Ky) : dropK L k = L.filter (fun x => decide (x.1 ≠ k)) := by
  unfold dropK
  cases hx : idxF (keysK L) k with
  | none =>
    have hk := idxF_no hx
    refine (List.filter_eq_self.2 fun x hx => ?_).symm
    simp
    intro e
    exact hk (e ▸ List.mem_map.2 ⟨x, hx, rfl⟩)
  | some i =>
    have hi := idxF_of hx
    have hil : i < L.length := by have := hi.1; rwa [keysK_len] at this
    rw [keysK_getD] at hi
    show L.eraseIdx i = _
    have hg : L.getD i zP = L[i] := by rw [List.getD, List.getElem?_eq_getElem hil]; rfl
    rw [List.eraseIdx_eq_take_drop_succ]
    conv => rhs; rw [← List.take_append_drop i L]
    rw [List.filter_append, List.drop_eq_getElem_cons hil, ← hg, List.filter_cons, if_neg (by rw [hi.2]; simp)]
    have hother : ∀ j (hj : j < L.length), j ≠ i → (L[j]).1 ≠ k := fun j hj hne e => by
      have h1 := List.getElem_inj (xs := keysK L) (i := j) (j := i) (h₀ := by rw [keysK_len]; exact hj) (h₁ := by rw [keysK_len]; exact hil) hn
      refine hne (h1.1 ?_)
      have h2 : (L[i]).1 = k := by rw [← hg]; exact hi.2
      simp [keysK, e, h2]
    rw [List.filter_eq_self.2, List.filter_eq_self.2]
    · intro x hx
      obtain ⟨j, hj, rfl⟩ := List.mem_iff_getElem.1 hx
      rw [List.length_drop] at hj
      rw [List.getElem_drop]
      exact decide_eq_true (hother _ (by omega) (by omega))
    · intro x hx
      obtain ⟨j, hj, rfl⟩ := List.mem_iff_getElem.1 hx
      rw [List.length_take] at hj
      rw [List.getElem_take]
      exact decide_eq_true (hother _ (by omega) (by omega))
theorem getK_dropped {L : List Pr} (hn : (keysK L).Nodup) (k : Ky) : getK (dropK L k) k = none := by
  rw [getK_none, dropK_filter hn]
  unfold keysK
  intro h
  obtain ⟨x, hx, e⟩ := List.mem_map.1 h
  have := (List.mem_filter.1 hx).2
  simp at this
  exact this e
theorem neqK (p q t p' q' t' : Int) (w : World) : (binOp .neq 34 (.agg #[.int .i64 p, .int .i64 q, .int .u64 t]) (.agg #[.int .i64 p', .int .i64 q', .int .u64 t'])).run Try.prog w = .ok (.bool (decide ((p, q, t) ≠ (p', q', t')))) w := by
  have e : (binOp .neq 34 (.agg #[.int .i64 p, .int .i64 q, .int .u64 t]) (.agg #[.int .i64 p', .int .i64 q', .int .u64 t'])).run Try.prog w = .ok (.bool (!(p == p' && (q == q' && t == t')))) w := by
    have hs : Try.prog.stoodInHeld 34 = false := by kernel_rfl
    simp only [binOp]
    simp [Op.equal, Op.maxDepth, run_equalIn_struct w 9999 34 _ _ (by simp [Program.fieldsOf, Try.underlying34]) hs, Program.fieldsOf, Try.underlying34, Op.eqFields, go_sem]
    by_cases h1 : p = p' <;> by_cases h2 : q = q' <;> by_cases h3 : t = t' <;> simp [h1, h2, h3]
  rw [e]
  congr 2
  by_cases h1 : p = p' <;> by_cases h2 : q = q' <;> by_cases h3 : t = t' <;> simp [h1, h2, h3]
end Go.Proofs.Ytefllfoilkbboaa
