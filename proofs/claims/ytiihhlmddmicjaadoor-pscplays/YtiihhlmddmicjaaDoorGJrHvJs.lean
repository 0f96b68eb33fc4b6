/- Several texts of ours in one: Jr, Hv, Js. -/
import Derived.Test.YtiihhlmddmicjaaDoorGCqCrJp
import Derived.Test.YtiihhlmddmicjaaDoorGHqHsJg
import Derived.Test.YtiihhlmddmicjaaDoorGErEtGs
import Derived.Deep.RegionLaw
import Derived.Deep.AppendLies
import Derived.Test.YtiihhlmddmicjaaDoorGRjBxCc
/- The document's psc (dormerref11): Fill. (Laid by tools/gen_jq.py.) -/
namespace Go.Proofs.YtiihhlmddmicjaaDoor
set_option linter.unusedVariables false
set_option linter.unusedSimpArgs false
open Go.ChangeShapes Go.WideShapes Go.ChangeAt Go.RowKit Go.Joins

theorem upd_len {R : Nat} {L : Ls} (h : ∀ k : Nat, k < 3 → (L k).length ≤ R) (j : Nat) (k : Ky) (l : Ln) (a : Int) (hj : j < 3) : ∀ i : Nat, i < 3 → (updL L j (putK R (L j) k l a) i).length ≤ R := fun i hi => by
  unfold updL
  split
  · exact putK_len (h j hj) k l a
  · exact h i hi

set_option maxRecDepth 100000 in
set_option maxHeartbeats 6400000 in
theorem rfillX_any (w : World) (v0 v1 v2 : Value) (L : Ls) (R : Nat) (h : DocX w v0 v1 v2 L) (hR : R ≤ 64) (hl : ∀ k : Nat, k < 3 → (L k).length ≤ R) (p a : Int) (ha : W64 a) (A : Option Addr) (n c : Nat) (T : List Stp) (why : Int) (W1 U1 X1 : Bool) (lv fr : Int) (hn : T.length = n) (hsz : n * 24 ≤ 140737488355328) (hS : StepsIn w (.slice A n c) T) (hw : ∀ k, k < T.length → W64 (stepAt T k).2.2)
    (lev t : Int) (W U X : Bool) (k0 k1 k2 : Int) (hk0 : I64 k0) (hk1 : I64 k1) (hk2 : I64 k2) :
    Calls Tryd.prog 32 #[xV v0 v1 v2 R, .int .i64 p, .int .u64 a, pathV (.slice A n c) why W1 U1 X1 lv fr, placeV lev t W U X, .agg #[.int .i64 k0, .int .i64 k1, .int .i64 k2]] w fun e w' =>
      ∃ u0 u1 u2, e = .returned (xV u0 u1 u2 R) ∧ NewX w w' v0 v1 v2 u0 u1 u2 (fillK R p a (pkF k0 k1 k2) T W U X L) ∧ Below w.heap.size w w' := by
  obtain ⟨S, hSR⟩ : ∃ S : Int, (R : Int) = S := ⟨_, rfl⟩
  obtain ⟨B0, m0, d0, rfl⟩ := h.a.slice
  obtain ⟨B1, m1, d1, rfl⟩ := h.b.slice
  obtain ⟨B2, m2, d2, rfl⟩ := h.c.slice
  have HST := Lib.hid hS
  have HWD := Lib.hid hw
  have HAA := Lib.hid ha
  have HN := Lib.hid hn
  have HPK : Hid (∀ k, I64 (pkF k0 k1 k2 k)) := Lib.hid (fun k => by unfold pkF; split; (· exact hk0); split; (· exact hk1); exact hk2)
  have HPU := Lib.hid fun w v M q' t' f' m' a' x1 x2 x3 x4 h1 h2 h3 => hSR ▸ rputU w v M R p q' t' f' m' a' x1 x2 x3 x4 h1 h2 h3
  have HR := Lib.hid hR
  have HLE := Lib.hid hl
  obtain ⟨L9, hL9⟩ : ∃ L9, fillK R p a (pkF k0 k1 k2) T W U X L = L9 := ⟨_, rfl⟩
  have HL9 : Hid (fillK R p a (pkF k0 k1 k2) (T.drop 0) W U X L = L9) := Lib.hid hL9
  rw [hSR, hL9]
  have HX0 : Hid (NewX w w (.slice B0 m0 d0) (.slice B1 m1 d1) (.slice B2 m2 d2) (.slice B0 m0 d0) (.slice B1 m1 d1) (.slice B2 m2 d2) L) := Lib.hid ⟨PairsNew.start h.a, PairsNew.start h.b, PairsNew.start h.c⟩
  have H0 := Lib.hid (((((((Mine.start w).new (b := w.heap.size) rfl #[(.slice B0 m0 d0), .int .i64 S, (.slice B1 m1 d1), .int .i64 S, (.slice B2 m2 d2), .int .i64 S] 31).new (b := w.heap.size + 1) (by simp) #[.slice A n c, .int .i64 why, .bool W1, .bool U1, .bool X1, .int .i64 lv, .int .u64 fr] 91).new (b := w.heap.size + 1 + 1) (by simp) #[.int .i64 lev, .int .u64 t, .bool W, .bool U, .bool X] 49).new (b := w.heap.size + 1 + 1 + 1) (by simp) #[.int .i64 k0, .int .i64 k1, .int .i64 k2] 42).new (b := w.heap.size + 1 + 1 + 1 + 1) (by simp) xZero 31).new (b := w.heap.size + 1 + 1 + 1 + 1 + 1) (by simp) #[.bool W, .bool U, .bool X] 47)
  clear h hR hl ha hn hS hw hk0 hk1 hk2 hSR hL9
  go_enter Tryd.func32, Tryd.ntmps32
  go_upto_region 2 with fail
  have hb1 := H0.out.below
  generalize hw1 : (((((w.alloc _).alloc _).alloc _).alloc _).alloc _).alloc _ = w1
  have H1 := Lib.hid (H0.out.world hw1)
  rw [hw1] at hb1
  have HX1 : Hid (NewX w w1 (.slice B0 m0 d0) (.slice B1 m1 d1) (.slice B2 m2 d2) (.slice B0 m0 d0) (.slice B1 m1 d1) (.slice B2 m2 d2) L) := Lib.hid ⟨HX0.out.a.quiet hb1, HX0.out.b.quiet hb1, HX0.out.c.quiet hb1⟩
  clear hw1 H0 HX0 hb1
  obtain ⟨b, hb⟩ : ∃ b, w.heap.size = b := ⟨_, rfl⟩
  rw [hb] at H1 ⊢
  have HBB := Lib.hid hb
  clear hb
  go_wp2_with fail
  go_loopw [14] (fun i wr => ∃ (k : Nat) (V1 V2 V3 : Bool) (L1 : Ls) (A0 : Option Addr) (n0 c0 : Nat) (A1 : Option Addr) (n1 c1 : Nat) (A2 : Option Addr) (n2 c2 : Nat), k ≤ n - 1 ∧ i = .int .i64 k ∧ Hid (fillK R p a (pkF k0 k1 k2) (T.drop k) V1 V2 V3 L1 = L9) ∧ Hid (∀ k : Nat, k < 3 → (L1 k).length ≤ R) ∧ Hid (Mine w wr [⟨b + 1 + 1 + 1 + 1 + 1, #[.bool V1, .bool V2, .bool V3], 47⟩, ⟨b + 1 + 1 + 1 + 1, xZero, 31⟩, ⟨b + 1 + 1 + 1, #[.int .i64 k0, .int .i64 k1, .int .i64 k2], 42⟩, ⟨b + 1 + 1, #[.int .i64 lev, .int .u64 t, .bool W, .bool U, .bool X], 49⟩, ⟨b + 1, #[.slice A n c, .int .i64 why, .bool W1, .bool U1, .bool X1, .int .i64 lv, .int .u64 fr], 91⟩, ⟨b, #[(.slice A0 n0 c0), .int .i64 S, (.slice A1 n1 c1), .int .i64 S, (.slice A2 n2 c2), .int .i64 S], 31⟩] []) ∧ Hid (NewX w wr (.slice B0 m0 d0) (.slice B1 m1 d1) (.slice B2 m2 d2) (.slice A0 n0 c0) (.slice A1 n1 c1) (.slice A2 n2 c2) L1)) (fun i _ => (n - intOf i).toNat)
  case atStart => exact ⟨0, W, U, X, L, B0, m0, d0, B1, m1, d1, B2, m2, d2, by omega, rfl, HL9, HLE, H1, HX1⟩
  case round =>
    obtain ⟨k, V1, V2, V3, L1, A0, n0, c0, A1, n1, c1, A2, n2, c2, hk, rfl, HD, HLE1, H1, HX1⟩ := hrel
    clear HL9 HLE
    obtain ⟨q0, q1, q2, q3, q4, q5, q6⟩ := (H1.out.at_ 4 rfl).seven
    have e0 : IntKind.i64.wrap ((k : Int) + 1) = (k : Int) + 1 := by rw [IntKind.wrap_i64]; omega
    by_cases hlt : k + 1 < n
    · have hlt2 := hlt
      have hc : (k : Int) + 1 < (n : Int) := by omega
      have hkn : k < n := by omega
      obtain ⟨⟨l, s, x⟩, hst⟩ : ∃ y, stepAt T k = y := ⟨_, rfl⟩
      obtain ⟨ad, rfl, d0', d1', d2'⟩ := steps_at (HST.out.below H1.out.below) (k := k) (by rw [HN.out]; omega)
      rw [hst] at d0' d1' d2'
      have HX : Hid (W64 x) := Lib.hid (by have := HWD.out k (by rw [HN.out]; omega); rw [hst] at this; exact this)
      have HSP := Lib.hid hst
      clear hst hlt
      go_upto_region 6 with fail
      have hbq := below_alloc1 wr (.cells #[.int .i64 l, .int .u64 s, .int .u64 x] 134)
      have HX2 : Hid (NewX w _ (.slice B0 m0 d0) (.slice B1 m1 d1) (.slice B2 m2 d2) (.slice A0 n0 c0) (.slice A1 n1 c1) (.slice A2 n2 c2) L1) := Lib.hid ⟨HX1.out.a.quiet hbq, HX1.out.b.quiet hbq, HX1.out.c.quiet hbq⟩
      generalize hw2 : wr.alloc _ = w2
      rw [hw2] at HX2
      have H2 := Lib.hid ((H1.out.new (b := wr.heap.size) rfl #[.int .i64 l, .int .u64 s, .int .u64 x] 134).world hw2)
      clear hw2 hbq H1 HX1 q0 q1 q2 q3 q4 q5 q6 d0' d1' d2'
      generalize wr.heap.size = bs at *
      obtain ⟨s0, s1, s2⟩ := (H2.out.at_ 0 rfl).c3
      have hbit := fun w => rbit_any x 0 w HX.out
      have hleaf := fun w => rleaf_any x l w HX.out
      have HBI := Lib.hid hbit
      have HLF := Lib.hid hleaf
      clear hbit hleaf
      cases hld : leadF l x with
      | false =>
        have HDE : Hid (L1 = L9) := Lib.hid (by rw [← HD.out, fill_no (by rw [HN.out]; exact hlt2) HSP.out hld])
        clear HD
        obtain ⟨r0, r1, r2, r3, r4, r5⟩ := (H2.out.at_ 2 rfl).c6
        obtain ⟨a0, a1, a2, a3, a4, a5⟩ := (H2.out.at_ 6 rfl).c6
        have g0 := (H2.out.at_ 2 rfl).fz 0; have g1 := (H2.out.at_ 2 rfl).fz 1; have g2 := (H2.out.at_ 2 rfl).fz 2; have g3 := (H2.out.at_ 2 rfl).fz 3; have g4 := (H2.out.at_ 2 rfl).fz 4; have g5 := (H2.out.at_ 2 rfl).fz 5
        cases hP : bitF x 0 with
        | false =>
          rw [hP] at HBI
          go_wp2_with (go_at_call 64; refine (HBI.out _).mono ?_; rintro e _ ⟨rfl, rfl⟩)
          refine bodyPost_ret (results_cell_row rfl _ _ (b + 1 + 1 + 1 + 1) _ _ _ _ rfl (setB6 (H2.out.at_ 2 rfl) _ _ _ _ _ _) Tryd.underlying31 rfl rfl) rfl ⟨_, _, _, rfl, HDE.out ▸ ⟨HX2.out.a.box (H2.out.at_ 2 rfl) (by decide) (turnB6 _ _ _ _ _ _ _ _), HX2.out.b.box (H2.out.at_ 2 rfl) (by decide) (turnB6 _ _ _ _ _ _ _ _), HX2.out.c.box (H2.out.at_ 2 rfl) (by decide) (turnB6 _ _ _ _ _ _ _ _)⟩, ?_⟩
          rw [← HBB.out]
          rw [← HBB.out] at H2
          exact (H2.out.put6 2 rfl rfl).below
        | true =>
          rw [hP] at HBI
          cases hLf : leafF x l with
          | true =>
            rw [hLf] at HLF
            go_wp2_with (first | (go_at_call 64; refine (HBI.out _).mono ?_; rintro e _ ⟨rfl, rfl⟩) | (go_at_call 65; refine (HLF.out _).mono ?_; rintro e _ ⟨rfl, rfl⟩))
            refine bodyPost_ret (results_cell_row rfl _ _ (b + 1 + 1 + 1 + 1) _ _ _ _ rfl (setB6 (H2.out.at_ 2 rfl) _ _ _ _ _ _) Tryd.underlying31 rfl rfl) rfl ⟨_, _, _, rfl, HDE.out ▸ ⟨HX2.out.a.box (H2.out.at_ 2 rfl) (by decide) (turnB6 _ _ _ _ _ _ _ _), HX2.out.b.box (H2.out.at_ 2 rfl) (by decide) (turnB6 _ _ _ _ _ _ _ _), HX2.out.c.box (H2.out.at_ 2 rfl) (by decide) (turnB6 _ _ _ _ _ _ _ _)⟩, ?_⟩
            rw [← HBB.out]
            rw [← HBB.out] at H2
            exact (H2.out.put6 2 rfl rfl).below
          | false =>
            rw [hLf] at HLF
            by_cases hl2 : l < 2
            · go_wp2_with (first | (go_at_call 64; refine (HBI.out _).mono ?_; rintro e _ ⟨rfl, rfl⟩) | (go_at_call 65; refine (HLF.out _).mono ?_; rintro e _ ⟨rfl, rfl⟩))
              refine bodyPost_ret (results_cell_row rfl _ _ (b + 1 + 1 + 1 + 1) _ _ _ _ rfl (setB6 (H2.out.at_ 2 rfl) _ _ _ _ _ _) Tryd.underlying31 rfl rfl) rfl ⟨_, _, _, rfl, HDE.out ▸ ⟨HX2.out.a.box (H2.out.at_ 2 rfl) (by decide) (turnB6 _ _ _ _ _ _ _ _), HX2.out.b.box (H2.out.at_ 2 rfl) (by decide) (turnB6 _ _ _ _ _ _ _ _), HX2.out.c.box (H2.out.at_ 2 rfl) (by decide) (turnB6 _ _ _ _ _ _ _ _)⟩, ?_⟩
              rw [← HBB.out]
              rw [← HBB.out] at H2
              exact (H2.out.put6 2 rfl rfl).below
            · have hl4 : 4 < l := by
                unfold leadF at hld
                rw [hP, hLf] at hld
                simp at hld
                omega
              have hl5 : decide (l < 2) = false := decide_eq_false hl2
              clear hl2 hld
              go_wp2_with (first | (go_at_call 64; refine (HBI.out _).mono ?_; rintro e _ ⟨rfl, rfl⟩) | (go_at_call 65; refine (HLF.out _).mono ?_; rintro e _ ⟨rfl, rfl⟩))
              refine bodyPost_ret (results_cell_row rfl _ _ (b + 1 + 1 + 1 + 1) _ _ _ _ rfl (setB6 (H2.out.at_ 2 rfl) _ _ _ _ _ _) Tryd.underlying31 rfl rfl) rfl ⟨_, _, _, rfl, HDE.out ▸ ⟨HX2.out.a.box (H2.out.at_ 2 rfl) (by decide) (turnB6 _ _ _ _ _ _ _ _), HX2.out.b.box (H2.out.at_ 2 rfl) (by decide) (turnB6 _ _ _ _ _ _ _ _), HX2.out.c.box (H2.out.at_ 2 rfl) (by decide) (turnB6 _ _ _ _ _ _ _ _)⟩, ?_⟩
              rw [← HBB.out]
              rw [← HBB.out] at H2
              exact (H2.out.put6 2 rfl rfl).below
      | true =>
        obtain ⟨hP, hLf, hl2, hl4⟩ := lead_parts hld
        rw [hP] at HBI
        rw [hLf] at HLF
        have hll : l = 2 ∨ l = 3 ∨ l = 4 := by omega
        have HD2 := Lib.hid ((fill_on (R := R) (p := p) (a := a) (pk := pkF k0 k1 k2) (W := V1) (U := V2) (X := V3) (L := L1) (by rw [HN.out]; exact hlt2) HSP.out hld).symm.trans HD.out)
        clear HD hl2 hl4 hP hLf hld
        rcases hll with rfl | rfl | rfl
        · go_upto_region 8 with (first | (go_at_call 64; refine (HBI.out _).mono ?_; rintro e _ ⟨rfl, rfl⟩) | (go_at_call 65; refine (HLF.out _).mono ?_; rintro e _ ⟨rfl, rfl⟩))
          obtain ⟨y0, y1, y2⟩ := (H2.out.at_ 1 rfl).c3
          go_upto_region 9 with (go_at_call 66; refine (rand_any V1 V2 V3 x _ HX.out).mono ?_; rintro e w3 ⟨rfl, hb3⟩; have HX3 : Hid (NewX w w3 (.slice B0 m0 d0) (.slice B1 m1 d1) (.slice B2 m2 d2) (.slice A0 n0 c0) (.slice A1 n1 c1) (.slice A2 n2 c2) L1) := Lib.hid ⟨HX2.out.a.quiet hb3, HX2.out.b.quiet hb3, HX2.out.c.quiet hb3⟩; have H3 := Lib.hid (H2.out.quiet hb3); clear hb3 s0 s1 s2 y0 y1 y2; obtain ⟨y0, y1, y2⟩ := (H3.out.at_ 1 rfl).c3; have f0 := (H3.out.at_ 1 rfl).fz 0; have f1 := (H3.out.at_ 1 rfl).fz 1; have f2 := (H3.out.at_ 1 rfl).fz 2)
          have ht3 := turnB3 w3 (b + 1 + 1 + 1 + 1 + 1) (.bool (V1 && bitF x 1)) (.bool (V2 && bitF x 2)) (.bool (V3 && !bitF x 63))
          have HX4 : Hid (NewX w _ (.slice B0 m0 d0) (.slice B1 m1 d1) (.slice B2 m2 d2) (.slice A0 n0 c0) (.slice A1 n1 c1) (.slice A2 n2 c2) L1) := Lib.hid ⟨HX3.out.a.box (H3.out.at_ 1 rfl) (by decide) ht3, HX3.out.b.box (H3.out.at_ 1 rfl) (by decide) ht3, HX3.out.c.box (H3.out.at_ 1 rfl) (by decide) ht3⟩
          generalize hw5 : ((w3.setCell _ _).setCell _ _).setCell _ _ = w5
          rw [hw5] at HX4
          have H5 := Lib.hid (H3.out.put3 1 rfl hw5)
          clear hw5 ht3 H2 H3 HX2 HX3 y0 y1 y2 f0 f1 f2
          obtain ⟨s0, s1, s2⟩ := (H5.out.at_ 0 rfl).c3
          generalize (V1 && bitF x 1) = V4 at *
          generalize (V2 && bitF x 2) = V5 at *
          generalize (V3 && !bitF x 63) = V6 at *
          go_upto_region 10 with fail
          clear s0 s1 s2
          refine wp_region_held_drew (S := fun w' => Blk w' bs #[.int .i64 2, .int .u64 s, .int .u64 x] 134 ∧ Blk w' (b + 1 + 1 + 1 + 1 + 1) #[.bool V4, .bool V5, .bool V6] 47 ∧ Blk w' (b + 1 + 1 + 1) #[.int .i64 k0, .int .i64 k1, .int .i64 k2] 42) (by kernel_rfl) ⟨(H5.out.quiet (Kept.drew0 w5)).at_ 0 rfl, (H5.out.quiet (Kept.drew0 w5)).at_ 1 rfl, (H5.out.quiet (Kept.drew0 w5)).at_ 3 rfl⟩ (fun hHeld => ?_)
          have hb := Kept.drew0 w5
          have X6 : Hid (NewX w w5.drew (.slice B0 m0 d0) (.slice B1 m1 d1) (.slice B2 m2 d2) (.slice A0 n0 c0) (.slice A1 n1 c1) (.slice A2 n2 c2) L1) := Lib.hid ⟨HX4.out.a.quiet hb, HX4.out.b.quiet hb, HX4.out.c.quiet hb⟩
          have H6 := Lib.hid (H5.out.quiet hb)
          clear hb H5 HX4
          generalize w5.drew = w6 at *
          refine tk (v := ?_) 0 ?_ ?_
          rotate_left
          · intro w hSw
            go_simp
            (try with_reducible rfl)
          (try simp only [Act.put, List.setIfInBounds_toArray, List.set_cons_zero, List.set_cons_succ])
          refine tk (v := ?_) 1 ?_ ?_
          rotate_left
          · intro w hSw
            go_simp
            (try with_reducible rfl)
          (try simp only [Act.put, List.setIfInBounds_toArray, List.set_cons_zero, List.set_cons_succ])
          refine tk (v := ?_) 2 ?_ ?_
          rotate_left
          · intro w hSw
            go_simp
            (try with_reducible rfl)
          (try simp only [Act.put, List.setIfInBounds_toArray, List.set_cons_zero, List.set_cons_succ])
          refine tk (v := ?_) 3 ?_ ?_
          rotate_left
          · intro w hSw
            go_simp
            (try with_reducible rfl)
          (try simp only [Act.put, List.setIfInBounds_toArray, List.set_cons_zero, List.set_cons_succ])
          refine tk (v := ?_) 5 ?_ ?_
          rotate_left
          · intro w hSw
            go_simp
            (try with_reducible rfl)
          (try simp only [Act.put, List.setIfInBounds_toArray, List.set_cons_zero, List.set_cons_succ])
          refine tk (v := ?_) 6 ?_ ?_
          rotate_left
          · intro w hSw
            go_simp
            (try with_reducible rfl)
          (try simp only [Act.put, List.setIfInBounds_toArray, List.set_cons_zero, List.set_cons_succ])
          refine tk (v := ?_) 7 ?_ ?_
          rotate_left
          · intro w hSw
            obtain ⟨s0, s1, s2⟩ := hSw.1.c3
            go_simp
            (try with_reducible rfl)
          (try simp only [Act.put, List.setIfInBounds_toArray, List.set_cons_zero, List.set_cons_succ])
          refine tk (v := ?_) 8 ?_ ?_
          rotate_left
          · intro w hSw
            go_simp
            (try with_reducible rfl)
          (try simp only [Act.put, List.setIfInBounds_toArray, List.set_cons_zero, List.set_cons_succ])
          refine tk (v := ?_) 10 ?_ ?_
          rotate_left
          · intro w hSw
            go_simp
            (try with_reducible rfl)
          (try simp only [Act.put, List.setIfInBounds_toArray, List.set_cons_zero, List.set_cons_succ])
          refine tk (v := ?_) 11 ?_ ?_
          rotate_left
          · intro w hSw
            obtain ⟨s0, s1, s2⟩ := hSw.1.c3
            go_simp
            (try with_reducible rfl)
          (try simp only [Act.put, List.setIfInBounds_toArray, List.set_cons_zero, List.set_cons_succ])
          refine tk (v := ?_) 13 ?_ ?_
          rotate_left
          · intro w hSw
            obtain ⟨y0, y1, y2⟩ := hSw.2.1.c3
            go_simp
            (try with_reducible rfl)
          (try simp only [Act.put, List.setIfInBounds_toArray, List.set_cons_zero, List.set_cons_succ])
          refine tk (v := ?_) 15 ?_ ?_
          rotate_left
          · intro w hSw
            go_simp
            (try with_reducible rfl)
          (try simp only [Act.put, List.setIfInBounds_toArray, List.set_cons_zero, List.set_cons_succ])
          refine tk (v := ?_) 16 ?_ ?_
          rotate_left
          · intro w hSw
            go_simp
            (try with_reducible rfl)
          (try simp only [Act.put, List.setIfInBounds_toArray, List.set_cons_zero, List.set_cons_succ])
          refine tk (v := ?_) 17 ?_ ?_
          rotate_left
          · intro w hSw
            obtain ⟨p0, p1, p2⟩ := hSw.2.2.c3
            go_simp
            (try with_reducible rfl)
          (try simp only [Act.put, List.setIfInBounds_toArray, List.set_cons_zero, List.set_cons_succ])
          refine tk (v := ?_) 19 ?_ ?_
          rotate_left
          · intro w hSw
            go_simp
            (try with_reducible rfl)
          (try simp only [Act.put, List.setIfInBounds_toArray, List.set_cons_zero, List.set_cons_succ])
          refine wpAnyH_ready (rs := [4, 9]) (by kernel_rfl) (by simp) ?_
          refine anyH_one rfl (fun K hK => ?_) ?_
          · obtain ⟨a0, a1, a2, a3, a4, a5⟩ := (H6.out.at_ 6 rfl).c6
            go_simp
            clear a0 a1 a2 a3 a4 a5
            refine hK.out _ _ (hHeld) (fun hHeld => ?_)
            clear hK K
            (try simp only [Act.put, List.setIfInBounds_toArray, List.set_cons_zero, List.set_cons_succ])
            refine wpAnyH_ready (rs := [9]) (by kernel_rfl) (by simp) ?_
            refine anyH_one rfl (fun K hK => ?_) ?_
            · go_simp
              refine (rkey_any p 2 a _ HAA.out (by decide) (by decide)).mono ?_
              rintro e w7 ⟨rfl, hb⟩
              have X7 : Hid (NewX w w7 (.slice B0 m0 d0) (.slice B1 m1 d1) (.slice B2 m2 d2) (.slice A0 n0 c0) (.slice A1 n1 c1) (.slice A2 n2 c2) L1) := Lib.hid ⟨X6.out.a.quiet hb, X6.out.b.quiet hb, X6.out.c.quiet hb⟩
              have H7 := Lib.hid (H6.out.quiet hb)
              clear hb H6 X6
              refine hK.out _ _ (⟨H7.out.at_ 0 rfl, H7.out.at_ 1 rfl, H7.out.at_ 3 rfl⟩) (fun hHeld => ?_)
              clear hK K
              (try simp only [Act.put, List.setIfInBounds_toArray, List.set_cons_zero, List.set_cons_succ])
              refine wpAnyH_ready (rs := [12]) (by kernel_rfl) (by simp) ?_
              refine anyH_one rfl (fun K hK => ?_) ?_
              · go_simp
                refine (rtable_any _ _ HX.out).mono ?_
                rintro e _ ⟨rfl, rfl⟩
                refine hK.out _ _ (hHeld) (fun hHeld => ?_)
                clear hK K
                (try simp only [Act.put, List.setIfInBounds_toArray, List.set_cons_zero, List.set_cons_succ])
                refine tk (v := ?_) 14 ?_ ?_
                rotate_left
                · intro w hSw
                  go_simp
                  (try with_reducible rfl)
                (try simp only [Act.put, List.setIfInBounds_toArray, List.set_cons_zero, List.set_cons_succ])
                refine wpAnyH_ready (rs := [18]) (by kernel_rfl) (by simp) ?_
                refine anyH_one rfl (fun K hK => ?_) ?_
                · go_simp
                  refine (HPU.out _ (.slice A2 n2 c2) (L1 2) 2 (tagF a 2) (tableF x) 0 _ V4 V5 V6 false X7.out.c.1 (by have := HLE1.out 2 (by decide); have := HR.out; omega) (HPK.out (kOf 2))).mono ?_
                  rintro e w8 ⟨Az, nz, cz, rfl, hP, hb⟩
                  have X8 : Hid (NewX w w8 (.slice B0 m0 d0) (.slice B1 m1 d1) (.slice B2 m2 d2) (.slice A0 n0 c0) (.slice A1 n1 c1) (.slice Az nz cz) (updL L1 (kOf 2) (putK R (L1 (kOf 2)) (kyF p a 2) (tableF x, V4, V5, V6, false, 0) (pkF k0 k1 k2 (kOf 2))))) := Lib.hid ⟨X7.out.a.quiet hb, X7.out.b.quiet hb, X7.out.c.next hP H7.out.size⟩
                  have H8 := Lib.hid (H7.out.quiet hb)
                  clear hb hP H7 X7
                  refine hK.out _ _ (⟨H8.out.at_ 0 rfl, H8.out.at_ 1 rfl, H8.out.at_ 3 rfl⟩) (fun hHeld => ?_)
                  clear hK K
                  (try simp only [Act.put, List.setIfInBounds_toArray, List.set_cons_zero, List.set_cons_succ])
                  refine tk (v := ?_) 20 ?_ ?_
                  rotate_left
                  · intro w hSw
                    go_simp
                    (try with_reducible rfl)
                  (try simp only [Act.put, List.setIfInBounds_toArray, List.set_cons_zero, List.set_cons_succ])
                  refine wpAnyH_ready (rs := [21]) (by kernel_rfl) (by simp) ?_
                  refine anyH_one rfl (fun K hK => ?_) ?_
                  · obtain ⟨a0, a1, a2, a3, a4, a5⟩ := (H8.out.at_ 6 rfl).c6
                    have f0 := (H8.out.at_ 6 rfl).fz 0; have f1 := (H8.out.at_ 6 rfl).fz 1; have f2 := (H8.out.at_ 6 rfl).fz 2; have f3 := (H8.out.at_ 6 rfl).fz 3; have f4 := (H8.out.at_ 6 rfl).fz 4; have f5 := (H8.out.at_ 6 rfl).fz 5
                    go_simp
                    generalize hq : (w8.setCell _ _).setCell _ _ = w9
                    have ht : Turn (fun i => i = b) w8 w9 := by rw [← hq]; exact turnX _ _ _ _ _ _
                    have X9 : Hid (NewX w w9 _ _ _ _ _ _ _) := Lib.hid ⟨X8.out.a.box (H8.out.at_ 6 rfl) (by decide) ht, X8.out.b.box (H8.out.at_ 6 rfl) (by decide) ht, X8.out.c.box (H8.out.at_ 6 rfl) (by decide) ht⟩
                    have H9 := Lib.hid ((H8.out.put 6 rfl (turnX _ _ 4 5 _ _) (setX2 (H8.out.at_ 6 rfl) _ _)).world hq)
                    clear ht
                    clear hq X8 H8 a0 a1 a2 a3 a4 a5 f0 f1 f2 f3 f4 f5
                    refine hK.out _ _ (⟨H9.out.at_ 0 rfl, H9.out.at_ 1 rfl, H9.out.at_ 3 rfl⟩) (fun hHeld => ?_)
                    clear hK K
                    (try simp only [Act.put, List.setIfInBounds_toArray, List.set_cons_zero, List.set_cons_succ])
                    refine wpAnyH_done (by kernel_rfl) ?_ _
                    clear hHeld
                    have HN2 := Lib.hid (H9.out.pick [1, 2, 3, 4, 5, 6] [])
                    clear H9
                    have HLE2 := Lib.hid (upd_len HLE1.out (kOf 2) (kyF p a 2) (tableF x, V4, V5, V6, false, 0) (pkF k0 k1 k2 (kOf 2)) (by decide))
                    go_wp2
                    go_roundw
                    case rel => exact ⟨k + 1, V4, V5, V6, _, A0, n0, c0, A1, n1, c1, Az, nz, cz, by omega, by go_num, HD2, HLE2, HN2, X9⟩
                    case measure => simp [intOf]; omega
                  exact AllReadyH.nil
                exact AllReadyH.nil
              exact AllReadyH.nil
            exact AllReadyH.nil
          refine anyH_one rfl (fun K hK => ?_) ?_
          · go_simp
            refine (rkey_any p 2 a _ HAA.out (by decide) (by decide)).mono ?_
            rintro e w7 ⟨rfl, hb⟩
            have X7 : Hid (NewX w w7 (.slice B0 m0 d0) (.slice B1 m1 d1) (.slice B2 m2 d2) (.slice A0 n0 c0) (.slice A1 n1 c1) (.slice A2 n2 c2) L1) := Lib.hid ⟨X6.out.a.quiet hb, X6.out.b.quiet hb, X6.out.c.quiet hb⟩
            have H7 := Lib.hid (H6.out.quiet hb)
            clear hb H6 X6
            refine hK.out _ _ (⟨H7.out.at_ 0 rfl, H7.out.at_ 1 rfl, H7.out.at_ 3 rfl⟩) (fun hHeld => ?_)
            clear hK K
            (try simp only [Act.put, List.setIfInBounds_toArray, List.set_cons_zero, List.set_cons_succ])
            refine wpAnyH_ready (rs := [4, 12]) (by kernel_rfl) (by simp) ?_
            refine anyH_one rfl (fun K hK => ?_) ?_
            · obtain ⟨a0, a1, a2, a3, a4, a5⟩ := (H7.out.at_ 6 rfl).c6
              go_simp
              clear a0 a1 a2 a3 a4 a5
              refine hK.out _ _ (hHeld) (fun hHeld => ?_)
              clear hK K
              (try simp only [Act.put, List.setIfInBounds_toArray, List.set_cons_zero, List.set_cons_succ])
              refine wpAnyH_ready (rs := [12]) (by kernel_rfl) (by simp) ?_
              refine anyH_one rfl (fun K hK => ?_) ?_
              · go_simp
                refine (rtable_any _ _ HX.out).mono ?_
                rintro e _ ⟨rfl, rfl⟩
                refine hK.out _ _ (hHeld) (fun hHeld => ?_)
                clear hK K
                (try simp only [Act.put, List.setIfInBounds_toArray, List.set_cons_zero, List.set_cons_succ])
                refine tk (v := ?_) 14 ?_ ?_
                rotate_left
                · intro w hSw
                  go_simp
                  (try with_reducible rfl)
                (try simp only [Act.put, List.setIfInBounds_toArray, List.set_cons_zero, List.set_cons_succ])
                refine wpAnyH_ready (rs := [18]) (by kernel_rfl) (by simp) ?_
                refine anyH_one rfl (fun K hK => ?_) ?_
                · go_simp
                  refine (HPU.out _ (.slice A2 n2 c2) (L1 2) 2 (tagF a 2) (tableF x) 0 _ V4 V5 V6 false X7.out.c.1 (by have := HLE1.out 2 (by decide); have := HR.out; omega) (HPK.out (kOf 2))).mono ?_
                  rintro e w8 ⟨Az, nz, cz, rfl, hP, hb⟩
                  have X8 : Hid (NewX w w8 (.slice B0 m0 d0) (.slice B1 m1 d1) (.slice B2 m2 d2) (.slice A0 n0 c0) (.slice A1 n1 c1) (.slice Az nz cz) (updL L1 (kOf 2) (putK R (L1 (kOf 2)) (kyF p a 2) (tableF x, V4, V5, V6, false, 0) (pkF k0 k1 k2 (kOf 2))))) := Lib.hid ⟨X7.out.a.quiet hb, X7.out.b.quiet hb, X7.out.c.next hP H7.out.size⟩
                  have H8 := Lib.hid (H7.out.quiet hb)
                  clear hb hP H7 X7
                  refine hK.out _ _ (⟨H8.out.at_ 0 rfl, H8.out.at_ 1 rfl, H8.out.at_ 3 rfl⟩) (fun hHeld => ?_)
                  clear hK K
                  (try simp only [Act.put, List.setIfInBounds_toArray, List.set_cons_zero, List.set_cons_succ])
                  refine tk (v := ?_) 20 ?_ ?_
                  rotate_left
                  · intro w hSw
                    go_simp
                    (try with_reducible rfl)
                  (try simp only [Act.put, List.setIfInBounds_toArray, List.set_cons_zero, List.set_cons_succ])
                  refine wpAnyH_ready (rs := [21]) (by kernel_rfl) (by simp) ?_
                  refine anyH_one rfl (fun K hK => ?_) ?_
                  · obtain ⟨a0, a1, a2, a3, a4, a5⟩ := (H8.out.at_ 6 rfl).c6
                    have f0 := (H8.out.at_ 6 rfl).fz 0; have f1 := (H8.out.at_ 6 rfl).fz 1; have f2 := (H8.out.at_ 6 rfl).fz 2; have f3 := (H8.out.at_ 6 rfl).fz 3; have f4 := (H8.out.at_ 6 rfl).fz 4; have f5 := (H8.out.at_ 6 rfl).fz 5
                    go_simp
                    generalize hq : (w8.setCell _ _).setCell _ _ = w9
                    have ht : Turn (fun i => i = b) w8 w9 := by rw [← hq]; exact turnX _ _ _ _ _ _
                    have X9 : Hid (NewX w w9 _ _ _ _ _ _ _) := Lib.hid ⟨X8.out.a.box (H8.out.at_ 6 rfl) (by decide) ht, X8.out.b.box (H8.out.at_ 6 rfl) (by decide) ht, X8.out.c.box (H8.out.at_ 6 rfl) (by decide) ht⟩
                    have H9 := Lib.hid ((H8.out.put 6 rfl (turnX _ _ 4 5 _ _) (setX2 (H8.out.at_ 6 rfl) _ _)).world hq)
                    clear ht
                    clear hq X8 H8 a0 a1 a2 a3 a4 a5 f0 f1 f2 f3 f4 f5
                    refine hK.out _ _ (⟨H9.out.at_ 0 rfl, H9.out.at_ 1 rfl, H9.out.at_ 3 rfl⟩) (fun hHeld => ?_)
                    clear hK K
                    (try simp only [Act.put, List.setIfInBounds_toArray, List.set_cons_zero, List.set_cons_succ])
                    refine wpAnyH_done (by kernel_rfl) ?_ _
                    clear hHeld
                    have HN2 := Lib.hid (H9.out.pick [1, 2, 3, 4, 5, 6] [])
                    clear H9
                    have HLE2 := Lib.hid (upd_len HLE1.out (kOf 2) (kyF p a 2) (tableF x, V4, V5, V6, false, 0) (pkF k0 k1 k2 (kOf 2)) (by decide))
                    go_wp2
                    go_roundw
                    case rel => exact ⟨k + 1, V4, V5, V6, _, A0, n0, c0, A1, n1, c1, Az, nz, cz, by omega, by go_num, HD2, HLE2, HN2, X9⟩
                    case measure => simp [intOf]; omega
                  exact AllReadyH.nil
                exact AllReadyH.nil
              exact AllReadyH.nil
            refine anyH_one rfl (fun K hK => ?_) ?_
            · go_simp
              refine (rtable_any _ _ HX.out).mono ?_
              rintro e _ ⟨rfl, rfl⟩
              refine hK.out _ _ (hHeld) (fun hHeld => ?_)
              clear hK K
              (try simp only [Act.put, List.setIfInBounds_toArray, List.set_cons_zero, List.set_cons_succ])
              refine tk (v := ?_) 14 ?_ ?_
              rotate_left
              · intro w hSw
                go_simp
                (try with_reducible rfl)
              (try simp only [Act.put, List.setIfInBounds_toArray, List.set_cons_zero, List.set_cons_succ])
              refine wpAnyH_ready (rs := [4]) (by kernel_rfl) (by simp) ?_
              refine anyH_one rfl (fun K hK => ?_) ?_
              · obtain ⟨a0, a1, a2, a3, a4, a5⟩ := (H7.out.at_ 6 rfl).c6
                go_simp
                clear a0 a1 a2 a3 a4 a5
                refine hK.out _ _ (hHeld) (fun hHeld => ?_)
                clear hK K
                (try simp only [Act.put, List.setIfInBounds_toArray, List.set_cons_zero, List.set_cons_succ])
                refine wpAnyH_ready (rs := [18]) (by kernel_rfl) (by simp) ?_
                refine anyH_one rfl (fun K hK => ?_) ?_
                · go_simp
                  refine (HPU.out _ (.slice A2 n2 c2) (L1 2) 2 (tagF a 2) (tableF x) 0 _ V4 V5 V6 false X7.out.c.1 (by have := HLE1.out 2 (by decide); have := HR.out; omega) (HPK.out (kOf 2))).mono ?_
                  rintro e w8 ⟨Az, nz, cz, rfl, hP, hb⟩
                  have X8 : Hid (NewX w w8 (.slice B0 m0 d0) (.slice B1 m1 d1) (.slice B2 m2 d2) (.slice A0 n0 c0) (.slice A1 n1 c1) (.slice Az nz cz) (updL L1 (kOf 2) (putK R (L1 (kOf 2)) (kyF p a 2) (tableF x, V4, V5, V6, false, 0) (pkF k0 k1 k2 (kOf 2))))) := Lib.hid ⟨X7.out.a.quiet hb, X7.out.b.quiet hb, X7.out.c.next hP H7.out.size⟩
                  have H8 := Lib.hid (H7.out.quiet hb)
                  clear hb hP H7 X7
                  refine hK.out _ _ (⟨H8.out.at_ 0 rfl, H8.out.at_ 1 rfl, H8.out.at_ 3 rfl⟩) (fun hHeld => ?_)
                  clear hK K
                  (try simp only [Act.put, List.setIfInBounds_toArray, List.set_cons_zero, List.set_cons_succ])
                  refine tk (v := ?_) 20 ?_ ?_
                  rotate_left
                  · intro w hSw
                    go_simp
                    (try with_reducible rfl)
                  (try simp only [Act.put, List.setIfInBounds_toArray, List.set_cons_zero, List.set_cons_succ])
                  refine wpAnyH_ready (rs := [21]) (by kernel_rfl) (by simp) ?_
                  refine anyH_one rfl (fun K hK => ?_) ?_
                  · obtain ⟨a0, a1, a2, a3, a4, a5⟩ := (H8.out.at_ 6 rfl).c6
                    have f0 := (H8.out.at_ 6 rfl).fz 0; have f1 := (H8.out.at_ 6 rfl).fz 1; have f2 := (H8.out.at_ 6 rfl).fz 2; have f3 := (H8.out.at_ 6 rfl).fz 3; have f4 := (H8.out.at_ 6 rfl).fz 4; have f5 := (H8.out.at_ 6 rfl).fz 5
                    go_simp
                    generalize hq : (w8.setCell _ _).setCell _ _ = w9
                    have ht : Turn (fun i => i = b) w8 w9 := by rw [← hq]; exact turnX _ _ _ _ _ _
                    have X9 : Hid (NewX w w9 _ _ _ _ _ _ _) := Lib.hid ⟨X8.out.a.box (H8.out.at_ 6 rfl) (by decide) ht, X8.out.b.box (H8.out.at_ 6 rfl) (by decide) ht, X8.out.c.box (H8.out.at_ 6 rfl) (by decide) ht⟩
                    have H9 := Lib.hid ((H8.out.put 6 rfl (turnX _ _ 4 5 _ _) (setX2 (H8.out.at_ 6 rfl) _ _)).world hq)
                    clear ht
                    clear hq X8 H8 a0 a1 a2 a3 a4 a5 f0 f1 f2 f3 f4 f5
                    refine hK.out _ _ (⟨H9.out.at_ 0 rfl, H9.out.at_ 1 rfl, H9.out.at_ 3 rfl⟩) (fun hHeld => ?_)
                    clear hK K
                    (try simp only [Act.put, List.setIfInBounds_toArray, List.set_cons_zero, List.set_cons_succ])
                    refine wpAnyH_done (by kernel_rfl) ?_ _
                    clear hHeld
                    have HN2 := Lib.hid (H9.out.pick [1, 2, 3, 4, 5, 6] [])
                    clear H9
                    have HLE2 := Lib.hid (upd_len HLE1.out (kOf 2) (kyF p a 2) (tableF x, V4, V5, V6, false, 0) (pkF k0 k1 k2 (kOf 2)) (by decide))
                    go_wp2
                    go_roundw
                    case rel => exact ⟨k + 1, V4, V5, V6, _, A0, n0, c0, A1, n1, c1, Az, nz, cz, by omega, by go_num, HD2, HLE2, HN2, X9⟩
                    case measure => simp [intOf]; omega
                  exact AllReadyH.nil
                exact AllReadyH.nil
              exact AllReadyH.nil
            exact AllReadyH.nil
          exact AllReadyH.nil
        · go_upto_region 8 with (first | (go_at_call 64; refine (HBI.out _).mono ?_; rintro e _ ⟨rfl, rfl⟩) | (go_at_call 65; refine (HLF.out _).mono ?_; rintro e _ ⟨rfl, rfl⟩))
          obtain ⟨y0, y1, y2⟩ := (H2.out.at_ 1 rfl).c3
          go_upto_region 9 with (go_at_call 66; refine (rand_any V1 V2 V3 x _ HX.out).mono ?_; rintro e w3 ⟨rfl, hb3⟩; have HX3 : Hid (NewX w w3 (.slice B0 m0 d0) (.slice B1 m1 d1) (.slice B2 m2 d2) (.slice A0 n0 c0) (.slice A1 n1 c1) (.slice A2 n2 c2) L1) := Lib.hid ⟨HX2.out.a.quiet hb3, HX2.out.b.quiet hb3, HX2.out.c.quiet hb3⟩; have H3 := Lib.hid (H2.out.quiet hb3); clear hb3 s0 s1 s2 y0 y1 y2; obtain ⟨y0, y1, y2⟩ := (H3.out.at_ 1 rfl).c3; have f0 := (H3.out.at_ 1 rfl).fz 0; have f1 := (H3.out.at_ 1 rfl).fz 1; have f2 := (H3.out.at_ 1 rfl).fz 2)
          have ht3 := turnB3 w3 (b + 1 + 1 + 1 + 1 + 1) (.bool (V1 && bitF x 1)) (.bool (V2 && bitF x 2)) (.bool (V3 && !bitF x 63))
          have HX4 : Hid (NewX w _ (.slice B0 m0 d0) (.slice B1 m1 d1) (.slice B2 m2 d2) (.slice A0 n0 c0) (.slice A1 n1 c1) (.slice A2 n2 c2) L1) := Lib.hid ⟨HX3.out.a.box (H3.out.at_ 1 rfl) (by decide) ht3, HX3.out.b.box (H3.out.at_ 1 rfl) (by decide) ht3, HX3.out.c.box (H3.out.at_ 1 rfl) (by decide) ht3⟩
          generalize hw5 : ((w3.setCell _ _).setCell _ _).setCell _ _ = w5
          rw [hw5] at HX4
          have H5 := Lib.hid (H3.out.put3 1 rfl hw5)
          clear hw5 ht3 H2 H3 HX2 HX3 y0 y1 y2 f0 f1 f2
          obtain ⟨s0, s1, s2⟩ := (H5.out.at_ 0 rfl).c3
          generalize (V1 && bitF x 1) = V4 at *
          generalize (V2 && bitF x 2) = V5 at *
          generalize (V3 && !bitF x 63) = V6 at *
          go_upto_region 10 with fail
          clear s0 s1 s2
          refine wp_region_held_drew (S := fun w' => Blk w' bs #[.int .i64 3, .int .u64 s, .int .u64 x] 134 ∧ Blk w' (b + 1 + 1 + 1 + 1 + 1) #[.bool V4, .bool V5, .bool V6] 47 ∧ Blk w' (b + 1 + 1 + 1) #[.int .i64 k0, .int .i64 k1, .int .i64 k2] 42) (by kernel_rfl) ⟨(H5.out.quiet (Kept.drew0 w5)).at_ 0 rfl, (H5.out.quiet (Kept.drew0 w5)).at_ 1 rfl, (H5.out.quiet (Kept.drew0 w5)).at_ 3 rfl⟩ (fun hHeld => ?_)
          have hb := Kept.drew0 w5
          have X6 : Hid (NewX w w5.drew (.slice B0 m0 d0) (.slice B1 m1 d1) (.slice B2 m2 d2) (.slice A0 n0 c0) (.slice A1 n1 c1) (.slice A2 n2 c2) L1) := Lib.hid ⟨HX4.out.a.quiet hb, HX4.out.b.quiet hb, HX4.out.c.quiet hb⟩
          have H6 := Lib.hid (H5.out.quiet hb)
          clear hb H5 HX4
          generalize w5.drew = w6 at *
          refine tk (v := ?_) 0 ?_ ?_
          rotate_left
          · intro w hSw
            go_simp
            (try with_reducible rfl)
          (try simp only [Act.put, List.setIfInBounds_toArray, List.set_cons_zero, List.set_cons_succ])
          refine tk (v := ?_) 1 ?_ ?_
          rotate_left
          · intro w hSw
            go_simp
            (try with_reducible rfl)
          (try simp only [Act.put, List.setIfInBounds_toArray, List.set_cons_zero, List.set_cons_succ])
          refine tk (v := ?_) 2 ?_ ?_
          rotate_left
          · intro w hSw
            go_simp
            (try with_reducible rfl)
          (try simp only [Act.put, List.setIfInBounds_toArray, List.set_cons_zero, List.set_cons_succ])
          refine tk (v := ?_) 3 ?_ ?_
          rotate_left
          · intro w hSw
            go_simp
            (try with_reducible rfl)
          (try simp only [Act.put, List.setIfInBounds_toArray, List.set_cons_zero, List.set_cons_succ])
          refine tk (v := ?_) 5 ?_ ?_
          rotate_left
          · intro w hSw
            go_simp
            (try with_reducible rfl)
          (try simp only [Act.put, List.setIfInBounds_toArray, List.set_cons_zero, List.set_cons_succ])
          refine tk (v := ?_) 6 ?_ ?_
          rotate_left
          · intro w hSw
            go_simp
            (try with_reducible rfl)
          (try simp only [Act.put, List.setIfInBounds_toArray, List.set_cons_zero, List.set_cons_succ])
          refine tk (v := ?_) 7 ?_ ?_
          rotate_left
          · intro w hSw
            obtain ⟨s0, s1, s2⟩ := hSw.1.c3
            go_simp
            (try with_reducible rfl)
          (try simp only [Act.put, List.setIfInBounds_toArray, List.set_cons_zero, List.set_cons_succ])
          refine tk (v := ?_) 8 ?_ ?_
          rotate_left
          · intro w hSw
            go_simp
            (try with_reducible rfl)
          (try simp only [Act.put, List.setIfInBounds_toArray, List.set_cons_zero, List.set_cons_succ])
          refine tk (v := ?_) 10 ?_ ?_
          rotate_left
          · intro w hSw
            go_simp
            (try with_reducible rfl)
          (try simp only [Act.put, List.setIfInBounds_toArray, List.set_cons_zero, List.set_cons_succ])
          refine tk (v := ?_) 11 ?_ ?_
          rotate_left
          · intro w hSw
            obtain ⟨s0, s1, s2⟩ := hSw.1.c3
            go_simp
            (try with_reducible rfl)
          (try simp only [Act.put, List.setIfInBounds_toArray, List.set_cons_zero, List.set_cons_succ])
          refine tk (v := ?_) 13 ?_ ?_
          rotate_left
          · intro w hSw
            obtain ⟨y0, y1, y2⟩ := hSw.2.1.c3
            go_simp
            (try with_reducible rfl)
          (try simp only [Act.put, List.setIfInBounds_toArray, List.set_cons_zero, List.set_cons_succ])
          refine tk (v := ?_) 15 ?_ ?_
          rotate_left
          · intro w hSw
            go_simp
            (try with_reducible rfl)
          (try simp only [Act.put, List.setIfInBounds_toArray, List.set_cons_zero, List.set_cons_succ])
          refine tk (v := ?_) 16 ?_ ?_
          rotate_left
          · intro w hSw
            go_simp
            (try with_reducible rfl)
          (try simp only [Act.put, List.setIfInBounds_toArray, List.set_cons_zero, List.set_cons_succ])
          refine tk (v := ?_) 17 ?_ ?_
          rotate_left
          · intro w hSw
            obtain ⟨p0, p1, p2⟩ := hSw.2.2.c3
            go_simp
            (try with_reducible rfl)
          (try simp only [Act.put, List.setIfInBounds_toArray, List.set_cons_zero, List.set_cons_succ])
          refine tk (v := ?_) 19 ?_ ?_
          rotate_left
          · intro w hSw
            go_simp
            (try with_reducible rfl)
          (try simp only [Act.put, List.setIfInBounds_toArray, List.set_cons_zero, List.set_cons_succ])
          refine wpAnyH_ready (rs := [4, 9]) (by kernel_rfl) (by simp) ?_
          refine anyH_one rfl (fun K hK => ?_) ?_
          · obtain ⟨a0, a1, a2, a3, a4, a5⟩ := (H6.out.at_ 6 rfl).c6
            go_simp
            clear a0 a1 a2 a3 a4 a5
            refine hK.out _ _ (hHeld) (fun hHeld => ?_)
            clear hK K
            (try simp only [Act.put, List.setIfInBounds_toArray, List.set_cons_zero, List.set_cons_succ])
            refine wpAnyH_ready (rs := [9]) (by kernel_rfl) (by simp) ?_
            refine anyH_one rfl (fun K hK => ?_) ?_
            · go_simp
              refine (rkey_any p 3 a _ HAA.out (by decide) (by decide)).mono ?_
              rintro e w7 ⟨rfl, hb⟩
              have X7 : Hid (NewX w w7 (.slice B0 m0 d0) (.slice B1 m1 d1) (.slice B2 m2 d2) (.slice A0 n0 c0) (.slice A1 n1 c1) (.slice A2 n2 c2) L1) := Lib.hid ⟨X6.out.a.quiet hb, X6.out.b.quiet hb, X6.out.c.quiet hb⟩
              have H7 := Lib.hid (H6.out.quiet hb)
              clear hb H6 X6
              refine hK.out _ _ (⟨H7.out.at_ 0 rfl, H7.out.at_ 1 rfl, H7.out.at_ 3 rfl⟩) (fun hHeld => ?_)
              clear hK K
              (try simp only [Act.put, List.setIfInBounds_toArray, List.set_cons_zero, List.set_cons_succ])
              refine wpAnyH_ready (rs := [12]) (by kernel_rfl) (by simp) ?_
              refine anyH_one rfl (fun K hK => ?_) ?_
              · go_simp
                refine (rtable_any _ _ HX.out).mono ?_
                rintro e _ ⟨rfl, rfl⟩
                refine hK.out _ _ (hHeld) (fun hHeld => ?_)
                clear hK K
                (try simp only [Act.put, List.setIfInBounds_toArray, List.set_cons_zero, List.set_cons_succ])
                refine tk (v := ?_) 14 ?_ ?_
                rotate_left
                · intro w hSw
                  go_simp
                  (try with_reducible rfl)
                (try simp only [Act.put, List.setIfInBounds_toArray, List.set_cons_zero, List.set_cons_succ])
                refine wpAnyH_ready (rs := [18]) (by kernel_rfl) (by simp) ?_
                refine anyH_one rfl (fun K hK => ?_) ?_
                · go_simp
                  refine (HPU.out _ (.slice A1 n1 c1) (L1 1) 3 (tagF a 3) (tableF x) 0 _ V4 V5 V6 false X7.out.b.1 (by have := HLE1.out 1 (by decide); have := HR.out; omega) (HPK.out (kOf 3))).mono ?_
                  rintro e w8 ⟨Az, nz, cz, rfl, hP, hb⟩
                  have X8 : Hid (NewX w w8 (.slice B0 m0 d0) (.slice B1 m1 d1) (.slice B2 m2 d2) (.slice A0 n0 c0) (.slice Az nz cz) (.slice A2 n2 c2) (updL L1 (kOf 3) (putK R (L1 (kOf 3)) (kyF p a 3) (tableF x, V4, V5, V6, false, 0) (pkF k0 k1 k2 (kOf 3))))) := Lib.hid ⟨X7.out.a.quiet hb, X7.out.b.next hP H7.out.size, X7.out.c.quiet hb⟩
                  have H8 := Lib.hid (H7.out.quiet hb)
                  clear hb hP H7 X7
                  refine hK.out _ _ (⟨H8.out.at_ 0 rfl, H8.out.at_ 1 rfl, H8.out.at_ 3 rfl⟩) (fun hHeld => ?_)
                  clear hK K
                  (try simp only [Act.put, List.setIfInBounds_toArray, List.set_cons_zero, List.set_cons_succ])
                  refine tk (v := ?_) 20 ?_ ?_
                  rotate_left
                  · intro w hSw
                    go_simp
                    (try with_reducible rfl)
                  (try simp only [Act.put, List.setIfInBounds_toArray, List.set_cons_zero, List.set_cons_succ])
                  refine wpAnyH_ready (rs := [21]) (by kernel_rfl) (by simp) ?_
                  refine anyH_one rfl (fun K hK => ?_) ?_
                  · obtain ⟨a0, a1, a2, a3, a4, a5⟩ := (H8.out.at_ 6 rfl).c6
                    have f0 := (H8.out.at_ 6 rfl).fz 0; have f1 := (H8.out.at_ 6 rfl).fz 1; have f2 := (H8.out.at_ 6 rfl).fz 2; have f3 := (H8.out.at_ 6 rfl).fz 3; have f4 := (H8.out.at_ 6 rfl).fz 4; have f5 := (H8.out.at_ 6 rfl).fz 5
                    go_simp
                    generalize hq : (w8.setCell _ _).setCell _ _ = w9
                    have ht : Turn (fun i => i = b) w8 w9 := by rw [← hq]; exact turnX _ _ _ _ _ _
                    have X9 : Hid (NewX w w9 _ _ _ _ _ _ _) := Lib.hid ⟨X8.out.a.box (H8.out.at_ 6 rfl) (by decide) ht, X8.out.b.box (H8.out.at_ 6 rfl) (by decide) ht, X8.out.c.box (H8.out.at_ 6 rfl) (by decide) ht⟩
                    have H9 := Lib.hid ((H8.out.put 6 rfl (turnX _ _ 2 3 _ _) (setX1 (H8.out.at_ 6 rfl) _ _)).world hq)
                    clear ht
                    clear hq X8 H8 a0 a1 a2 a3 a4 a5 f0 f1 f2 f3 f4 f5
                    refine hK.out _ _ (⟨H9.out.at_ 0 rfl, H9.out.at_ 1 rfl, H9.out.at_ 3 rfl⟩) (fun hHeld => ?_)
                    clear hK K
                    (try simp only [Act.put, List.setIfInBounds_toArray, List.set_cons_zero, List.set_cons_succ])
                    refine wpAnyH_done (by kernel_rfl) ?_ _
                    clear hHeld
                    have HN2 := Lib.hid (H9.out.pick [1, 2, 3, 4, 5, 6] [])
                    clear H9
                    have HLE2 := Lib.hid (upd_len HLE1.out (kOf 3) (kyF p a 3) (tableF x, V4, V5, V6, false, 0) (pkF k0 k1 k2 (kOf 3)) (by decide))
                    go_wp2
                    go_roundw
                    case rel => exact ⟨k + 1, V4, V5, V6, _, A0, n0, c0, Az, nz, cz, A2, n2, c2, by omega, by go_num, HD2, HLE2, HN2, X9⟩
                    case measure => simp [intOf]; omega
                  exact AllReadyH.nil
                exact AllReadyH.nil
              exact AllReadyH.nil
            exact AllReadyH.nil
          refine anyH_one rfl (fun K hK => ?_) ?_
          · go_simp
            refine (rkey_any p 3 a _ HAA.out (by decide) (by decide)).mono ?_
            rintro e w7 ⟨rfl, hb⟩
            have X7 : Hid (NewX w w7 (.slice B0 m0 d0) (.slice B1 m1 d1) (.slice B2 m2 d2) (.slice A0 n0 c0) (.slice A1 n1 c1) (.slice A2 n2 c2) L1) := Lib.hid ⟨X6.out.a.quiet hb, X6.out.b.quiet hb, X6.out.c.quiet hb⟩
            have H7 := Lib.hid (H6.out.quiet hb)
            clear hb H6 X6
            refine hK.out _ _ (⟨H7.out.at_ 0 rfl, H7.out.at_ 1 rfl, H7.out.at_ 3 rfl⟩) (fun hHeld => ?_)
            clear hK K
            (try simp only [Act.put, List.setIfInBounds_toArray, List.set_cons_zero, List.set_cons_succ])
            refine wpAnyH_ready (rs := [4, 12]) (by kernel_rfl) (by simp) ?_
            refine anyH_one rfl (fun K hK => ?_) ?_
            · obtain ⟨a0, a1, a2, a3, a4, a5⟩ := (H7.out.at_ 6 rfl).c6
              go_simp
              clear a0 a1 a2 a3 a4 a5
              refine hK.out _ _ (hHeld) (fun hHeld => ?_)
              clear hK K
              (try simp only [Act.put, List.setIfInBounds_toArray, List.set_cons_zero, List.set_cons_succ])
              refine wpAnyH_ready (rs := [12]) (by kernel_rfl) (by simp) ?_
              refine anyH_one rfl (fun K hK => ?_) ?_
              · go_simp
                refine (rtable_any _ _ HX.out).mono ?_
                rintro e _ ⟨rfl, rfl⟩
                refine hK.out _ _ (hHeld) (fun hHeld => ?_)
                clear hK K
                (try simp only [Act.put, List.setIfInBounds_toArray, List.set_cons_zero, List.set_cons_succ])
                refine tk (v := ?_) 14 ?_ ?_
                rotate_left
                · intro w hSw
                  go_simp
                  (try with_reducible rfl)
                (try simp only [Act.put, List.setIfInBounds_toArray, List.set_cons_zero, List.set_cons_succ])
                refine wpAnyH_ready (rs := [18]) (by kernel_rfl) (by simp) ?_
                refine anyH_one rfl (fun K hK => ?_) ?_
                · go_simp
                  refine (HPU.out _ (.slice A1 n1 c1) (L1 1) 3 (tagF a 3) (tableF x) 0 _ V4 V5 V6 false X7.out.b.1 (by have := HLE1.out 1 (by decide); have := HR.out; omega) (HPK.out (kOf 3))).mono ?_
                  rintro e w8 ⟨Az, nz, cz, rfl, hP, hb⟩
                  have X8 : Hid (NewX w w8 (.slice B0 m0 d0) (.slice B1 m1 d1) (.slice B2 m2 d2) (.slice A0 n0 c0) (.slice Az nz cz) (.slice A2 n2 c2) (updL L1 (kOf 3) (putK R (L1 (kOf 3)) (kyF p a 3) (tableF x, V4, V5, V6, false, 0) (pkF k0 k1 k2 (kOf 3))))) := Lib.hid ⟨X7.out.a.quiet hb, X7.out.b.next hP H7.out.size, X7.out.c.quiet hb⟩
                  have H8 := Lib.hid (H7.out.quiet hb)
                  clear hb hP H7 X7
                  refine hK.out _ _ (⟨H8.out.at_ 0 rfl, H8.out.at_ 1 rfl, H8.out.at_ 3 rfl⟩) (fun hHeld => ?_)
                  clear hK K
                  (try simp only [Act.put, List.setIfInBounds_toArray, List.set_cons_zero, List.set_cons_succ])
                  refine tk (v := ?_) 20 ?_ ?_
                  rotate_left
                  · intro w hSw
                    go_simp
                    (try with_reducible rfl)
                  (try simp only [Act.put, List.setIfInBounds_toArray, List.set_cons_zero, List.set_cons_succ])
                  refine wpAnyH_ready (rs := [21]) (by kernel_rfl) (by simp) ?_
                  refine anyH_one rfl (fun K hK => ?_) ?_
                  · obtain ⟨a0, a1, a2, a3, a4, a5⟩ := (H8.out.at_ 6 rfl).c6
                    have f0 := (H8.out.at_ 6 rfl).fz 0; have f1 := (H8.out.at_ 6 rfl).fz 1; have f2 := (H8.out.at_ 6 rfl).fz 2; have f3 := (H8.out.at_ 6 rfl).fz 3; have f4 := (H8.out.at_ 6 rfl).fz 4; have f5 := (H8.out.at_ 6 rfl).fz 5
                    go_simp
                    generalize hq : (w8.setCell _ _).setCell _ _ = w9
                    have ht : Turn (fun i => i = b) w8 w9 := by rw [← hq]; exact turnX _ _ _ _ _ _
                    have X9 : Hid (NewX w w9 _ _ _ _ _ _ _) := Lib.hid ⟨X8.out.a.box (H8.out.at_ 6 rfl) (by decide) ht, X8.out.b.box (H8.out.at_ 6 rfl) (by decide) ht, X8.out.c.box (H8.out.at_ 6 rfl) (by decide) ht⟩
                    have H9 := Lib.hid ((H8.out.put 6 rfl (turnX _ _ 2 3 _ _) (setX1 (H8.out.at_ 6 rfl) _ _)).world hq)
                    clear ht
                    clear hq X8 H8 a0 a1 a2 a3 a4 a5 f0 f1 f2 f3 f4 f5
                    refine hK.out _ _ (⟨H9.out.at_ 0 rfl, H9.out.at_ 1 rfl, H9.out.at_ 3 rfl⟩) (fun hHeld => ?_)
                    clear hK K
                    (try simp only [Act.put, List.setIfInBounds_toArray, List.set_cons_zero, List.set_cons_succ])
                    refine wpAnyH_done (by kernel_rfl) ?_ _
                    clear hHeld
                    have HN2 := Lib.hid (H9.out.pick [1, 2, 3, 4, 5, 6] [])
                    clear H9
                    have HLE2 := Lib.hid (upd_len HLE1.out (kOf 3) (kyF p a 3) (tableF x, V4, V5, V6, false, 0) (pkF k0 k1 k2 (kOf 3)) (by decide))
                    go_wp2
                    go_roundw
                    case rel => exact ⟨k + 1, V4, V5, V6, _, A0, n0, c0, Az, nz, cz, A2, n2, c2, by omega, by go_num, HD2, HLE2, HN2, X9⟩
                    case measure => simp [intOf]; omega
                  exact AllReadyH.nil
                exact AllReadyH.nil
              exact AllReadyH.nil
            refine anyH_one rfl (fun K hK => ?_) ?_
            · go_simp
              refine (rtable_any _ _ HX.out).mono ?_
              rintro e _ ⟨rfl, rfl⟩
              refine hK.out _ _ (hHeld) (fun hHeld => ?_)
              clear hK K
              (try simp only [Act.put, List.setIfInBounds_toArray, List.set_cons_zero, List.set_cons_succ])
              refine tk (v := ?_) 14 ?_ ?_
              rotate_left
              · intro w hSw
                go_simp
                (try with_reducible rfl)
              (try simp only [Act.put, List.setIfInBounds_toArray, List.set_cons_zero, List.set_cons_succ])
              refine wpAnyH_ready (rs := [4]) (by kernel_rfl) (by simp) ?_
              refine anyH_one rfl (fun K hK => ?_) ?_
              · obtain ⟨a0, a1, a2, a3, a4, a5⟩ := (H7.out.at_ 6 rfl).c6
                go_simp
                clear a0 a1 a2 a3 a4 a5
                refine hK.out _ _ (hHeld) (fun hHeld => ?_)
                clear hK K
                (try simp only [Act.put, List.setIfInBounds_toArray, List.set_cons_zero, List.set_cons_succ])
                refine wpAnyH_ready (rs := [18]) (by kernel_rfl) (by simp) ?_
                refine anyH_one rfl (fun K hK => ?_) ?_
                · go_simp
                  refine (HPU.out _ (.slice A1 n1 c1) (L1 1) 3 (tagF a 3) (tableF x) 0 _ V4 V5 V6 false X7.out.b.1 (by have := HLE1.out 1 (by decide); have := HR.out; omega) (HPK.out (kOf 3))).mono ?_
                  rintro e w8 ⟨Az, nz, cz, rfl, hP, hb⟩
                  have X8 : Hid (NewX w w8 (.slice B0 m0 d0) (.slice B1 m1 d1) (.slice B2 m2 d2) (.slice A0 n0 c0) (.slice Az nz cz) (.slice A2 n2 c2) (updL L1 (kOf 3) (putK R (L1 (kOf 3)) (kyF p a 3) (tableF x, V4, V5, V6, false, 0) (pkF k0 k1 k2 (kOf 3))))) := Lib.hid ⟨X7.out.a.quiet hb, X7.out.b.next hP H7.out.size, X7.out.c.quiet hb⟩
                  have H8 := Lib.hid (H7.out.quiet hb)
                  clear hb hP H7 X7
                  refine hK.out _ _ (⟨H8.out.at_ 0 rfl, H8.out.at_ 1 rfl, H8.out.at_ 3 rfl⟩) (fun hHeld => ?_)
                  clear hK K
                  (try simp only [Act.put, List.setIfInBounds_toArray, List.set_cons_zero, List.set_cons_succ])
                  refine tk (v := ?_) 20 ?_ ?_
                  rotate_left
                  · intro w hSw
                    go_simp
                    (try with_reducible rfl)
                  (try simp only [Act.put, List.setIfInBounds_toArray, List.set_cons_zero, List.set_cons_succ])
                  refine wpAnyH_ready (rs := [21]) (by kernel_rfl) (by simp) ?_
                  refine anyH_one rfl (fun K hK => ?_) ?_
                  · obtain ⟨a0, a1, a2, a3, a4, a5⟩ := (H8.out.at_ 6 rfl).c6
                    have f0 := (H8.out.at_ 6 rfl).fz 0; have f1 := (H8.out.at_ 6 rfl).fz 1; have f2 := (H8.out.at_ 6 rfl).fz 2; have f3 := (H8.out.at_ 6 rfl).fz 3; have f4 := (H8.out.at_ 6 rfl).fz 4; have f5 := (H8.out.at_ 6 rfl).fz 5
                    go_simp
                    generalize hq : (w8.setCell _ _).setCell _ _ = w9
                    have ht : Turn (fun i => i = b) w8 w9 := by rw [← hq]; exact turnX _ _ _ _ _ _
                    have X9 : Hid (NewX w w9 _ _ _ _ _ _ _) := Lib.hid ⟨X8.out.a.box (H8.out.at_ 6 rfl) (by decide) ht, X8.out.b.box (H8.out.at_ 6 rfl) (by decide) ht, X8.out.c.box (H8.out.at_ 6 rfl) (by decide) ht⟩
                    have H9 := Lib.hid ((H8.out.put 6 rfl (turnX _ _ 2 3 _ _) (setX1 (H8.out.at_ 6 rfl) _ _)).world hq)
                    clear ht
                    clear hq X8 H8 a0 a1 a2 a3 a4 a5 f0 f1 f2 f3 f4 f5
                    refine hK.out _ _ (⟨H9.out.at_ 0 rfl, H9.out.at_ 1 rfl, H9.out.at_ 3 rfl⟩) (fun hHeld => ?_)
                    clear hK K
                    (try simp only [Act.put, List.setIfInBounds_toArray, List.set_cons_zero, List.set_cons_succ])
                    refine wpAnyH_done (by kernel_rfl) ?_ _
                    clear hHeld
                    have HN2 := Lib.hid (H9.out.pick [1, 2, 3, 4, 5, 6] [])
                    clear H9
                    have HLE2 := Lib.hid (upd_len HLE1.out (kOf 3) (kyF p a 3) (tableF x, V4, V5, V6, false, 0) (pkF k0 k1 k2 (kOf 3)) (by decide))
                    go_wp2
                    go_roundw
                    case rel => exact ⟨k + 1, V4, V5, V6, _, A0, n0, c0, Az, nz, cz, A2, n2, c2, by omega, by go_num, HD2, HLE2, HN2, X9⟩
                    case measure => simp [intOf]; omega
                  exact AllReadyH.nil
                exact AllReadyH.nil
              exact AllReadyH.nil
            exact AllReadyH.nil
          exact AllReadyH.nil
        · go_upto_region 8 with (first | (go_at_call 64; refine (HBI.out _).mono ?_; rintro e _ ⟨rfl, rfl⟩) | (go_at_call 65; refine (HLF.out _).mono ?_; rintro e _ ⟨rfl, rfl⟩))
          obtain ⟨y0, y1, y2⟩ := (H2.out.at_ 1 rfl).c3
          go_upto_region 9 with (go_at_call 66; refine (rand_any V1 V2 V3 x _ HX.out).mono ?_; rintro e w3 ⟨rfl, hb3⟩; have HX3 : Hid (NewX w w3 (.slice B0 m0 d0) (.slice B1 m1 d1) (.slice B2 m2 d2) (.slice A0 n0 c0) (.slice A1 n1 c1) (.slice A2 n2 c2) L1) := Lib.hid ⟨HX2.out.a.quiet hb3, HX2.out.b.quiet hb3, HX2.out.c.quiet hb3⟩; have H3 := Lib.hid (H2.out.quiet hb3); clear hb3 s0 s1 s2 y0 y1 y2; obtain ⟨y0, y1, y2⟩ := (H3.out.at_ 1 rfl).c3; have f0 := (H3.out.at_ 1 rfl).fz 0; have f1 := (H3.out.at_ 1 rfl).fz 1; have f2 := (H3.out.at_ 1 rfl).fz 2)
          have ht3 := turnB3 w3 (b + 1 + 1 + 1 + 1 + 1) (.bool (V1 && bitF x 1)) (.bool (V2 && bitF x 2)) (.bool (V3 && !bitF x 63))
          have HX4 : Hid (NewX w _ (.slice B0 m0 d0) (.slice B1 m1 d1) (.slice B2 m2 d2) (.slice A0 n0 c0) (.slice A1 n1 c1) (.slice A2 n2 c2) L1) := Lib.hid ⟨HX3.out.a.box (H3.out.at_ 1 rfl) (by decide) ht3, HX3.out.b.box (H3.out.at_ 1 rfl) (by decide) ht3, HX3.out.c.box (H3.out.at_ 1 rfl) (by decide) ht3⟩
          generalize hw5 : ((w3.setCell _ _).setCell _ _).setCell _ _ = w5
          rw [hw5] at HX4
          have H5 := Lib.hid (H3.out.put3 1 rfl hw5)
          clear hw5 ht3 H2 H3 HX2 HX3 y0 y1 y2 f0 f1 f2
          obtain ⟨s0, s1, s2⟩ := (H5.out.at_ 0 rfl).c3
          generalize (V1 && bitF x 1) = V4 at *
          generalize (V2 && bitF x 2) = V5 at *
          generalize (V3 && !bitF x 63) = V6 at *
          go_upto_region 10 with fail
          clear s0 s1 s2
          refine wp_region_held_drew (S := fun w' => Blk w' bs #[.int .i64 4, .int .u64 s, .int .u64 x] 134 ∧ Blk w' (b + 1 + 1 + 1 + 1 + 1) #[.bool V4, .bool V5, .bool V6] 47 ∧ Blk w' (b + 1 + 1 + 1) #[.int .i64 k0, .int .i64 k1, .int .i64 k2] 42) (by kernel_rfl) ⟨(H5.out.quiet (Kept.drew0 w5)).at_ 0 rfl, (H5.out.quiet (Kept.drew0 w5)).at_ 1 rfl, (H5.out.quiet (Kept.drew0 w5)).at_ 3 rfl⟩ (fun hHeld => ?_)
          have hb := Kept.drew0 w5
          have X6 : Hid (NewX w w5.drew (.slice B0 m0 d0) (.slice B1 m1 d1) (.slice B2 m2 d2) (.slice A0 n0 c0) (.slice A1 n1 c1) (.slice A2 n2 c2) L1) := Lib.hid ⟨HX4.out.a.quiet hb, HX4.out.b.quiet hb, HX4.out.c.quiet hb⟩
          have H6 := Lib.hid (H5.out.quiet hb)
          clear hb H5 HX4
          generalize w5.drew = w6 at *
          refine tk (v := ?_) 0 ?_ ?_
          rotate_left
          · intro w hSw
            go_simp
            (try with_reducible rfl)
          (try simp only [Act.put, List.setIfInBounds_toArray, List.set_cons_zero, List.set_cons_succ])
          refine tk (v := ?_) 1 ?_ ?_
          rotate_left
          · intro w hSw
            go_simp
            (try with_reducible rfl)
          (try simp only [Act.put, List.setIfInBounds_toArray, List.set_cons_zero, List.set_cons_succ])
          refine tk (v := ?_) 2 ?_ ?_
          rotate_left
          · intro w hSw
            go_simp
            (try with_reducible rfl)
          (try simp only [Act.put, List.setIfInBounds_toArray, List.set_cons_zero, List.set_cons_succ])
          refine tk (v := ?_) 3 ?_ ?_
          rotate_left
          · intro w hSw
            go_simp
            (try with_reducible rfl)
          (try simp only [Act.put, List.setIfInBounds_toArray, List.set_cons_zero, List.set_cons_succ])
          refine tk (v := ?_) 5 ?_ ?_
          rotate_left
          · intro w hSw
            go_simp
            (try with_reducible rfl)
          (try simp only [Act.put, List.setIfInBounds_toArray, List.set_cons_zero, List.set_cons_succ])
          refine tk (v := ?_) 6 ?_ ?_
          rotate_left
          · intro w hSw
            go_simp
            (try with_reducible rfl)
          (try simp only [Act.put, List.setIfInBounds_toArray, List.set_cons_zero, List.set_cons_succ])
          refine tk (v := ?_) 7 ?_ ?_
          rotate_left
          · intro w hSw
            obtain ⟨s0, s1, s2⟩ := hSw.1.c3
            go_simp
            (try with_reducible rfl)
          (try simp only [Act.put, List.setIfInBounds_toArray, List.set_cons_zero, List.set_cons_succ])
          refine tk (v := ?_) 8 ?_ ?_
          rotate_left
          · intro w hSw
            go_simp
            (try with_reducible rfl)
          (try simp only [Act.put, List.setIfInBounds_toArray, List.set_cons_zero, List.set_cons_succ])
          refine tk (v := ?_) 10 ?_ ?_
          rotate_left
          · intro w hSw
            go_simp
            (try with_reducible rfl)
          (try simp only [Act.put, List.setIfInBounds_toArray, List.set_cons_zero, List.set_cons_succ])
          refine tk (v := ?_) 11 ?_ ?_
          rotate_left
          · intro w hSw
            obtain ⟨s0, s1, s2⟩ := hSw.1.c3
            go_simp
            (try with_reducible rfl)
          (try simp only [Act.put, List.setIfInBounds_toArray, List.set_cons_zero, List.set_cons_succ])
          refine tk (v := ?_) 13 ?_ ?_
          rotate_left
          · intro w hSw
            obtain ⟨y0, y1, y2⟩ := hSw.2.1.c3
            go_simp
            (try with_reducible rfl)
          (try simp only [Act.put, List.setIfInBounds_toArray, List.set_cons_zero, List.set_cons_succ])
          refine tk (v := ?_) 15 ?_ ?_
          rotate_left
          · intro w hSw
            go_simp
            (try with_reducible rfl)
          (try simp only [Act.put, List.setIfInBounds_toArray, List.set_cons_zero, List.set_cons_succ])
          refine tk (v := ?_) 16 ?_ ?_
          rotate_left
          · intro w hSw
            go_simp
            (try with_reducible rfl)
          (try simp only [Act.put, List.setIfInBounds_toArray, List.set_cons_zero, List.set_cons_succ])
          refine tk (v := ?_) 17 ?_ ?_
          rotate_left
          · intro w hSw
            obtain ⟨p0, p1, p2⟩ := hSw.2.2.c3
            go_simp
            (try with_reducible rfl)
          (try simp only [Act.put, List.setIfInBounds_toArray, List.set_cons_zero, List.set_cons_succ])
          refine tk (v := ?_) 19 ?_ ?_
          rotate_left
          · intro w hSw
            go_simp
            (try with_reducible rfl)
          (try simp only [Act.put, List.setIfInBounds_toArray, List.set_cons_zero, List.set_cons_succ])
          refine wpAnyH_ready (rs := [4, 9]) (by kernel_rfl) (by simp) ?_
          refine anyH_one rfl (fun K hK => ?_) ?_
          · obtain ⟨a0, a1, a2, a3, a4, a5⟩ := (H6.out.at_ 6 rfl).c6
            go_simp
            clear a0 a1 a2 a3 a4 a5
            refine hK.out _ _ (hHeld) (fun hHeld => ?_)
            clear hK K
            (try simp only [Act.put, List.setIfInBounds_toArray, List.set_cons_zero, List.set_cons_succ])
            refine wpAnyH_ready (rs := [9]) (by kernel_rfl) (by simp) ?_
            refine anyH_one rfl (fun K hK => ?_) ?_
            · go_simp
              refine (rkey_any p 4 a _ HAA.out (by decide) (by decide)).mono ?_
              rintro e w7 ⟨rfl, hb⟩
              have X7 : Hid (NewX w w7 (.slice B0 m0 d0) (.slice B1 m1 d1) (.slice B2 m2 d2) (.slice A0 n0 c0) (.slice A1 n1 c1) (.slice A2 n2 c2) L1) := Lib.hid ⟨X6.out.a.quiet hb, X6.out.b.quiet hb, X6.out.c.quiet hb⟩
              have H7 := Lib.hid (H6.out.quiet hb)
              clear hb H6 X6
              refine hK.out _ _ (⟨H7.out.at_ 0 rfl, H7.out.at_ 1 rfl, H7.out.at_ 3 rfl⟩) (fun hHeld => ?_)
              clear hK K
              (try simp only [Act.put, List.setIfInBounds_toArray, List.set_cons_zero, List.set_cons_succ])
              refine wpAnyH_ready (rs := [12]) (by kernel_rfl) (by simp) ?_
              refine anyH_one rfl (fun K hK => ?_) ?_
              · go_simp
                refine (rtable_any _ _ HX.out).mono ?_
                rintro e _ ⟨rfl, rfl⟩
                refine hK.out _ _ (hHeld) (fun hHeld => ?_)
                clear hK K
                (try simp only [Act.put, List.setIfInBounds_toArray, List.set_cons_zero, List.set_cons_succ])
                refine tk (v := ?_) 14 ?_ ?_
                rotate_left
                · intro w hSw
                  go_simp
                  (try with_reducible rfl)
                (try simp only [Act.put, List.setIfInBounds_toArray, List.set_cons_zero, List.set_cons_succ])
                refine wpAnyH_ready (rs := [18]) (by kernel_rfl) (by simp) ?_
                refine anyH_one rfl (fun K hK => ?_) ?_
                · go_simp
                  refine (HPU.out _ (.slice A0 n0 c0) (L1 0) 4 (tagF a 4) (tableF x) 0 _ V4 V5 V6 false X7.out.a.1 (by have := HLE1.out 0 (by decide); have := HR.out; omega) (HPK.out (kOf 4))).mono ?_
                  rintro e w8 ⟨Az, nz, cz, rfl, hP, hb⟩
                  have X8 : Hid (NewX w w8 (.slice B0 m0 d0) (.slice B1 m1 d1) (.slice B2 m2 d2) (.slice Az nz cz) (.slice A1 n1 c1) (.slice A2 n2 c2) (updL L1 (kOf 4) (putK R (L1 (kOf 4)) (kyF p a 4) (tableF x, V4, V5, V6, false, 0) (pkF k0 k1 k2 (kOf 4))))) := Lib.hid ⟨X7.out.a.next hP H7.out.size, X7.out.b.quiet hb, X7.out.c.quiet hb⟩
                  have H8 := Lib.hid (H7.out.quiet hb)
                  clear hb hP H7 X7
                  refine hK.out _ _ (⟨H8.out.at_ 0 rfl, H8.out.at_ 1 rfl, H8.out.at_ 3 rfl⟩) (fun hHeld => ?_)
                  clear hK K
                  (try simp only [Act.put, List.setIfInBounds_toArray, List.set_cons_zero, List.set_cons_succ])
                  refine tk (v := ?_) 20 ?_ ?_
                  rotate_left
                  · intro w hSw
                    go_simp
                    (try with_reducible rfl)
                  (try simp only [Act.put, List.setIfInBounds_toArray, List.set_cons_zero, List.set_cons_succ])
                  refine wpAnyH_ready (rs := [21]) (by kernel_rfl) (by simp) ?_
                  refine anyH_one rfl (fun K hK => ?_) ?_
                  · obtain ⟨a0, a1, a2, a3, a4, a5⟩ := (H8.out.at_ 6 rfl).c6
                    have f0 := (H8.out.at_ 6 rfl).fz 0; have f1 := (H8.out.at_ 6 rfl).fz 1; have f2 := (H8.out.at_ 6 rfl).fz 2; have f3 := (H8.out.at_ 6 rfl).fz 3; have f4 := (H8.out.at_ 6 rfl).fz 4; have f5 := (H8.out.at_ 6 rfl).fz 5
                    go_simp
                    generalize hq : (w8.setCell _ _).setCell _ _ = w9
                    have ht : Turn (fun i => i = b) w8 w9 := by rw [← hq]; exact turnX _ _ _ _ _ _
                    have X9 : Hid (NewX w w9 _ _ _ _ _ _ _) := Lib.hid ⟨X8.out.a.box (H8.out.at_ 6 rfl) (by decide) ht, X8.out.b.box (H8.out.at_ 6 rfl) (by decide) ht, X8.out.c.box (H8.out.at_ 6 rfl) (by decide) ht⟩
                    have H9 := Lib.hid ((H8.out.put 6 rfl (turnX _ _ 0 1 _ _) (setX0 (H8.out.at_ 6 rfl) _ _)).world hq)
                    clear ht
                    clear hq X8 H8 a0 a1 a2 a3 a4 a5 f0 f1 f2 f3 f4 f5
                    refine hK.out _ _ (⟨H9.out.at_ 0 rfl, H9.out.at_ 1 rfl, H9.out.at_ 3 rfl⟩) (fun hHeld => ?_)
                    clear hK K
                    (try simp only [Act.put, List.setIfInBounds_toArray, List.set_cons_zero, List.set_cons_succ])
                    refine wpAnyH_done (by kernel_rfl) ?_ _
                    clear hHeld
                    have HN2 := Lib.hid (H9.out.pick [1, 2, 3, 4, 5, 6] [])
                    clear H9
                    have HLE2 := Lib.hid (upd_len HLE1.out (kOf 4) (kyF p a 4) (tableF x, V4, V5, V6, false, 0) (pkF k0 k1 k2 (kOf 4)) (by decide))
                    go_wp2
                    go_roundw
                    case rel => exact ⟨k + 1, V4, V5, V6, _, Az, nz, cz, A1, n1, c1, A2, n2, c2, by omega, by go_num, HD2, HLE2, HN2, X9⟩
                    case measure => simp [intOf]; omega
                  exact AllReadyH.nil
                exact AllReadyH.nil
              exact AllReadyH.nil
            exact AllReadyH.nil
          refine anyH_one rfl (fun K hK => ?_) ?_
          · go_simp
            refine (rkey_any p 4 a _ HAA.out (by decide) (by decide)).mono ?_
            rintro e w7 ⟨rfl, hb⟩
            have X7 : Hid (NewX w w7 (.slice B0 m0 d0) (.slice B1 m1 d1) (.slice B2 m2 d2) (.slice A0 n0 c0) (.slice A1 n1 c1) (.slice A2 n2 c2) L1) := Lib.hid ⟨X6.out.a.quiet hb, X6.out.b.quiet hb, X6.out.c.quiet hb⟩
            have H7 := Lib.hid (H6.out.quiet hb)
            clear hb H6 X6
            refine hK.out _ _ (⟨H7.out.at_ 0 rfl, H7.out.at_ 1 rfl, H7.out.at_ 3 rfl⟩) (fun hHeld => ?_)
            clear hK K
            (try simp only [Act.put, List.setIfInBounds_toArray, List.set_cons_zero, List.set_cons_succ])
            refine wpAnyH_ready (rs := [4, 12]) (by kernel_rfl) (by simp) ?_
            refine anyH_one rfl (fun K hK => ?_) ?_
            · obtain ⟨a0, a1, a2, a3, a4, a5⟩ := (H7.out.at_ 6 rfl).c6
              go_simp
              clear a0 a1 a2 a3 a4 a5
              refine hK.out _ _ (hHeld) (fun hHeld => ?_)
              clear hK K
              (try simp only [Act.put, List.setIfInBounds_toArray, List.set_cons_zero, List.set_cons_succ])
              refine wpAnyH_ready (rs := [12]) (by kernel_rfl) (by simp) ?_
              refine anyH_one rfl (fun K hK => ?_) ?_
              · go_simp
                refine (rtable_any _ _ HX.out).mono ?_
                rintro e _ ⟨rfl, rfl⟩
                refine hK.out _ _ (hHeld) (fun hHeld => ?_)
                clear hK K
                (try simp only [Act.put, List.setIfInBounds_toArray, List.set_cons_zero, List.set_cons_succ])
                refine tk (v := ?_) 14 ?_ ?_
                rotate_left
                · intro w hSw
                  go_simp
                  (try with_reducible rfl)
                (try simp only [Act.put, List.setIfInBounds_toArray, List.set_cons_zero, List.set_cons_succ])
                refine wpAnyH_ready (rs := [18]) (by kernel_rfl) (by simp) ?_
                refine anyH_one rfl (fun K hK => ?_) ?_
                · go_simp
                  refine (HPU.out _ (.slice A0 n0 c0) (L1 0) 4 (tagF a 4) (tableF x) 0 _ V4 V5 V6 false X7.out.a.1 (by have := HLE1.out 0 (by decide); have := HR.out; omega) (HPK.out (kOf 4))).mono ?_
                  rintro e w8 ⟨Az, nz, cz, rfl, hP, hb⟩
                  have X8 : Hid (NewX w w8 (.slice B0 m0 d0) (.slice B1 m1 d1) (.slice B2 m2 d2) (.slice Az nz cz) (.slice A1 n1 c1) (.slice A2 n2 c2) (updL L1 (kOf 4) (putK R (L1 (kOf 4)) (kyF p a 4) (tableF x, V4, V5, V6, false, 0) (pkF k0 k1 k2 (kOf 4))))) := Lib.hid ⟨X7.out.a.next hP H7.out.size, X7.out.b.quiet hb, X7.out.c.quiet hb⟩
                  have H8 := Lib.hid (H7.out.quiet hb)
                  clear hb hP H7 X7
                  refine hK.out _ _ (⟨H8.out.at_ 0 rfl, H8.out.at_ 1 rfl, H8.out.at_ 3 rfl⟩) (fun hHeld => ?_)
                  clear hK K
                  (try simp only [Act.put, List.setIfInBounds_toArray, List.set_cons_zero, List.set_cons_succ])
                  refine tk (v := ?_) 20 ?_ ?_
                  rotate_left
                  · intro w hSw
                    go_simp
                    (try with_reducible rfl)
                  (try simp only [Act.put, List.setIfInBounds_toArray, List.set_cons_zero, List.set_cons_succ])
                  refine wpAnyH_ready (rs := [21]) (by kernel_rfl) (by simp) ?_
                  refine anyH_one rfl (fun K hK => ?_) ?_
                  · obtain ⟨a0, a1, a2, a3, a4, a5⟩ := (H8.out.at_ 6 rfl).c6
                    have f0 := (H8.out.at_ 6 rfl).fz 0; have f1 := (H8.out.at_ 6 rfl).fz 1; have f2 := (H8.out.at_ 6 rfl).fz 2; have f3 := (H8.out.at_ 6 rfl).fz 3; have f4 := (H8.out.at_ 6 rfl).fz 4; have f5 := (H8.out.at_ 6 rfl).fz 5
                    go_simp
                    generalize hq : (w8.setCell _ _).setCell _ _ = w9
                    have ht : Turn (fun i => i = b) w8 w9 := by rw [← hq]; exact turnX _ _ _ _ _ _
                    have X9 : Hid (NewX w w9 _ _ _ _ _ _ _) := Lib.hid ⟨X8.out.a.box (H8.out.at_ 6 rfl) (by decide) ht, X8.out.b.box (H8.out.at_ 6 rfl) (by decide) ht, X8.out.c.box (H8.out.at_ 6 rfl) (by decide) ht⟩
                    have H9 := Lib.hid ((H8.out.put 6 rfl (turnX _ _ 0 1 _ _) (setX0 (H8.out.at_ 6 rfl) _ _)).world hq)
                    clear ht
                    clear hq X8 H8 a0 a1 a2 a3 a4 a5 f0 f1 f2 f3 f4 f5
                    refine hK.out _ _ (⟨H9.out.at_ 0 rfl, H9.out.at_ 1 rfl, H9.out.at_ 3 rfl⟩) (fun hHeld => ?_)
                    clear hK K
                    (try simp only [Act.put, List.setIfInBounds_toArray, List.set_cons_zero, List.set_cons_succ])
                    refine wpAnyH_done (by kernel_rfl) ?_ _
                    clear hHeld
                    have HN2 := Lib.hid (H9.out.pick [1, 2, 3, 4, 5, 6] [])
                    clear H9
                    have HLE2 := Lib.hid (upd_len HLE1.out (kOf 4) (kyF p a 4) (tableF x, V4, V5, V6, false, 0) (pkF k0 k1 k2 (kOf 4)) (by decide))
                    go_wp2
                    go_roundw
                    case rel => exact ⟨k + 1, V4, V5, V6, _, Az, nz, cz, A1, n1, c1, A2, n2, c2, by omega, by go_num, HD2, HLE2, HN2, X9⟩
                    case measure => simp [intOf]; omega
                  exact AllReadyH.nil
                exact AllReadyH.nil
              exact AllReadyH.nil
            refine anyH_one rfl (fun K hK => ?_) ?_
            · go_simp
              refine (rtable_any _ _ HX.out).mono ?_
              rintro e _ ⟨rfl, rfl⟩
              refine hK.out _ _ (hHeld) (fun hHeld => ?_)
              clear hK K
              (try simp only [Act.put, List.setIfInBounds_toArray, List.set_cons_zero, List.set_cons_succ])
              refine tk (v := ?_) 14 ?_ ?_
              rotate_left
              · intro w hSw
                go_simp
                (try with_reducible rfl)
              (try simp only [Act.put, List.setIfInBounds_toArray, List.set_cons_zero, List.set_cons_succ])
              refine wpAnyH_ready (rs := [4]) (by kernel_rfl) (by simp) ?_
              refine anyH_one rfl (fun K hK => ?_) ?_
              · obtain ⟨a0, a1, a2, a3, a4, a5⟩ := (H7.out.at_ 6 rfl).c6
                go_simp
                clear a0 a1 a2 a3 a4 a5
                refine hK.out _ _ (hHeld) (fun hHeld => ?_)
                clear hK K
                (try simp only [Act.put, List.setIfInBounds_toArray, List.set_cons_zero, List.set_cons_succ])
                refine wpAnyH_ready (rs := [18]) (by kernel_rfl) (by simp) ?_
                refine anyH_one rfl (fun K hK => ?_) ?_
                · go_simp
                  refine (HPU.out _ (.slice A0 n0 c0) (L1 0) 4 (tagF a 4) (tableF x) 0 _ V4 V5 V6 false X7.out.a.1 (by have := HLE1.out 0 (by decide); have := HR.out; omega) (HPK.out (kOf 4))).mono ?_
                  rintro e w8 ⟨Az, nz, cz, rfl, hP, hb⟩
                  have X8 : Hid (NewX w w8 (.slice B0 m0 d0) (.slice B1 m1 d1) (.slice B2 m2 d2) (.slice Az nz cz) (.slice A1 n1 c1) (.slice A2 n2 c2) (updL L1 (kOf 4) (putK R (L1 (kOf 4)) (kyF p a 4) (tableF x, V4, V5, V6, false, 0) (pkF k0 k1 k2 (kOf 4))))) := Lib.hid ⟨X7.out.a.next hP H7.out.size, X7.out.b.quiet hb, X7.out.c.quiet hb⟩
                  have H8 := Lib.hid (H7.out.quiet hb)
                  clear hb hP H7 X7
                  refine hK.out _ _ (⟨H8.out.at_ 0 rfl, H8.out.at_ 1 rfl, H8.out.at_ 3 rfl⟩) (fun hHeld => ?_)
                  clear hK K
                  (try simp only [Act.put, List.setIfInBounds_toArray, List.set_cons_zero, List.set_cons_succ])
                  refine tk (v := ?_) 20 ?_ ?_
                  rotate_left
                  · intro w hSw
                    go_simp
                    (try with_reducible rfl)
                  (try simp only [Act.put, List.setIfInBounds_toArray, List.set_cons_zero, List.set_cons_succ])
                  refine wpAnyH_ready (rs := [21]) (by kernel_rfl) (by simp) ?_
                  refine anyH_one rfl (fun K hK => ?_) ?_
                  · obtain ⟨a0, a1, a2, a3, a4, a5⟩ := (H8.out.at_ 6 rfl).c6
                    have f0 := (H8.out.at_ 6 rfl).fz 0; have f1 := (H8.out.at_ 6 rfl).fz 1; have f2 := (H8.out.at_ 6 rfl).fz 2; have f3 := (H8.out.at_ 6 rfl).fz 3; have f4 := (H8.out.at_ 6 rfl).fz 4; have f5 := (H8.out.at_ 6 rfl).fz 5
                    go_simp
                    generalize hq : (w8.setCell _ _).setCell _ _ = w9
                    have ht : Turn (fun i => i = b) w8 w9 := by rw [← hq]; exact turnX _ _ _ _ _ _
                    have X9 : Hid (NewX w w9 _ _ _ _ _ _ _) := Lib.hid ⟨X8.out.a.box (H8.out.at_ 6 rfl) (by decide) ht, X8.out.b.box (H8.out.at_ 6 rfl) (by decide) ht, X8.out.c.box (H8.out.at_ 6 rfl) (by decide) ht⟩
                    have H9 := Lib.hid ((H8.out.put 6 rfl (turnX _ _ 0 1 _ _) (setX0 (H8.out.at_ 6 rfl) _ _)).world hq)
                    clear ht
                    clear hq X8 H8 a0 a1 a2 a3 a4 a5 f0 f1 f2 f3 f4 f5
                    refine hK.out _ _ (⟨H9.out.at_ 0 rfl, H9.out.at_ 1 rfl, H9.out.at_ 3 rfl⟩) (fun hHeld => ?_)
                    clear hK K
                    (try simp only [Act.put, List.setIfInBounds_toArray, List.set_cons_zero, List.set_cons_succ])
                    refine wpAnyH_done (by kernel_rfl) ?_ _
                    clear hHeld
                    have HN2 := Lib.hid (H9.out.pick [1, 2, 3, 4, 5, 6] [])
                    clear H9
                    have HLE2 := Lib.hid (upd_len HLE1.out (kOf 4) (kyF p a 4) (tableF x, V4, V5, V6, false, 0) (pkF k0 k1 k2 (kOf 4)) (by decide))
                    go_wp2
                    go_roundw
                    case rel => exact ⟨k + 1, V4, V5, V6, _, Az, nz, cz, A1, n1, c1, A2, n2, c2, by omega, by go_num, HD2, HLE2, HN2, X9⟩
                    case measure => simp [intOf]; omega
                  exact AllReadyH.nil
                exact AllReadyH.nil
              exact AllReadyH.nil
            exact AllReadyH.nil
          exact AllReadyH.nil
    · have hc : ¬ ((k : Int) + 1 < (n : Int)) := by omega
      have HDE : Hid (L1 = L9) := Lib.hid (by rw [← HD.out, fill_few (by rw [List.length_drop, HN.out]; omega)])
      clear HD
      obtain ⟨r0, r1, r2, r3, r4, r5⟩ := (H1.out.at_ 1 rfl).c6
      obtain ⟨a0, a1, a2, a3, a4, a5⟩ := (H1.out.at_ 5 rfl).c6
      have g0 := (H1.out.at_ 1 rfl).fz 0; have g1 := (H1.out.at_ 1 rfl).fz 1; have g2 := (H1.out.at_ 1 rfl).fz 2; have g3 := (H1.out.at_ 1 rfl).fz 3; have g4 := (H1.out.at_ 1 rfl).fz 4; have g5 := (H1.out.at_ 1 rfl).fz 5
      go_wp2
      refine bodyPost_ret (results_cell_row rfl _ _ (b + 1 + 1 + 1 + 1) _ _ _ _ rfl (setB6 (H1.out.at_ 1 rfl) _ _ _ _ _ _) Tryd.underlying31 rfl rfl) rfl ⟨_, _, _, rfl, HDE.out ▸ ⟨HX1.out.a.box (H1.out.at_ 1 rfl) (by decide) (turnB6 _ _ _ _ _ _ _ _), HX1.out.b.box (H1.out.at_ 1 rfl) (by decide) (turnB6 _ _ _ _ _ _ _ _), HX1.out.c.box (H1.out.at_ 1 rfl) (by decide) (turnB6 _ _ _ _ _ _ _ _)⟩, ?_⟩
      rw [← HBB.out]
      rw [← HBB.out] at H1
      exact (H1.out.put6 1 rfl rfl).below
end Go.Proofs.YtiihhlmddmicjaaDoor
/- real of layer 8: a path as the document has it. -/
namespace Go.Proofs.YtiihhlmddmicjaaDoor
set_option linter.unusedVariables false
set_option linter.unusedSimpArgs false
open Go.ChangeShapes Go.WideShapes Go.ChangeAt Go.RowKit Go.Joins

theorem take_more (S : List (Int × Int × Int)) {k : Nat} (hk : k < S.length) : S.take (k + 1) = S.take k ++ [stepAt S k] := by
  rw [List.take_add_one, List.getElem?_eq_getElem hk]
  simp [stepAt, List.getD, List.getElem?_eq_getElem hk]

/-- real, in its loop -/
structure Rea (w wr : World) (vin : Value) (P : Pth) (k : Nat) (v : Value) : Prop where
  box : Blk wr w.heap.size (pathCells vin P) 39
  res : Blk wr (w.heap.size + 1) (pathCells (.slice none 0 0) (offP 0)) 91
  pth : Blk wr (w.heap.size + 2) (pathCells v P) 91
  own : StepsOwn 134 wr (w.heap.size + 3) v (P.steps.take k)
  below : Below w.heap.size w wr

section
variable {w wr w3 w5 : World} {vin v v' : Value} {P : Pth} {k : Nat}
theorem Rea.start (w : World) (vin : Value) (P : Pth) : Rea w (((w.alloc (.cells (pathCells vin P) 39)).alloc (.cells (pathCells (.slice none 0 0) (offP 0)) 91)).alloc (.cells (pathCells (.slice none 0 0) P) 91)) vin P 0 (.slice none 0 0) := by
  have e1 : ∀ o, (w.alloc o).heap.size = w.heap.size + 1 := fun o => by simp
  have e2 : ∀ o o', ((w.alloc o).alloc o').heap.size = w.heap.size + 2 := fun o o' => by simp
  refine ⟨((Blk.new w _ _).alloc _).alloc _, ?_, ?_, StepsOwn.nil _ _ _, below3 w _ _ _⟩
  · have := (Blk.new (w.alloc (.cells (pathCells vin P) 39)) (pathCells (.slice none 0 0) (offP 0)) 91).alloc (.cells (pathCells (.slice none 0 0) P) 91)
    rwa [e1] at this
  · have := Blk.new ((w.alloc (.cells (pathCells vin P) 39)).alloc (.cells (pathCells (.slice none 0 0) (offP 0)) 91)) (pathCells (.slice none 0 0) P) 91
    rwa [e2] at this
theorem Rea.quiet (h : Rea w wr vin P k v) (hb : Below wr.heap.size wr w3) : Rea w w3 vin P k v :=
  ⟨h.box.below hb, h.res.below hb, h.pth.below hb, h.own.below hb, h.below.trans (hb.mono h.below.size)⟩
theorem Rea.more {l s x : Int} {u : TypeId} (h : Rea w wr vin P k v) (hk : k < P.steps.length) (hx : stepAt P.steps k = (l, s, x)) (hown : w5.ownsRow (w.heap.size + 3) 134 3 v' (k + 1) (stepCells (P.steps.take k) ++ [.int .i64 l, .int .u64 s, .int .u64 x]))
    (hg : (wr.alloc (.cells #[.int .i64 l, .int .u64 s, .int .u64 x] u)).grownBy w5 v.ownBlock) :
    Rea w (w5.setCell ⟨w.heap.size + 2, 0, none⟩ v') vin P (k + 1) v' ∧ Blk w5 (w.heap.size + 2) (pathCells v P) 91 := by
  have ht : Turn (fun i => v.ownBlock = some i) wr w5 := (Turn.alloc _ wr _).and (Turn.grown hg (fun i hi => hi))
  have hv : ∀ i, v.ownBlock = some i → w.heap.size + 3 ≤ i := fun i hi => (h.own.lt hi).1
  have n0 : ¬ v.ownBlock = some w.heap.size := fun e => by have := hv _ e; omega
  have n1 : ¬ v.ownBlock = some (w.heap.size + 1) := fun e => by have := hv _ e; omega
  have n2 : ¬ v.ownBlock = some (w.heap.size + 2) := fun e => by have := hv _ e; omega
  have hs : StepsOwn 134 w5 (w.heap.size + 3) v' (P.steps.take (k + 1)) := by
    rw [take_more _ hk, hx]
    exact StepsOwn.more (by rw [List.length_take, Nat.min_eq_left (by omega)]; exact hown)
  have hp5 := h.pth.turn ht n2
  have t2 := turn1 w5 (w.heap.size + 2) 0 v'
  have b5 : Below w.heap.size w w5 := h.below.trans (ht.below (fun i hi => by have := hv i hi; omega) h.below.size)
  exact ⟨⟨(h.box.turn ht n0).turn t2 (by omega), (h.res.turn ht n1).turn t2 (by omega), hp5.set1 0 v', hs.turn t2 (fun i hi e => by have := (hs.lt hi).1; omega), turn_below b5 t2 (by omega) b5.size⟩, hp5⟩
end

end Go.Proofs.YtiihhlmddmicjaaDoor
/- Layer 11: real, place. -/
namespace Go.Proofs.YtiihhlmddmicjaaDoor
set_option linter.unusedVariables false
set_option linter.unusedSimpArgs false
open Go.ChangeShapes Go.WideShapes Go.ChangeAt Go.RowKit Go.Joins

set_option maxRecDepth 100000 in
set_option maxHeartbeats 3200000 in
theorem real11_any (w : World) (A : Option Addr) (L c : Nat) (P : Pth) (hL : P.steps.length = L) (hS : StepsIn w (.slice A L c) P.steps) (hl : L * 24 ≤ 140737488355328) :
    Calls Tryd.prog 33 #[pathV (.slice A L c) P.why P.W P.U P.X P.lev P.fr] w fun e w' => ∃ A' c', e = .returned (pathV (.slice A' L c') P.why P.W P.U P.X P.lev P.fr) ∧ StepsOwn 134 w' w.heap.size (.slice A' L c') P.steps ∧ Below w.heap.size w w' := by
  obtain ⟨i0, hi, hz0, hz1, hz2⟩ := info_parts infoRStep
  have HP := Lib.hid (Rea.start w (.slice A L c) P)
  have HL := Lib.hid hL
  have HS := Lib.hid hS
  clear hL hS
  go_enter Tryd.func33, Tryd.ntmps33
  go_wp2
  go_loopw [4] (fun i wr => ∃ (k : Nat) (v : Value), k ≤ L ∧ i = .int .i64 k ∧ Rea w wr (.slice A L c) P k v) (fun i _ => (L - intOf i).toNat)
  case atStart => exact ⟨0, _, by omega, rfl, HP.out⟩
  case round =>
    obtain ⟨k, v, hk, rfl, hR⟩ := hrel
    clear HP
    have HR := Lib.hid hR
    obtain ⟨A1, c1, rfl⟩ := hR.own.form
    clear hR
    obtain ⟨p0, p1, p2, p3, p4, p5, p6⟩ := HR.out.box.seven
    have hlk : (P.steps.take k).length = k := by rw [List.length_take, Nat.min_eq_left (by rw [HL.out]; exact hk)]
    rw [hlk] at HR
    by_cases hlt : k < L
    · obtain ⟨ad, rfl, d0, d1, d2⟩ := steps_at (HS.out.below HR.out.below) (k := k) (by rw [HL.out]; exact hlt)
      obtain ⟨q0, q1, q2, q3, q4, q5, q6⟩ := HR.out.pth.seven
      generalize hst : stepAt P.steps k = st at *
      obtain ⟨l, s, x⟩ := st
      have HST := Lib.hid hst
      clear hst
      go_wp2
      have HR2 := Lib.hid (HR.out.quiet (Kept.drew0 wr))
      have HO2 : Hid (wr.drew.ownsRow (w.heap.size + 3) 134 3 (.slice A1 k c1) k (stepCells (P.steps.take k))) := Lib.hid (by have := HR2.out.own; unfold StepsOwn at this; rw [hlk] at this; exact this)
      have HZ2 : Hid (w.heap.size + 3 ≤ wr.heap.size) := Lib.hid (by have := HR.out.pth.lt; omega)
      have al0 : ∀ o, (wr.alloc o).cell? ⟨w.heap.size + 1 + 1, 0, none⟩ = some (.slice A1 k c1) := fun o => (World.cell?_of_block (a := ⟨w.heap.size + 2, 0, none⟩) (Deep.blk_alloc_lt _ _ _ HR.out.pth.lt)).trans q0
      clear HR hlk
      go_region_law (refine step_append_lies _ rfl _ _ 89 rfl (w.heap.size + 3) 134 i0 _ 3 24 Tryd.underlying89 hi hz0 hz1 hz2 rfl (by decide) (.slice A1 k c1) k (stepCells (P.steps.take k)) rfl (World.ownsRow.alloc HO2.out _) ⟨wr.drew.heap.size, 0, none⟩ 1 1 [.int .i64 l, .int .u64 s, .int .u64 x] rfl rfl (three_cells _ _ _ _ _) (three_one _ _ _) (by decide) (by unfold maxLen; omega) (by omega) (by have := HZ2.out; simp; omega) _ rfl ?_; intro g5 cap5 w5 hown' hgrow hat hlt5; have HN := Lib.hid (HR2.out.more (by rw [HL.out]; exact hlt) HST.out hown' hgrow); clear hgrow hown' hat hlt5; obtain ⟨p0, p1, p2, p3, p4, p5, p6⟩ := HN.out.2.seven; have q0 := HN.out.2.fz 0)
      all_goals
        go_wp2
        go_roundw
        case rel => exact ⟨k + 1, _, by omega, by go_num, HN.out.1⟩
        case measure => simp [intOf]; omega
    · have hle : L ≤ k := by omega
      obtain rfl : k = L := by omega
      obtain ⟨q0, q1, q2, q3, q4, q5, q6⟩ := HR.out.pth.seven
      obtain ⟨r0, r1, r2, r3, r4, r5, r6⟩ := HR.out.res.seven
      have s0 := HR.out.res.fz 0; have s1 := HR.out.res.fz 1; have s2 := HR.out.res.fz 2; have s3 := HR.out.res.fz 3; have s4 := HR.out.res.fz 4; have s5 := HR.out.res.fz 5; have s6 := HR.out.res.fz 6
      clear hlk hk hlt
      go_wp2
      have HE : Hid (P.steps.take k = P.steps) := Lib.hid (by rw [← HL.out]; exact List.take_length)
      refine bodyPost_ret (results_cell_row rfl _ _ (w.heap.size + 1) _ _ _ _ rfl (HR.out.res.set7 _ _ _ _ _ _ _) Tryd.underlying91 rfl rfl) rfl ⟨A1, c1, rfl, ?_, turn_below HR.out.below (turn7 _ _ _ _ _ _ _ _ _) (by omega) HR.out.below.size⟩
      have ho := HR.out.own
      rw [HE.out] at ho
      exact (ho.down (by omega)).turn (turn7 _ _ _ _ _ _ _ _ _) (fun i hi e => by have := (ho.lt hi).1; omega)

set_option maxRecDepth 100000 in
theorem place11_any (lev t : Int) (W U X : Bool) (w : World) :
    Calls Tryd.prog 15 #[placeV lev t W U X] w fun e w' => e = .returned (placeV lev t W U X) ∧ Below w.heap.size w w' := by
  have H0 := Lib.hid (((Mine.start w).new (b := w.heap.size) rfl #[.int .i64 lev, .int .u64 t, .bool W, .bool U, .bool X] 41).new (b := w.heap.size + 1) (by simp) #[.int .i64 0, .int .u64 0, .bool false, .bool false, .bool false] 49)
  go_enter Tryd.func15, Tryd.ntmps15
  go_upto_region 1 with fail
  generalize hw0 : (w.alloc _).alloc _ = w0
  have H1 := Lib.hid (H0.out.world hw0)
  clear hw0 H0
  obtain ⟨a0, a1, a2, a3, a4⟩ := (H1.out.at_ 1 rfl).five
  obtain ⟨r0, r1, r2, r3, r4⟩ := (H1.out.at_ 0 rfl).five
  have f0 := (H1.out.at_ 0 rfl).fz 0; have f1 := (H1.out.at_ 0 rfl).fz 1; have f2 := (H1.out.at_ 0 rfl).fz 2; have f3 := (H1.out.at_ 0 rfl).fz 3; have f4 := (H1.out.at_ 0 rfl).fz 4
  go_wp2
  refine bodyPost_ret (results_cell_row rfl _ _ (w.heap.size + 1) _ _ _ _ rfl (setB5 (H1.out.at_ 0 rfl) _ _ _ _ _) Tryd.underlying49 rfl rfl) rfl ⟨rfl, (H1.out.put5 0 rfl rfl).below⟩
end Go.Proofs.YtiihhlmddmicjaaDoor
