/- Several texts of ours in one: Hs, Jg, Ji. -/
import Derived.Test.YtiihhlmddmicjaaDoorGL8sHpHq
import Derived.Test.YtiihhlmddmicjaaDoorGCjJeJf
import Derived.Test.YtiihhlmddmicjaaDoorGRjBxCc
import Derived.Test.YtiihhlmddmicjaaDoorGJbCdJc
import Derived.Test.YtiihhlmddmicjaaDoorGHeHfHg
/- Contracts of package walk: unused, Same. (Laid by tools/gen_hs.py.) -/
namespace Go.Proofs.YtiihhlmddmicjaaDoor
set_option linter.unusedVariables false
set_option linter.unusedSimpArgs false
open Go.ChangeShapes Go.WideShapes Go.ChangeAt Go.RowKit Go.Joins

/-- two paths in the variables of a call -/
structure Two (w wr : World) (pb : Nat) (v : Value) (P : Pth) (qb : Nat) (v' : Value) (Q : Pth) : Prop where
  boxP : Blk wr pb (pathCells v P) 39
  boxQ : Blk wr qb (pathCells v' Q) 39
  stepsP : StepsIn wr v P.steps
  stepsQ : StepsIn wr v' Q.steps
  below : Below w.heap.size w wr

section
variable {w wr w3 : World} {pb qb : Nat} {v v' : Value} {P Q : Pth}
theorem Two.quiet (h : Two w wr pb v P qb v' Q) (hb : Below wr.heap.size wr w3) : Two w w3 pb v P qb v' Q :=
  ⟨h.boxP.below hb, h.boxQ.below hb, h.stepsP.below hb, h.stepsQ.below hb, h.below.trans (hb.mono h.below.size)⟩
theorem Two.start (h1 : StepsIn w v P.steps) (h2 : StepsIn w v' Q.steps) : Two w ((w.alloc (.cells (pathCells v P) 39)).alloc (.cells (pathCells v' Q) 39)) w.heap.size v P (w.heap.size + 1) v' Q :=
  ⟨(Blk.new w _ _).alloc _, last_obj2 w _ _, h1.below (below2 w _ _), h2.below (below2 w _ _), below2 w _ _⟩
theorem steps_at {A : Option Addr} {L c : Nat} {S : List (Int × Int × Int)} (h : StepsIn wr (.slice A L c) S) {k : Nat} (hk : k < S.length) : ∃ ad, A = some ad ∧ wr.cell? (ad.add (k * 3)) = some (.int .i64 (stepAt S k).1) ∧ wr.cell? ⟨(ad.add (k * 3)).block, (ad.add (k * 3)).off + 1, none⟩ = some (.int .u64 (stepAt S k).2.1) ∧ wr.cell? ⟨(ad.add (k * 3)).block, (ad.add (k * 3)).off + 2, none⟩ = some (.int .u64 (stepAt S k).2.2) := by
  obtain ⟨A', c', hv, hc⟩ := h
  obtain ⟨ad, hA, d0, d1, d2⟩ := hc k hk
  simp at hv
  exact ⟨ad, hv.1.trans hA, d0, d1, d2⟩
end

end Go.Proofs.YtiihhlmddmicjaaDoor
/- Package psc: Fill. (Laid by tools/gen_jg.py.) -/
namespace Go.Proofs.YtiihhlmddmicjaaDoor
set_option linter.unusedVariables false
set_option linter.unusedSimpArgs false
open Go.ChangeShapes Go.WideShapes Go.ChangeAt Go.RowKit Go.Joins

/-- the three picks -/
def pkF (k0 k1 k2 : Int) : Nat → Int := fun k => if k = 0 then k0 else if k = 1 then k1 else k2

theorem add_block (ad : Addr) (k : Nat) : (ad.add k).block = ad.block := by unfold Addr.add; split <;> rfl
theorem StepsIn.turn {w w' : World} {F : Nat → Prop} {A : Option Addr} {n c : Nat} {S : List Stp} (h : StepsIn w (.slice A n c) S) (ht : Turn F w w') (hF : ∀ ad, A = some ad → 0 < n → ¬ F ad.block) : StepsIn w' (.slice A n c) S := by
  obtain ⟨A', c', hv, hc⟩ := h
  refine ⟨A', c', hv, fun k hk => ?_⟩
  obtain ⟨ad, hA, c0, c1, c2⟩ := hc k hk
  have hA' : A = A' := by simp at hv; exact hv.1
  have hn : ¬ F ad.block := hF ad (hA'.trans hA) (by simp at hv; omega)
  have hb : (ad.add (k * 3)).block < w.heap.size := World.block_lt_of_cell? _ _ c0
  rw [add_block] at hb
  have e : w'.heap[ad.block]? = w.heap[ad.block]? := ht.block _ hb hn
  refine ⟨ad, hA, ?_, ?_, ?_⟩
  · exact (World.cell?_of_block (a := ad.add (k * 3)) (by rw [add_block]; exact e)).trans c0
  · exact (World.cell?_of_block (a := (ad.add (k * 3)).add 1) (by rw [add_block, add_block]; exact e)).trans c1
  · exact (World.cell?_of_block (a := (ad.add (k * 3)).add 2) (by rw [add_block, add_block]; exact e)).trans c2

section
variable {w wr : World} {F G : Nat → Prop} {q R : Nat} {L L' : Ls} {k : Nat}

set_option maxRecDepth 100000 in
set_option maxHeartbeats 6400000 in
theorem fillP_any (h : pscT q R L w F) (hs : Shifts w) (h0 : ¬ F 0) (p a : Int) (hp : I64 p) (ha : W64 a) (A : Option Addr) (n c : Nat) (S : List Stp) (why : Int) (W1 U1 X1 : Bool) (lv fr : Int) (hn : S.length = n) (hl : n * 24 ≤ 140737488355328) (hS : StepsIn w (.slice A n c) S) (hA : ∀ ad, A = some ad → 0 < n → ¬ F ad.block) (hw : ∀ k, k < S.length → W64 (stepAt S k).2.2)
    (lev t : Int) (W U X : Bool) (k0 k1 k2 : Int) (hk0 : I64 k0) (hk1 : I64 k1) (hk2 : I64 k2) :
    Calls Tryd.prog 22 #[.pointer (some ⟨q, 0, none⟩), .int .i64 p, .int .u64 a, pathV (.slice A n c) why W1 U1 X1 lv fr, placeV lev t W U X, .agg #[.int .i64 k0, .int .i64 k1, .int .i64 k2]] w fun e w' =>
      e = .returned (.tuple #[]) ∧ pscT q R (fillK R p a (pkF k0 k1 k2) S W U X L) w' (Since F w) ∧ Turn F w w' := by
  have HS := Lib.hid hs
  have HF := Lib.hid h0
  have HA := Lib.hid ha
  have HP := Lib.hid hp
  have HST := Lib.hid hS
  have HOF := Lib.hid hA
  have HWD := Lib.hid hw
  have HPK : Hid (∀ k, I64 (pkF k0 k1 k2 k)) := Lib.hid (fun k => by unfold pkF; split; (· exact hk0); split; (· exact hk1); exact hk2)
  have HN := Lib.hid hn
  have e0 : IntKind.i64.wrap ((n : Int) - 1) = (n : Int) - 1 := by rw [IntKind.wrap_i64]; omega
  obtain ⟨L9, hL9⟩ : ∃ L9, fillK R p a (pkF k0 k1 k2) S W U X L = L9 := ⟨_, rfl⟩
  have HL9 : Hid (fillK R p a (pkF k0 k1 k2) (S.drop 0) W U X L = L9) := Lib.hid hL9
  rw [hL9]
  have H0 := Lib.hid (((((Has.start (firm_psc q R L) h).new (b := w.heap.size) rfl #[.slice A n c, .int .i64 why, .bool W1, .bool U1, .bool X1, .int .i64 lv, .int .u64 fr] 39).new (b := w.heap.size + 1) (by simp) #[.int .i64 lev, .int .u64 t, .bool W, .bool U, .bool X] 41).new (b := w.heap.size + 1 + 1) (by simp) #[.int .i64 k0, .int .i64 k1, .int .i64 k2] 42).new (b := w.heap.size + 1 + 1 + 1) (by simp) #[.bool W, .bool U, .bool X] 37)
  clear h hs h0 ha hp hS hA hw hn hk0 hk1 hk2 hL9
  go_enter Tryd.func22, Tryd.ntmps22
  go_upto_region 2 with fail
  generalize hw0 : (((w.alloc _).alloc _).alloc _).alloc _ = w0
  have H1 := Lib.hid (H0.out.world hw0)
  clear hw0 H0
  obtain ⟨b, hb⟩ : ∃ b, w.heap.size = b := ⟨_, rfl⟩
  rw [hb] at H1 ⊢
  have HB := Lib.hid hb
  clear hb
  obtain ⟨a0, a1, a2, a3, a4, a5, a6⟩ := (H1.out.at_ 3 rfl).seven
  go_wp2_with fail
  clear a0 a1 a2 a3 a4 a5 a6
  go_loopw [22] (fun i wr => ∃ (k : Nat) (V1 V2 V3 : Bool) (L1 : Ls) (G : Nat → Prop), k ≤ n - 1 ∧ i = .int .i64 k ∧ Hid (fillK R p a (pkF k0 k1 k2) (S.drop k) V1 V2 V3 L1 = L9) ∧ Hid (Has w wr F [⟨pscT q R L1, G⟩] [⟨b + 1 + 1 + 1, #[.bool V1, .bool V2, .bool V3], 37⟩, ⟨b + 1 + 1, #[.int .i64 k0, .int .i64 k1, .int .i64 k2], 42⟩, ⟨b + 1, #[.int .i64 lev, .int .u64 t, .bool W, .bool U, .bool X], 41⟩, ⟨b, #[.slice A n c, .int .i64 why, .bool W1, .bool U1, .bool X1, .int .i64 lv, .int .u64 fr], 39⟩] [])) (fun i _ => (n - intOf i).toNat)
  case atStart => exact ⟨0, W, U, X, L, _, by omega, rfl, HL9, H1⟩
  case round =>
    obtain ⟨k, V1, V2, V3, L1, G, hk, rfl, HD, HL⟩ := hrel
    clear H1 HL9
    by_cases hlt : k + 1 < n
    · have hlt2 := hlt
      have hc : (k : Int) < (n : Int) - 1 := by omega
      have hkn : k < n := by omega
      obtain ⟨⟨l, s, x⟩, hst⟩ : ∃ y, stepAt S k = y := ⟨_, rfl⟩
      obtain ⟨ad, rfl, d0, d1, d2⟩ := steps_at (HST.out.turn HL.out.turn HOF.out) (k := k) (by rw [HN.out]; omega)
      rw [hst] at d0 d1 d2
      have HX : Hid (W64 x) := Lib.hid (by have := HWD.out k (by rw [HN.out]; omega); rw [hst] at this; exact this)
      have HSP := Lib.hid hst
      clear hst hlt
      obtain ⟨a0, a1, a2, a3, a4, a5, a6⟩ := (HL.out.at_ 3 rfl).seven
      go_upto_region 6 with fail
      generalize hw2 : wr.alloc _ = w2
      have H2 := Lib.hid ((HL.out.new (b := wr.heap.size) rfl #[.int .i64 l, .int .u64 s, .int .u64 x] 65).world hw2)
      clear hw2 HL a0 a1 a2 a3 a4 a5 a6 d0 d1 d2
      generalize wr.heap.size = bs at *
      obtain ⟨s0, s1, s2⟩ := (H2.out.at_ 0 rfl).c3
      cases hld : leadF l x with
      | false =>
        go_wp2_with (first | (go_at_call 57; refine (leadsP_any l s x _).mono ?_; rw [hld]; rintro e w3 ⟨rfl, hb3⟩; have H3 := Lib.hid (H2.out.quiet hb3)))
        refine bodyPost_ret (results_none rfl _ _ _) rfl ⟨rfl, ?_⟩
        rw [← HD.out, fill_no (by rw [HN.out]; exact hlt2) HSP.out hld]
        exact H3.out.out 0 rfl
      | true =>
        obtain ⟨_, _, hl2, hl4⟩ := lead_parts hld
        have hll : l = 2 ∨ l = 3 ∨ l = 4 := by omega
        clear hl2 hl4
        have HD2 := Lib.hid ((fill_on (R := R) (p := p) (a := a) (pk := pkF k0 k1 k2) (W := V1) (U := V2) (X := V3) (L := L1) (by rw [HN.out]; exact hlt2) HSP.out hld).symm.trans HD.out)
        clear HD
        rcases hll with rfl | rfl | rfl
        · go_upto_region 8 with (first | (go_at_call 57; refine (leadsP_any _ s x _).mono ?_; rw [hld]; rintro e w3 ⟨rfl, hb3⟩; have H3 := Lib.hid (H2.out.quiet hb3); clear s0 s1 s2 hb3; obtain ⟨s0, s1, s2⟩ := (H3.out.at_ 0 rfl).c3; obtain ⟨r0, r1, r2⟩ := (H3.out.at_ 1 rfl).c3) | (go_at_call 53; refine (and_any V1 V2 V3 x _).mono ?_; rintro e w4 ⟨rfl, hb4⟩; have H4 := Lib.hid (H3.out.quiet hb4); clear hb4 s0 s1 s2 r0 r1 r2; obtain ⟨r0, r1, r2⟩ := (H4.out.at_ 1 rfl).c3; have f0 := (H4.out.at_ 1 rfl).fz 0; have f1 := (H4.out.at_ 1 rfl).fz 1; have f2 := (H4.out.at_ 1 rfl).fz 2))
          generalize hw5 : ((w4.setCell _ _).setCell _ _).setCell _ _ = w5
          have H5 := Lib.hid ((H4.out.put 1 rfl (turnB3 _ _ _ _ _) (setB3 (H4.out.at_ 1 rfl) _ _ _)).world hw5)
          clear hw5 H2 H3 H4 r0 r1 r2 f0 f1 f2 hld
          generalize (V1 && bitF x 1) = V4 at *
          generalize (V2 && bitF x 2) = V5 at *
          generalize (V3 && !bitF x 63) = V6 at *
          refine wp_region_held_drew (S := fun w' => Blk w' bs #[.int .i64 2, .int .u64 s, .int .u64 x] 65 ∧ Blk w' (b + 1 + 1 + 1) #[.bool V4, .bool V5, .bool V6] 37) (by kernel_rfl) ⟨(H5.out.quiet (Kept.drew0 w5)).at_ 0 rfl, (H5.out.quiet (Kept.drew0 w5)).at_ 1 rfl⟩ (fun hHeld => ?_)
          have J0 := Lib.hid (H5.out.quiet (Kept.drew0 w5))
          clear H5
          generalize w5.drew = v0 at *
          refine tk (v := ?_) 0 ?_ ?_
          rotate_left
          · intro w hSw
            go_simp
            (try with_reducible rfl)
          (try simp only [Act.put, List.setIfInBounds_toArray, List.set_cons_zero, List.set_cons_succ])
          refine tk (v := ?_) 1 ?_ ?_
          rotate_left
          · intro w hSw
            obtain ⟨s0, s1, s2⟩ := hSw.1.c3
            go_simp
            (try with_reducible rfl)
          (try simp only [Act.put, List.setIfInBounds_toArray, List.set_cons_zero, List.set_cons_succ])
          refine tk (v := ?_) 3 ?_ ?_
          rotate_left
          · intro w hSw
            obtain ⟨r0, r1, r2⟩ := hSw.2.c3
            go_simp
            (try with_reducible rfl)
          (try simp only [Act.put, List.setIfInBounds_toArray, List.set_cons_zero, List.set_cons_succ])
          refine wpAnyH_ready (rs := [2, 5]) (by kernel_rfl) (by simp) ?_
          refine anyH_one rfl (fun K hK => ?_) ?_
          · go_simp
            refine (table_any _ _ HX.out).mono ?_
            rintro e _ ⟨rfl, rfl⟩
            refine hK.out _ _ (hHeld) (fun hHeld => ?_)
            clear hK K
            (try simp only [Act.put, List.setIfInBounds_toArray, List.set_cons_zero, List.set_cons_succ])
            refine tk (v := ?_) 4 ?_ ?_
            rotate_left
            · intro w hSw
              go_simp
              (try with_reducible rfl)
            (try simp only [Act.put, List.setIfInBounds_toArray, List.set_cons_zero, List.set_cons_succ])
            refine wpAnyH_ready (rs := [5]) (by kernel_rfl) (by simp) ?_
            refine anyH_one rfl (fun K hK => ?_) ?_
            · go_simp
              generalize hq : v0.alloc _ = v1
              have J1 := Lib.hid ((J0.out.new (b := v0.heap.size) rfl _ _).world hq)
              clear hq J0
              generalize v0.heap.size = bl at J1 ⊢
              refine hK.out _ _ (⟨J1.out.at_ 1 rfl, J1.out.at_ 2 rfl⟩) (fun hHeld => ?_)
              clear hK K
              (try simp only [Act.put, List.setIfInBounds_toArray, List.set_cons_zero, List.set_cons_succ])
              refine wpAnyH_ready (rs := [6]) (by kernel_rfl) (by simp) ?_
              refine anyH_one rfl (fun K hK => ?_) ?_
              · obtain ⟨l0, l1, l2, l3, l4, l5⟩ := (J1.out.at_ 0 rfl).c6
                have g0 := (J1.out.at_ 0 rfl).fz 0; have g1 := (J1.out.at_ 0 rfl).fz 1; have g2 := (J1.out.at_ 0 rfl).fz 2; have g3 := (J1.out.at_ 0 rfl).fz 3; have g4 := (J1.out.at_ 0 rfl).fz 4; have g5 := (J1.out.at_ 0 rfl).fz 5
                go_simp
                generalize hq : (((((v1.setCell _ _).setCell _ _).setCell _ _).setCell _ _).setCell _ _).setCell _ _ = v2
                have J2 := Lib.hid ((J1.out.put 0 rfl (turnB6 _ _ _ _ _ _ _ _) (setB6 (J1.out.at_ 0 rfl) _ _ _ _ _ _)).world hq)
                clear hq J1 l0 l1 l2 l3 l4 l5 g0 g1 g2 g3 g4 g5
                refine hK.out _ _ (⟨J2.out.at_ 1 rfl, J2.out.at_ 2 rfl⟩) (fun hHeld => ?_)
                clear hK K
                (try simp only [Act.put, List.setIfInBounds_toArray, List.set_cons_zero, List.set_cons_succ])
                refine wpAnyH_done (by kernel_rfl) ?_ _
                clear hHeld
                go_upto_region 9 with fail
                have K9 := Lib.hid (J2.out.quiet (Kept.drew0 v2))
                clear J2
                refine wp_region_held_drew (S := fun w' => Blk w' bs #[.int .i64 2, .int .u64 s, .int .u64 x] 65 ∧ Blk w' bl #[.int .u64 (tableF x), .bool V4, .bool V5, .bool V6, .bool false, .int .u8 0] 98 ∧ Blk w' (b + 1 + 1) #[.int .i64 k0, .int .i64 k1, .int .i64 k2] 42) (by kernel_rfl) ⟨K9.out.at_ 1 rfl, K9.out.at_ 0 rfl, K9.out.at_ 3 rfl⟩ (fun hHeld => ?_)
                generalize v2.drew = v9 at *
                obtain ⟨cc, Hk, hof, hgo⟩ := K9.out.psc 0 rfl 2 (by decide) (by decide)
                have HG := Lib.hid hgo
                have HS1 := Lib.hid (K9.out.shifts HS.out HF.out)
                have HKY := Lib.hid fun w1 (hb : Below v9.heap.size v9 w1) => keyP_any p a 2 w1 (shifts_kept HS1.out hb) HA.out (by decide) (by decide)
                have HOK : Hid (OkK (p, 2, tagF a 2)) := Lib.hid ⟨HP.out, (show I64 2 by unfold I64; omega), tag_w a 2⟩
                unfold kyF at HD2
                generalize tagF a 2 = t9 at *
                clear hgo HS1 K9
                refine tk (v := ?_) 0 ?_ ?_
                rotate_left
                · intro w hSw
                  go_simp
                  (try with_reducible rfl)
                (try simp only [Act.put, List.setIfInBounds_toArray, List.set_cons_zero, List.set_cons_succ])
                refine tk (v := ?_) 1 ?_ ?_
                rotate_left
                · intro w hSw
                  go_simp
                  (try with_reducible rfl)
                (try simp only [Act.put, List.setIfInBounds_toArray, List.set_cons_zero, List.set_cons_succ])
                refine tk (v := ?_) 2 ?_ ?_
                rotate_left
                · intro w hSw
                  obtain ⟨s0, s1, s2⟩ := hSw.1.c3
                  go_simp
                  (try with_reducible rfl)
                (try simp only [Act.put, List.setIfInBounds_toArray, List.set_cons_zero, List.set_cons_succ])
                refine tk (v := ?_) 4 ?_ ?_
                rotate_left
                · intro w hSw
                  go_simp
                  (try with_reducible rfl)
                (try simp only [Act.put, List.setIfInBounds_toArray, List.set_cons_zero, List.set_cons_succ])
                refine tk (v := ?_) 5 ?_ ?_
                rotate_left
                · intro w hSw
                  go_simp
                  (try with_reducible rfl)
                (try simp only [Act.put, List.setIfInBounds_toArray, List.set_cons_zero, List.set_cons_succ])
                refine tk (v := ?_) 6 ?_ ?_
                rotate_left
                · intro w hSw
                  go_simp
                  (try with_reducible rfl)
                (try simp only [Act.put, List.setIfInBounds_toArray, List.set_cons_zero, List.set_cons_succ])
                refine tk (v := ?_) 7 ?_ ?_
                rotate_left
                · intro w hSw
                  obtain ⟨s0, s1, s2⟩ := hSw.1.c3
                  go_simp
                  (try with_reducible rfl)
                (try simp only [Act.put, List.setIfInBounds_toArray, List.set_cons_zero, List.set_cons_succ])
                refine tk (v := ?_) 9 ?_ ?_
                rotate_left
                · intro w hSw
                  obtain ⟨l0, l1, l2, l3, l4, l5⟩ := hSw.2.1.c6
                  go_simp
                  (try with_reducible rfl)
                (try simp only [Act.put, List.setIfInBounds_toArray, List.set_cons_zero, List.set_cons_succ])
                refine tk (v := ?_) 10 ?_ ?_
                rotate_left
                · intro w hSw
                  go_simp
                  (try with_reducible rfl)
                (try simp only [Act.put, List.setIfInBounds_toArray, List.set_cons_zero, List.set_cons_succ])
                refine tk (v := ?_) 11 ?_ ?_
                rotate_left
                · intro w hSw
                  obtain ⟨s0, s1, s2⟩ := hSw.1.c3
                  go_simp
                  (try with_reducible rfl)
                (try simp only [Act.put, List.setIfInBounds_toArray, List.set_cons_zero, List.set_cons_succ])
                refine wpAnyH_ready (rs := [3]) (by kernel_rfl) (by simp) ?_
                refine anyH_one rfl (fun K hK => ?_) ?_
                · go_simp
                  refine hof.mono ?_
                  rintro e u1 ⟨rfl, hb1⟩
                  refine hK.out _ _ (⟨hHeld.1.below hb1, hHeld.2.1.below hb1, hHeld.2.2.below hb1⟩) (fun hHeld => ?_)
                  clear hK K
                  (try simp only [Act.put, List.setIfInBounds_toArray, List.set_cons_zero, List.set_cons_succ])
                  refine wpAnyH_ready (rs := [8]) (by kernel_rfl) (by simp) ?_
                  refine anyH_one rfl (fun K hK => ?_) ?_
                  · go_simp
                    refine (HKY.out _ hb1).mono ?_
                    rintro e u2 ⟨rfl, hb2⟩
                    refine hK.out _ _ (⟨hHeld.1.below hb2, hHeld.2.1.below hb2, hHeld.2.2.below hb2⟩) (fun hHeld => ?_)
                    clear hK K
                    (try simp only [Act.put, List.setIfInBounds_toArray, List.set_cons_zero, List.set_cons_succ])
                    have hb3 := hb1.trans (hb2.mono hb1.size)
                    clear hb1 hb2
                    refine wpAnyH_ready (rs := [12]) (by kernel_rfl) (by simp) ?_
                    refine anyH_one rfl (fun K hK => ?_) ?_
                    · go_simp
                      refine (placeP_any _ _ (by decide) (by decide)).mono ?_
                      rintro e _ ⟨rfl, rfl⟩
                      refine hK.out _ _ (hHeld) (fun hHeld => ?_)
                      clear hK K
                      (try simp only [Act.put, List.setIfInBounds_toArray, List.set_cons_zero, List.set_cons_succ])
                      refine tk (v := ?_) 13 ?_ ?_
                      rotate_left
                      · intro w hSw
                        go_simp
                        (try with_reducible rfl)
                      (try simp only [Act.put, List.setIfInBounds_toArray, List.set_cons_zero, List.set_cons_succ])
                      refine tk (v := ?_) 14 ?_ ?_
                      rotate_left
                      · intro w hSw
                        obtain ⟨q0, q1, q2⟩ := hSw.2.2.c3
                        go_simp
                        (try with_reducible rfl)
                      (try simp only [Act.put, List.setIfInBounds_toArray, List.set_cons_zero, List.set_cons_succ])
                      refine wpAnyH_ready (rs := [15]) (by kernel_rfl) (by simp) ?_
                      refine anyH_one rfl (fun K hK => ?_) ?_
                      · go_simp
                        refine (putC_any (HG.out _ hb3).1 p _ t9 (tableF x) 0 _ V4 V5 V6 false HOK.out (HPK.out (kOf 2))).mono ?_
                        rintro e u4 ⟨rfl, hc4, ht4⟩
                        have HX9 := Lib.hid ((HG.out _ hb3).2 _ _ hc4 ht4)
                        clear hc4 ht4 hb3
                        refine hK.out _ _ (⟨HX9.out.at_ 1 rfl, HX9.out.at_ 0 rfl, HX9.out.at_ 3 rfl⟩) (fun hHeld => ?_)
                        clear hK K
                        (try simp only [Act.put, List.setIfInBounds_toArray, List.set_cons_zero, List.set_cons_succ])
                        refine wpAnyH_done (by kernel_rfl) ?_ _
                        have HX10 := Lib.hid (HX9.out.pick [2, 3, 4, 5] [])
                        clear HX9 hHeld
                        go_wp2
                        go_roundw
                        case rel => exact ⟨k + 1, V4, V5, V6, _, _, by omega, by go_num, HD2, HX10⟩
                        case measure => simp [intOf]; omega
                      exact AllReadyH.nil
                    exact AllReadyH.nil
                  exact AllReadyH.nil
                exact AllReadyH.nil
              exact AllReadyH.nil
            exact AllReadyH.nil
          refine anyH_one rfl (fun K hK => ?_) ?_
          · go_simp
            generalize hq : v0.alloc _ = v1
            have J1 := Lib.hid ((J0.out.new (b := v0.heap.size) rfl _ _).world hq)
            clear hq J0
            generalize v0.heap.size = bl at J1 ⊢
            refine hK.out _ _ (⟨J1.out.at_ 1 rfl, J1.out.at_ 2 rfl⟩) (fun hHeld => ?_)
            clear hK K
            (try simp only [Act.put, List.setIfInBounds_toArray, List.set_cons_zero, List.set_cons_succ])
            refine wpAnyH_ready (rs := [2]) (by kernel_rfl) (by simp) ?_
            refine anyH_one rfl (fun K hK => ?_) ?_
            · go_simp
              refine (table_any _ _ HX.out).mono ?_
              rintro e _ ⟨rfl, rfl⟩
              refine hK.out _ _ (hHeld) (fun hHeld => ?_)
              clear hK K
              (try simp only [Act.put, List.setIfInBounds_toArray, List.set_cons_zero, List.set_cons_succ])
              refine tk (v := ?_) 4 ?_ ?_
              rotate_left
              · intro w hSw
                go_simp
                (try with_reducible rfl)
              (try simp only [Act.put, List.setIfInBounds_toArray, List.set_cons_zero, List.set_cons_succ])
              refine wpAnyH_ready (rs := [6]) (by kernel_rfl) (by simp) ?_
              refine anyH_one rfl (fun K hK => ?_) ?_
              · obtain ⟨l0, l1, l2, l3, l4, l5⟩ := (J1.out.at_ 0 rfl).c6
                have g0 := (J1.out.at_ 0 rfl).fz 0; have g1 := (J1.out.at_ 0 rfl).fz 1; have g2 := (J1.out.at_ 0 rfl).fz 2; have g3 := (J1.out.at_ 0 rfl).fz 3; have g4 := (J1.out.at_ 0 rfl).fz 4; have g5 := (J1.out.at_ 0 rfl).fz 5
                go_simp
                generalize hq : (((((v1.setCell _ _).setCell _ _).setCell _ _).setCell _ _).setCell _ _).setCell _ _ = v2
                have J2 := Lib.hid ((J1.out.put 0 rfl (turnB6 _ _ _ _ _ _ _ _) (setB6 (J1.out.at_ 0 rfl) _ _ _ _ _ _)).world hq)
                clear hq J1 l0 l1 l2 l3 l4 l5 g0 g1 g2 g3 g4 g5
                refine hK.out _ _ (⟨J2.out.at_ 1 rfl, J2.out.at_ 2 rfl⟩) (fun hHeld => ?_)
                clear hK K
                (try simp only [Act.put, List.setIfInBounds_toArray, List.set_cons_zero, List.set_cons_succ])
                refine wpAnyH_done (by kernel_rfl) ?_ _
                clear hHeld
                go_upto_region 9 with fail
                have K9 := Lib.hid (J2.out.quiet (Kept.drew0 v2))
                clear J2
                refine wp_region_held_drew (S := fun w' => Blk w' bs #[.int .i64 2, .int .u64 s, .int .u64 x] 65 ∧ Blk w' bl #[.int .u64 (tableF x), .bool V4, .bool V5, .bool V6, .bool false, .int .u8 0] 98 ∧ Blk w' (b + 1 + 1) #[.int .i64 k0, .int .i64 k1, .int .i64 k2] 42) (by kernel_rfl) ⟨K9.out.at_ 1 rfl, K9.out.at_ 0 rfl, K9.out.at_ 3 rfl⟩ (fun hHeld => ?_)
                generalize v2.drew = v9 at *
                obtain ⟨cc, Hk, hof, hgo⟩ := K9.out.psc 0 rfl 2 (by decide) (by decide)
                have HG := Lib.hid hgo
                have HS1 := Lib.hid (K9.out.shifts HS.out HF.out)
                have HKY := Lib.hid fun w1 (hb : Below v9.heap.size v9 w1) => keyP_any p a 2 w1 (shifts_kept HS1.out hb) HA.out (by decide) (by decide)
                have HOK : Hid (OkK (p, 2, tagF a 2)) := Lib.hid ⟨HP.out, (show I64 2 by unfold I64; omega), tag_w a 2⟩
                unfold kyF at HD2
                generalize tagF a 2 = t9 at *
                clear hgo HS1 K9
                refine tk (v := ?_) 0 ?_ ?_
                rotate_left
                · intro w hSw
                  go_simp
                  (try with_reducible rfl)
                (try simp only [Act.put, List.setIfInBounds_toArray, List.set_cons_zero, List.set_cons_succ])
                refine tk (v := ?_) 1 ?_ ?_
                rotate_left
                · intro w hSw
                  go_simp
                  (try with_reducible rfl)
                (try simp only [Act.put, List.setIfInBounds_toArray, List.set_cons_zero, List.set_cons_succ])
                refine tk (v := ?_) 2 ?_ ?_
                rotate_left
                · intro w hSw
                  obtain ⟨s0, s1, s2⟩ := hSw.1.c3
                  go_simp
                  (try with_reducible rfl)
                (try simp only [Act.put, List.setIfInBounds_toArray, List.set_cons_zero, List.set_cons_succ])
                refine tk (v := ?_) 4 ?_ ?_
                rotate_left
                · intro w hSw
                  go_simp
                  (try with_reducible rfl)
                (try simp only [Act.put, List.setIfInBounds_toArray, List.set_cons_zero, List.set_cons_succ])
                refine tk (v := ?_) 5 ?_ ?_
                rotate_left
                · intro w hSw
                  go_simp
                  (try with_reducible rfl)
                (try simp only [Act.put, List.setIfInBounds_toArray, List.set_cons_zero, List.set_cons_succ])
                refine tk (v := ?_) 6 ?_ ?_
                rotate_left
                · intro w hSw
                  go_simp
                  (try with_reducible rfl)
                (try simp only [Act.put, List.setIfInBounds_toArray, List.set_cons_zero, List.set_cons_succ])
                refine tk (v := ?_) 7 ?_ ?_
                rotate_left
                · intro w hSw
                  obtain ⟨s0, s1, s2⟩ := hSw.1.c3
                  go_simp
                  (try with_reducible rfl)
                (try simp only [Act.put, List.setIfInBounds_toArray, List.set_cons_zero, List.set_cons_succ])
                refine tk (v := ?_) 9 ?_ ?_
                rotate_left
                · intro w hSw
                  obtain ⟨l0, l1, l2, l3, l4, l5⟩ := hSw.2.1.c6
                  go_simp
                  (try with_reducible rfl)
                (try simp only [Act.put, List.setIfInBounds_toArray, List.set_cons_zero, List.set_cons_succ])
                refine tk (v := ?_) 10 ?_ ?_
                rotate_left
                · intro w hSw
                  go_simp
                  (try with_reducible rfl)
                (try simp only [Act.put, List.setIfInBounds_toArray, List.set_cons_zero, List.set_cons_succ])
                refine tk (v := ?_) 11 ?_ ?_
                rotate_left
                · intro w hSw
                  obtain ⟨s0, s1, s2⟩ := hSw.1.c3
                  go_simp
                  (try with_reducible rfl)
                (try simp only [Act.put, List.setIfInBounds_toArray, List.set_cons_zero, List.set_cons_succ])
                refine wpAnyH_ready (rs := [3]) (by kernel_rfl) (by simp) ?_
                refine anyH_one rfl (fun K hK => ?_) ?_
                · go_simp
                  refine hof.mono ?_
                  rintro e u1 ⟨rfl, hb1⟩
                  refine hK.out _ _ (⟨hHeld.1.below hb1, hHeld.2.1.below hb1, hHeld.2.2.below hb1⟩) (fun hHeld => ?_)
                  clear hK K
                  (try simp only [Act.put, List.setIfInBounds_toArray, List.set_cons_zero, List.set_cons_succ])
                  refine wpAnyH_ready (rs := [8]) (by kernel_rfl) (by simp) ?_
                  refine anyH_one rfl (fun K hK => ?_) ?_
                  · go_simp
                    refine (HKY.out _ hb1).mono ?_
                    rintro e u2 ⟨rfl, hb2⟩
                    refine hK.out _ _ (⟨hHeld.1.below hb2, hHeld.2.1.below hb2, hHeld.2.2.below hb2⟩) (fun hHeld => ?_)
                    clear hK K
                    (try simp only [Act.put, List.setIfInBounds_toArray, List.set_cons_zero, List.set_cons_succ])
                    have hb3 := hb1.trans (hb2.mono hb1.size)
                    clear hb1 hb2
                    refine wpAnyH_ready (rs := [12]) (by kernel_rfl) (by simp) ?_
                    refine anyH_one rfl (fun K hK => ?_) ?_
                    · go_simp
                      refine (placeP_any _ _ (by decide) (by decide)).mono ?_
                      rintro e _ ⟨rfl, rfl⟩
                      refine hK.out _ _ (hHeld) (fun hHeld => ?_)
                      clear hK K
                      (try simp only [Act.put, List.setIfInBounds_toArray, List.set_cons_zero, List.set_cons_succ])
                      refine tk (v := ?_) 13 ?_ ?_
                      rotate_left
                      · intro w hSw
                        go_simp
                        (try with_reducible rfl)
                      (try simp only [Act.put, List.setIfInBounds_toArray, List.set_cons_zero, List.set_cons_succ])
                      refine tk (v := ?_) 14 ?_ ?_
                      rotate_left
                      · intro w hSw
                        obtain ⟨q0, q1, q2⟩ := hSw.2.2.c3
                        go_simp
                        (try with_reducible rfl)
                      (try simp only [Act.put, List.setIfInBounds_toArray, List.set_cons_zero, List.set_cons_succ])
                      refine wpAnyH_ready (rs := [15]) (by kernel_rfl) (by simp) ?_
                      refine anyH_one rfl (fun K hK => ?_) ?_
                      · go_simp
                        refine (putC_any (HG.out _ hb3).1 p _ t9 (tableF x) 0 _ V4 V5 V6 false HOK.out (HPK.out (kOf 2))).mono ?_
                        rintro e u4 ⟨rfl, hc4, ht4⟩
                        have HX9 := Lib.hid ((HG.out _ hb3).2 _ _ hc4 ht4)
                        clear hc4 ht4 hb3
                        refine hK.out _ _ (⟨HX9.out.at_ 1 rfl, HX9.out.at_ 0 rfl, HX9.out.at_ 3 rfl⟩) (fun hHeld => ?_)
                        clear hK K
                        (try simp only [Act.put, List.setIfInBounds_toArray, List.set_cons_zero, List.set_cons_succ])
                        refine wpAnyH_done (by kernel_rfl) ?_ _
                        have HX10 := Lib.hid (HX9.out.pick [2, 3, 4, 5] [])
                        clear HX9 hHeld
                        go_wp2
                        go_roundw
                        case rel => exact ⟨k + 1, V4, V5, V6, _, _, by omega, by go_num, HD2, HX10⟩
                        case measure => simp [intOf]; omega
                      exact AllReadyH.nil
                    exact AllReadyH.nil
                  exact AllReadyH.nil
                exact AllReadyH.nil
              exact AllReadyH.nil
            exact AllReadyH.nil
          exact AllReadyH.nil
        · go_upto_region 8 with (first | (go_at_call 57; refine (leadsP_any _ s x _).mono ?_; rw [hld]; rintro e w3 ⟨rfl, hb3⟩; have H3 := Lib.hid (H2.out.quiet hb3); clear s0 s1 s2 hb3; obtain ⟨s0, s1, s2⟩ := (H3.out.at_ 0 rfl).c3; obtain ⟨r0, r1, r2⟩ := (H3.out.at_ 1 rfl).c3) | (go_at_call 53; refine (and_any V1 V2 V3 x _).mono ?_; rintro e w4 ⟨rfl, hb4⟩; have H4 := Lib.hid (H3.out.quiet hb4); clear hb4 s0 s1 s2 r0 r1 r2; obtain ⟨r0, r1, r2⟩ := (H4.out.at_ 1 rfl).c3; have f0 := (H4.out.at_ 1 rfl).fz 0; have f1 := (H4.out.at_ 1 rfl).fz 1; have f2 := (H4.out.at_ 1 rfl).fz 2))
          generalize hw5 : ((w4.setCell _ _).setCell _ _).setCell _ _ = w5
          have H5 := Lib.hid ((H4.out.put 1 rfl (turnB3 _ _ _ _ _) (setB3 (H4.out.at_ 1 rfl) _ _ _)).world hw5)
          clear hw5 H2 H3 H4 r0 r1 r2 f0 f1 f2 hld
          generalize (V1 && bitF x 1) = V4 at *
          generalize (V2 && bitF x 2) = V5 at *
          generalize (V3 && !bitF x 63) = V6 at *
          refine wp_region_held_drew (S := fun w' => Blk w' bs #[.int .i64 3, .int .u64 s, .int .u64 x] 65 ∧ Blk w' (b + 1 + 1 + 1) #[.bool V4, .bool V5, .bool V6] 37) (by kernel_rfl) ⟨(H5.out.quiet (Kept.drew0 w5)).at_ 0 rfl, (H5.out.quiet (Kept.drew0 w5)).at_ 1 rfl⟩ (fun hHeld => ?_)
          have J0 := Lib.hid (H5.out.quiet (Kept.drew0 w5))
          clear H5
          generalize w5.drew = v0 at *
          refine tk (v := ?_) 0 ?_ ?_
          rotate_left
          · intro w hSw
            go_simp
            (try with_reducible rfl)
          (try simp only [Act.put, List.setIfInBounds_toArray, List.set_cons_zero, List.set_cons_succ])
          refine tk (v := ?_) 1 ?_ ?_
          rotate_left
          · intro w hSw
            obtain ⟨s0, s1, s2⟩ := hSw.1.c3
            go_simp
            (try with_reducible rfl)
          (try simp only [Act.put, List.setIfInBounds_toArray, List.set_cons_zero, List.set_cons_succ])
          refine tk (v := ?_) 3 ?_ ?_
          rotate_left
          · intro w hSw
            obtain ⟨r0, r1, r2⟩ := hSw.2.c3
            go_simp
            (try with_reducible rfl)
          (try simp only [Act.put, List.setIfInBounds_toArray, List.set_cons_zero, List.set_cons_succ])
          refine wpAnyH_ready (rs := [2, 5]) (by kernel_rfl) (by simp) ?_
          refine anyH_one rfl (fun K hK => ?_) ?_
          · go_simp
            refine (table_any _ _ HX.out).mono ?_
            rintro e _ ⟨rfl, rfl⟩
            refine hK.out _ _ (hHeld) (fun hHeld => ?_)
            clear hK K
            (try simp only [Act.put, List.setIfInBounds_toArray, List.set_cons_zero, List.set_cons_succ])
            refine tk (v := ?_) 4 ?_ ?_
            rotate_left
            · intro w hSw
              go_simp
              (try with_reducible rfl)
            (try simp only [Act.put, List.setIfInBounds_toArray, List.set_cons_zero, List.set_cons_succ])
            refine wpAnyH_ready (rs := [5]) (by kernel_rfl) (by simp) ?_
            refine anyH_one rfl (fun K hK => ?_) ?_
            · go_simp
              generalize hq : v0.alloc _ = v1
              have J1 := Lib.hid ((J0.out.new (b := v0.heap.size) rfl _ _).world hq)
              clear hq J0
              generalize v0.heap.size = bl at J1 ⊢
              refine hK.out _ _ (⟨J1.out.at_ 1 rfl, J1.out.at_ 2 rfl⟩) (fun hHeld => ?_)
              clear hK K
              (try simp only [Act.put, List.setIfInBounds_toArray, List.set_cons_zero, List.set_cons_succ])
              refine wpAnyH_ready (rs := [6]) (by kernel_rfl) (by simp) ?_
              refine anyH_one rfl (fun K hK => ?_) ?_
              · obtain ⟨l0, l1, l2, l3, l4, l5⟩ := (J1.out.at_ 0 rfl).c6
                have g0 := (J1.out.at_ 0 rfl).fz 0; have g1 := (J1.out.at_ 0 rfl).fz 1; have g2 := (J1.out.at_ 0 rfl).fz 2; have g3 := (J1.out.at_ 0 rfl).fz 3; have g4 := (J1.out.at_ 0 rfl).fz 4; have g5 := (J1.out.at_ 0 rfl).fz 5
                go_simp
                generalize hq : (((((v1.setCell _ _).setCell _ _).setCell _ _).setCell _ _).setCell _ _).setCell _ _ = v2
                have J2 := Lib.hid ((J1.out.put 0 rfl (turnB6 _ _ _ _ _ _ _ _) (setB6 (J1.out.at_ 0 rfl) _ _ _ _ _ _)).world hq)
                clear hq J1 l0 l1 l2 l3 l4 l5 g0 g1 g2 g3 g4 g5
                refine hK.out _ _ (⟨J2.out.at_ 1 rfl, J2.out.at_ 2 rfl⟩) (fun hHeld => ?_)
                clear hK K
                (try simp only [Act.put, List.setIfInBounds_toArray, List.set_cons_zero, List.set_cons_succ])
                refine wpAnyH_done (by kernel_rfl) ?_ _
                clear hHeld
                go_upto_region 9 with fail
                have K9 := Lib.hid (J2.out.quiet (Kept.drew0 v2))
                clear J2
                refine wp_region_held_drew (S := fun w' => Blk w' bs #[.int .i64 3, .int .u64 s, .int .u64 x] 65 ∧ Blk w' bl #[.int .u64 (tableF x), .bool V4, .bool V5, .bool V6, .bool false, .int .u8 0] 98 ∧ Blk w' (b + 1 + 1) #[.int .i64 k0, .int .i64 k1, .int .i64 k2] 42) (by kernel_rfl) ⟨K9.out.at_ 1 rfl, K9.out.at_ 0 rfl, K9.out.at_ 3 rfl⟩ (fun hHeld => ?_)
                generalize v2.drew = v9 at *
                obtain ⟨cc, Hk, hof, hgo⟩ := K9.out.psc 0 rfl 3 (by decide) (by decide)
                have HG := Lib.hid hgo
                have HS1 := Lib.hid (K9.out.shifts HS.out HF.out)
                have HKY := Lib.hid fun w1 (hb : Below v9.heap.size v9 w1) => keyP_any p a 3 w1 (shifts_kept HS1.out hb) HA.out (by decide) (by decide)
                have HOK : Hid (OkK (p, 3, tagF a 3)) := Lib.hid ⟨HP.out, (show I64 3 by unfold I64; omega), tag_w a 3⟩
                unfold kyF at HD2
                generalize tagF a 3 = t9 at *
                clear hgo HS1 K9
                refine tk (v := ?_) 0 ?_ ?_
                rotate_left
                · intro w hSw
                  go_simp
                  (try with_reducible rfl)
                (try simp only [Act.put, List.setIfInBounds_toArray, List.set_cons_zero, List.set_cons_succ])
                refine tk (v := ?_) 1 ?_ ?_
                rotate_left
                · intro w hSw
                  go_simp
                  (try with_reducible rfl)
                (try simp only [Act.put, List.setIfInBounds_toArray, List.set_cons_zero, List.set_cons_succ])
                refine tk (v := ?_) 2 ?_ ?_
                rotate_left
                · intro w hSw
                  obtain ⟨s0, s1, s2⟩ := hSw.1.c3
                  go_simp
                  (try with_reducible rfl)
                (try simp only [Act.put, List.setIfInBounds_toArray, List.set_cons_zero, List.set_cons_succ])
                refine tk (v := ?_) 4 ?_ ?_
                rotate_left
                · intro w hSw
                  go_simp
                  (try with_reducible rfl)
                (try simp only [Act.put, List.setIfInBounds_toArray, List.set_cons_zero, List.set_cons_succ])
                refine tk (v := ?_) 5 ?_ ?_
                rotate_left
                · intro w hSw
                  go_simp
                  (try with_reducible rfl)
                (try simp only [Act.put, List.setIfInBounds_toArray, List.set_cons_zero, List.set_cons_succ])
                refine tk (v := ?_) 6 ?_ ?_
                rotate_left
                · intro w hSw
                  go_simp
                  (try with_reducible rfl)
                (try simp only [Act.put, List.setIfInBounds_toArray, List.set_cons_zero, List.set_cons_succ])
                refine tk (v := ?_) 7 ?_ ?_
                rotate_left
                · intro w hSw
                  obtain ⟨s0, s1, s2⟩ := hSw.1.c3
                  go_simp
                  (try with_reducible rfl)
                (try simp only [Act.put, List.setIfInBounds_toArray, List.set_cons_zero, List.set_cons_succ])
                refine tk (v := ?_) 9 ?_ ?_
                rotate_left
                · intro w hSw
                  obtain ⟨l0, l1, l2, l3, l4, l5⟩ := hSw.2.1.c6
                  go_simp
                  (try with_reducible rfl)
                (try simp only [Act.put, List.setIfInBounds_toArray, List.set_cons_zero, List.set_cons_succ])
                refine tk (v := ?_) 10 ?_ ?_
                rotate_left
                · intro w hSw
                  go_simp
                  (try with_reducible rfl)
                (try simp only [Act.put, List.setIfInBounds_toArray, List.set_cons_zero, List.set_cons_succ])
                refine tk (v := ?_) 11 ?_ ?_
                rotate_left
                · intro w hSw
                  obtain ⟨s0, s1, s2⟩ := hSw.1.c3
                  go_simp
                  (try with_reducible rfl)
                (try simp only [Act.put, List.setIfInBounds_toArray, List.set_cons_zero, List.set_cons_succ])
                refine wpAnyH_ready (rs := [3]) (by kernel_rfl) (by simp) ?_
                refine anyH_one rfl (fun K hK => ?_) ?_
                · go_simp
                  refine hof.mono ?_
                  rintro e u1 ⟨rfl, hb1⟩
                  refine hK.out _ _ (⟨hHeld.1.below hb1, hHeld.2.1.below hb1, hHeld.2.2.below hb1⟩) (fun hHeld => ?_)
                  clear hK K
                  (try simp only [Act.put, List.setIfInBounds_toArray, List.set_cons_zero, List.set_cons_succ])
                  refine wpAnyH_ready (rs := [8]) (by kernel_rfl) (by simp) ?_
                  refine anyH_one rfl (fun K hK => ?_) ?_
                  · go_simp
                    refine (HKY.out _ hb1).mono ?_
                    rintro e u2 ⟨rfl, hb2⟩
                    refine hK.out _ _ (⟨hHeld.1.below hb2, hHeld.2.1.below hb2, hHeld.2.2.below hb2⟩) (fun hHeld => ?_)
                    clear hK K
                    (try simp only [Act.put, List.setIfInBounds_toArray, List.set_cons_zero, List.set_cons_succ])
                    have hb3 := hb1.trans (hb2.mono hb1.size)
                    clear hb1 hb2
                    refine wpAnyH_ready (rs := [12]) (by kernel_rfl) (by simp) ?_
                    refine anyH_one rfl (fun K hK => ?_) ?_
                    · go_simp
                      refine (placeP_any _ _ (by decide) (by decide)).mono ?_
                      rintro e _ ⟨rfl, rfl⟩
                      refine hK.out _ _ (hHeld) (fun hHeld => ?_)
                      clear hK K
                      (try simp only [Act.put, List.setIfInBounds_toArray, List.set_cons_zero, List.set_cons_succ])
                      refine tk (v := ?_) 13 ?_ ?_
                      rotate_left
                      · intro w hSw
                        go_simp
                        (try with_reducible rfl)
                      (try simp only [Act.put, List.setIfInBounds_toArray, List.set_cons_zero, List.set_cons_succ])
                      refine tk (v := ?_) 14 ?_ ?_
                      rotate_left
                      · intro w hSw
                        obtain ⟨q0, q1, q2⟩ := hSw.2.2.c3
                        go_simp
                        (try with_reducible rfl)
                      (try simp only [Act.put, List.setIfInBounds_toArray, List.set_cons_zero, List.set_cons_succ])
                      refine wpAnyH_ready (rs := [15]) (by kernel_rfl) (by simp) ?_
                      refine anyH_one rfl (fun K hK => ?_) ?_
                      · go_simp
                        refine (putC_any (HG.out _ hb3).1 p _ t9 (tableF x) 0 _ V4 V5 V6 false HOK.out (HPK.out (kOf 3))).mono ?_
                        rintro e u4 ⟨rfl, hc4, ht4⟩
                        have HX9 := Lib.hid ((HG.out _ hb3).2 _ _ hc4 ht4)
                        clear hc4 ht4 hb3
                        refine hK.out _ _ (⟨HX9.out.at_ 1 rfl, HX9.out.at_ 0 rfl, HX9.out.at_ 3 rfl⟩) (fun hHeld => ?_)
                        clear hK K
                        (try simp only [Act.put, List.setIfInBounds_toArray, List.set_cons_zero, List.set_cons_succ])
                        refine wpAnyH_done (by kernel_rfl) ?_ _
                        have HX10 := Lib.hid (HX9.out.pick [2, 3, 4, 5] [])
                        clear HX9 hHeld
                        go_wp2
                        go_roundw
                        case rel => exact ⟨k + 1, V4, V5, V6, _, _, by omega, by go_num, HD2, HX10⟩
                        case measure => simp [intOf]; omega
                      exact AllReadyH.nil
                    exact AllReadyH.nil
                  exact AllReadyH.nil
                exact AllReadyH.nil
              exact AllReadyH.nil
            exact AllReadyH.nil
          refine anyH_one rfl (fun K hK => ?_) ?_
          · go_simp
            generalize hq : v0.alloc _ = v1
            have J1 := Lib.hid ((J0.out.new (b := v0.heap.size) rfl _ _).world hq)
            clear hq J0
            generalize v0.heap.size = bl at J1 ⊢
            refine hK.out _ _ (⟨J1.out.at_ 1 rfl, J1.out.at_ 2 rfl⟩) (fun hHeld => ?_)
            clear hK K
            (try simp only [Act.put, List.setIfInBounds_toArray, List.set_cons_zero, List.set_cons_succ])
            refine wpAnyH_ready (rs := [2]) (by kernel_rfl) (by simp) ?_
            refine anyH_one rfl (fun K hK => ?_) ?_
            · go_simp
              refine (table_any _ _ HX.out).mono ?_
              rintro e _ ⟨rfl, rfl⟩
              refine hK.out _ _ (hHeld) (fun hHeld => ?_)
              clear hK K
              (try simp only [Act.put, List.setIfInBounds_toArray, List.set_cons_zero, List.set_cons_succ])
              refine tk (v := ?_) 4 ?_ ?_
              rotate_left
              · intro w hSw
                go_simp
                (try with_reducible rfl)
              (try simp only [Act.put, List.setIfInBounds_toArray, List.set_cons_zero, List.set_cons_succ])
              refine wpAnyH_ready (rs := [6]) (by kernel_rfl) (by simp) ?_
              refine anyH_one rfl (fun K hK => ?_) ?_
              · obtain ⟨l0, l1, l2, l3, l4, l5⟩ := (J1.out.at_ 0 rfl).c6
                have g0 := (J1.out.at_ 0 rfl).fz 0; have g1 := (J1.out.at_ 0 rfl).fz 1; have g2 := (J1.out.at_ 0 rfl).fz 2; have g3 := (J1.out.at_ 0 rfl).fz 3; have g4 := (J1.out.at_ 0 rfl).fz 4; have g5 := (J1.out.at_ 0 rfl).fz 5
                go_simp
                generalize hq : (((((v1.setCell _ _).setCell _ _).setCell _ _).setCell _ _).setCell _ _).setCell _ _ = v2
                have J2 := Lib.hid ((J1.out.put 0 rfl (turnB6 _ _ _ _ _ _ _ _) (setB6 (J1.out.at_ 0 rfl) _ _ _ _ _ _)).world hq)
                clear hq J1 l0 l1 l2 l3 l4 l5 g0 g1 g2 g3 g4 g5
                refine hK.out _ _ (⟨J2.out.at_ 1 rfl, J2.out.at_ 2 rfl⟩) (fun hHeld => ?_)
                clear hK K
                (try simp only [Act.put, List.setIfInBounds_toArray, List.set_cons_zero, List.set_cons_succ])
                refine wpAnyH_done (by kernel_rfl) ?_ _
                clear hHeld
                go_upto_region 9 with fail
                have K9 := Lib.hid (J2.out.quiet (Kept.drew0 v2))
                clear J2
                refine wp_region_held_drew (S := fun w' => Blk w' bs #[.int .i64 3, .int .u64 s, .int .u64 x] 65 ∧ Blk w' bl #[.int .u64 (tableF x), .bool V4, .bool V5, .bool V6, .bool false, .int .u8 0] 98 ∧ Blk w' (b + 1 + 1) #[.int .i64 k0, .int .i64 k1, .int .i64 k2] 42) (by kernel_rfl) ⟨K9.out.at_ 1 rfl, K9.out.at_ 0 rfl, K9.out.at_ 3 rfl⟩ (fun hHeld => ?_)
                generalize v2.drew = v9 at *
                obtain ⟨cc, Hk, hof, hgo⟩ := K9.out.psc 0 rfl 3 (by decide) (by decide)
                have HG := Lib.hid hgo
                have HS1 := Lib.hid (K9.out.shifts HS.out HF.out)
                have HKY := Lib.hid fun w1 (hb : Below v9.heap.size v9 w1) => keyP_any p a 3 w1 (shifts_kept HS1.out hb) HA.out (by decide) (by decide)
                have HOK : Hid (OkK (p, 3, tagF a 3)) := Lib.hid ⟨HP.out, (show I64 3 by unfold I64; omega), tag_w a 3⟩
                unfold kyF at HD2
                generalize tagF a 3 = t9 at *
                clear hgo HS1 K9
                refine tk (v := ?_) 0 ?_ ?_
                rotate_left
                · intro w hSw
                  go_simp
                  (try with_reducible rfl)
                (try simp only [Act.put, List.setIfInBounds_toArray, List.set_cons_zero, List.set_cons_succ])
                refine tk (v := ?_) 1 ?_ ?_
                rotate_left
                · intro w hSw
                  go_simp
                  (try with_reducible rfl)
                (try simp only [Act.put, List.setIfInBounds_toArray, List.set_cons_zero, List.set_cons_succ])
                refine tk (v := ?_) 2 ?_ ?_
                rotate_left
                · intro w hSw
                  obtain ⟨s0, s1, s2⟩ := hSw.1.c3
                  go_simp
                  (try with_reducible rfl)
                (try simp only [Act.put, List.setIfInBounds_toArray, List.set_cons_zero, List.set_cons_succ])
                refine tk (v := ?_) 4 ?_ ?_
                rotate_left
                · intro w hSw
                  go_simp
                  (try with_reducible rfl)
                (try simp only [Act.put, List.setIfInBounds_toArray, List.set_cons_zero, List.set_cons_succ])
                refine tk (v := ?_) 5 ?_ ?_
                rotate_left
                · intro w hSw
                  go_simp
                  (try with_reducible rfl)
                (try simp only [Act.put, List.setIfInBounds_toArray, List.set_cons_zero, List.set_cons_succ])
                refine tk (v := ?_) 6 ?_ ?_
                rotate_left
                · intro w hSw
                  go_simp
                  (try with_reducible rfl)
                (try simp only [Act.put, List.setIfInBounds_toArray, List.set_cons_zero, List.set_cons_succ])
                refine tk (v := ?_) 7 ?_ ?_
                rotate_left
                · intro w hSw
                  obtain ⟨s0, s1, s2⟩ := hSw.1.c3
                  go_simp
                  (try with_reducible rfl)
                (try simp only [Act.put, List.setIfInBounds_toArray, List.set_cons_zero, List.set_cons_succ])
                refine tk (v := ?_) 9 ?_ ?_
                rotate_left
                · intro w hSw
                  obtain ⟨l0, l1, l2, l3, l4, l5⟩ := hSw.2.1.c6
                  go_simp
                  (try with_reducible rfl)
                (try simp only [Act.put, List.setIfInBounds_toArray, List.set_cons_zero, List.set_cons_succ])
                refine tk (v := ?_) 10 ?_ ?_
                rotate_left
                · intro w hSw
                  go_simp
                  (try with_reducible rfl)
                (try simp only [Act.put, List.setIfInBounds_toArray, List.set_cons_zero, List.set_cons_succ])
                refine tk (v := ?_) 11 ?_ ?_
                rotate_left
                · intro w hSw
                  obtain ⟨s0, s1, s2⟩ := hSw.1.c3
                  go_simp
                  (try with_reducible rfl)
                (try simp only [Act.put, List.setIfInBounds_toArray, List.set_cons_zero, List.set_cons_succ])
                refine wpAnyH_ready (rs := [3]) (by kernel_rfl) (by simp) ?_
                refine anyH_one rfl (fun K hK => ?_) ?_
                · go_simp
                  refine hof.mono ?_
                  rintro e u1 ⟨rfl, hb1⟩
                  refine hK.out _ _ (⟨hHeld.1.below hb1, hHeld.2.1.below hb1, hHeld.2.2.below hb1⟩) (fun hHeld => ?_)
                  clear hK K
                  (try simp only [Act.put, List.setIfInBounds_toArray, List.set_cons_zero, List.set_cons_succ])
                  refine wpAnyH_ready (rs := [8]) (by kernel_rfl) (by simp) ?_
                  refine anyH_one rfl (fun K hK => ?_) ?_
                  · go_simp
                    refine (HKY.out _ hb1).mono ?_
                    rintro e u2 ⟨rfl, hb2⟩
                    refine hK.out _ _ (⟨hHeld.1.below hb2, hHeld.2.1.below hb2, hHeld.2.2.below hb2⟩) (fun hHeld => ?_)
                    clear hK K
                    (try simp only [Act.put, List.setIfInBounds_toArray, List.set_cons_zero, List.set_cons_succ])
                    have hb3 := hb1.trans (hb2.mono hb1.size)
                    clear hb1 hb2
                    refine wpAnyH_ready (rs := [12]) (by kernel_rfl) (by simp) ?_
                    refine anyH_one rfl (fun K hK => ?_) ?_
                    · go_simp
                      refine (placeP_any _ _ (by decide) (by decide)).mono ?_
                      rintro e _ ⟨rfl, rfl⟩
                      refine hK.out _ _ (hHeld) (fun hHeld => ?_)
                      clear hK K
                      (try simp only [Act.put, List.setIfInBounds_toArray, List.set_cons_zero, List.set_cons_succ])
                      refine tk (v := ?_) 13 ?_ ?_
                      rotate_left
                      · intro w hSw
                        go_simp
                        (try with_reducible rfl)
                      (try simp only [Act.put, List.setIfInBounds_toArray, List.set_cons_zero, List.set_cons_succ])
                      refine tk (v := ?_) 14 ?_ ?_
                      rotate_left
                      · intro w hSw
                        obtain ⟨q0, q1, q2⟩ := hSw.2.2.c3
                        go_simp
                        (try with_reducible rfl)
                      (try simp only [Act.put, List.setIfInBounds_toArray, List.set_cons_zero, List.set_cons_succ])
                      refine wpAnyH_ready (rs := [15]) (by kernel_rfl) (by simp) ?_
                      refine anyH_one rfl (fun K hK => ?_) ?_
                      · go_simp
                        refine (putC_any (HG.out _ hb3).1 p _ t9 (tableF x) 0 _ V4 V5 V6 false HOK.out (HPK.out (kOf 3))).mono ?_
                        rintro e u4 ⟨rfl, hc4, ht4⟩
                        have HX9 := Lib.hid ((HG.out _ hb3).2 _ _ hc4 ht4)
                        clear hc4 ht4 hb3
                        refine hK.out _ _ (⟨HX9.out.at_ 1 rfl, HX9.out.at_ 0 rfl, HX9.out.at_ 3 rfl⟩) (fun hHeld => ?_)
                        clear hK K
                        (try simp only [Act.put, List.setIfInBounds_toArray, List.set_cons_zero, List.set_cons_succ])
                        refine wpAnyH_done (by kernel_rfl) ?_ _
                        have HX10 := Lib.hid (HX9.out.pick [2, 3, 4, 5] [])
                        clear HX9 hHeld
                        go_wp2
                        go_roundw
                        case rel => exact ⟨k + 1, V4, V5, V6, _, _, by omega, by go_num, HD2, HX10⟩
                        case measure => simp [intOf]; omega
                      exact AllReadyH.nil
                    exact AllReadyH.nil
                  exact AllReadyH.nil
                exact AllReadyH.nil
              exact AllReadyH.nil
            exact AllReadyH.nil
          exact AllReadyH.nil
        · go_upto_region 8 with (first | (go_at_call 57; refine (leadsP_any _ s x _).mono ?_; rw [hld]; rintro e w3 ⟨rfl, hb3⟩; have H3 := Lib.hid (H2.out.quiet hb3); clear s0 s1 s2 hb3; obtain ⟨s0, s1, s2⟩ := (H3.out.at_ 0 rfl).c3; obtain ⟨r0, r1, r2⟩ := (H3.out.at_ 1 rfl).c3) | (go_at_call 53; refine (and_any V1 V2 V3 x _).mono ?_; rintro e w4 ⟨rfl, hb4⟩; have H4 := Lib.hid (H3.out.quiet hb4); clear hb4 s0 s1 s2 r0 r1 r2; obtain ⟨r0, r1, r2⟩ := (H4.out.at_ 1 rfl).c3; have f0 := (H4.out.at_ 1 rfl).fz 0; have f1 := (H4.out.at_ 1 rfl).fz 1; have f2 := (H4.out.at_ 1 rfl).fz 2))
          generalize hw5 : ((w4.setCell _ _).setCell _ _).setCell _ _ = w5
          have H5 := Lib.hid ((H4.out.put 1 rfl (turnB3 _ _ _ _ _) (setB3 (H4.out.at_ 1 rfl) _ _ _)).world hw5)
          clear hw5 H2 H3 H4 r0 r1 r2 f0 f1 f2 hld
          generalize (V1 && bitF x 1) = V4 at *
          generalize (V2 && bitF x 2) = V5 at *
          generalize (V3 && !bitF x 63) = V6 at *
          refine wp_region_held_drew (S := fun w' => Blk w' bs #[.int .i64 4, .int .u64 s, .int .u64 x] 65 ∧ Blk w' (b + 1 + 1 + 1) #[.bool V4, .bool V5, .bool V6] 37) (by kernel_rfl) ⟨(H5.out.quiet (Kept.drew0 w5)).at_ 0 rfl, (H5.out.quiet (Kept.drew0 w5)).at_ 1 rfl⟩ (fun hHeld => ?_)
          have J0 := Lib.hid (H5.out.quiet (Kept.drew0 w5))
          clear H5
          generalize w5.drew = v0 at *
          refine tk (v := ?_) 0 ?_ ?_
          rotate_left
          · intro w hSw
            go_simp
            (try with_reducible rfl)
          (try simp only [Act.put, List.setIfInBounds_toArray, List.set_cons_zero, List.set_cons_succ])
          refine tk (v := ?_) 1 ?_ ?_
          rotate_left
          · intro w hSw
            obtain ⟨s0, s1, s2⟩ := hSw.1.c3
            go_simp
            (try with_reducible rfl)
          (try simp only [Act.put, List.setIfInBounds_toArray, List.set_cons_zero, List.set_cons_succ])
          refine tk (v := ?_) 3 ?_ ?_
          rotate_left
          · intro w hSw
            obtain ⟨r0, r1, r2⟩ := hSw.2.c3
            go_simp
            (try with_reducible rfl)
          (try simp only [Act.put, List.setIfInBounds_toArray, List.set_cons_zero, List.set_cons_succ])
          refine wpAnyH_ready (rs := [2, 5]) (by kernel_rfl) (by simp) ?_
          refine anyH_one rfl (fun K hK => ?_) ?_
          · go_simp
            refine (table_any _ _ HX.out).mono ?_
            rintro e _ ⟨rfl, rfl⟩
            refine hK.out _ _ (hHeld) (fun hHeld => ?_)
            clear hK K
            (try simp only [Act.put, List.setIfInBounds_toArray, List.set_cons_zero, List.set_cons_succ])
            refine tk (v := ?_) 4 ?_ ?_
            rotate_left
            · intro w hSw
              go_simp
              (try with_reducible rfl)
            (try simp only [Act.put, List.setIfInBounds_toArray, List.set_cons_zero, List.set_cons_succ])
            refine wpAnyH_ready (rs := [5]) (by kernel_rfl) (by simp) ?_
            refine anyH_one rfl (fun K hK => ?_) ?_
            · go_simp
              generalize hq : v0.alloc _ = v1
              have J1 := Lib.hid ((J0.out.new (b := v0.heap.size) rfl _ _).world hq)
              clear hq J0
              generalize v0.heap.size = bl at J1 ⊢
              refine hK.out _ _ (⟨J1.out.at_ 1 rfl, J1.out.at_ 2 rfl⟩) (fun hHeld => ?_)
              clear hK K
              (try simp only [Act.put, List.setIfInBounds_toArray, List.set_cons_zero, List.set_cons_succ])
              refine wpAnyH_ready (rs := [6]) (by kernel_rfl) (by simp) ?_
              refine anyH_one rfl (fun K hK => ?_) ?_
              · obtain ⟨l0, l1, l2, l3, l4, l5⟩ := (J1.out.at_ 0 rfl).c6
                have g0 := (J1.out.at_ 0 rfl).fz 0; have g1 := (J1.out.at_ 0 rfl).fz 1; have g2 := (J1.out.at_ 0 rfl).fz 2; have g3 := (J1.out.at_ 0 rfl).fz 3; have g4 := (J1.out.at_ 0 rfl).fz 4; have g5 := (J1.out.at_ 0 rfl).fz 5
                go_simp
                generalize hq : (((((v1.setCell _ _).setCell _ _).setCell _ _).setCell _ _).setCell _ _).setCell _ _ = v2
                have J2 := Lib.hid ((J1.out.put 0 rfl (turnB6 _ _ _ _ _ _ _ _) (setB6 (J1.out.at_ 0 rfl) _ _ _ _ _ _)).world hq)
                clear hq J1 l0 l1 l2 l3 l4 l5 g0 g1 g2 g3 g4 g5
                refine hK.out _ _ (⟨J2.out.at_ 1 rfl, J2.out.at_ 2 rfl⟩) (fun hHeld => ?_)
                clear hK K
                (try simp only [Act.put, List.setIfInBounds_toArray, List.set_cons_zero, List.set_cons_succ])
                refine wpAnyH_done (by kernel_rfl) ?_ _
                clear hHeld
                go_upto_region 9 with fail
                have K9 := Lib.hid (J2.out.quiet (Kept.drew0 v2))
                clear J2
                refine wp_region_held_drew (S := fun w' => Blk w' bs #[.int .i64 4, .int .u64 s, .int .u64 x] 65 ∧ Blk w' bl #[.int .u64 (tableF x), .bool V4, .bool V5, .bool V6, .bool false, .int .u8 0] 98 ∧ Blk w' (b + 1 + 1) #[.int .i64 k0, .int .i64 k1, .int .i64 k2] 42) (by kernel_rfl) ⟨K9.out.at_ 1 rfl, K9.out.at_ 0 rfl, K9.out.at_ 3 rfl⟩ (fun hHeld => ?_)
                generalize v2.drew = v9 at *
                obtain ⟨cc, Hk, hof, hgo⟩ := K9.out.psc 0 rfl 4 (by decide) (by decide)
                have HG := Lib.hid hgo
                have HS1 := Lib.hid (K9.out.shifts HS.out HF.out)
                have HKY := Lib.hid fun w1 (hb : Below v9.heap.size v9 w1) => keyP_any p a 4 w1 (shifts_kept HS1.out hb) HA.out (by decide) (by decide)
                have HOK : Hid (OkK (p, 4, tagF a 4)) := Lib.hid ⟨HP.out, (show I64 4 by unfold I64; omega), tag_w a 4⟩
                unfold kyF at HD2
                generalize tagF a 4 = t9 at *
                clear hgo HS1 K9
                refine tk (v := ?_) 0 ?_ ?_
                rotate_left
                · intro w hSw
                  go_simp
                  (try with_reducible rfl)
                (try simp only [Act.put, List.setIfInBounds_toArray, List.set_cons_zero, List.set_cons_succ])
                refine tk (v := ?_) 1 ?_ ?_
                rotate_left
                · intro w hSw
                  go_simp
                  (try with_reducible rfl)
                (try simp only [Act.put, List.setIfInBounds_toArray, List.set_cons_zero, List.set_cons_succ])
                refine tk (v := ?_) 2 ?_ ?_
                rotate_left
                · intro w hSw
                  obtain ⟨s0, s1, s2⟩ := hSw.1.c3
                  go_simp
                  (try with_reducible rfl)
                (try simp only [Act.put, List.setIfInBounds_toArray, List.set_cons_zero, List.set_cons_succ])
                refine tk (v := ?_) 4 ?_ ?_
                rotate_left
                · intro w hSw
                  go_simp
                  (try with_reducible rfl)
                (try simp only [Act.put, List.setIfInBounds_toArray, List.set_cons_zero, List.set_cons_succ])
                refine tk (v := ?_) 5 ?_ ?_
                rotate_left
                · intro w hSw
                  go_simp
                  (try with_reducible rfl)
                (try simp only [Act.put, List.setIfInBounds_toArray, List.set_cons_zero, List.set_cons_succ])
                refine tk (v := ?_) 6 ?_ ?_
                rotate_left
                · intro w hSw
                  go_simp
                  (try with_reducible rfl)
                (try simp only [Act.put, List.setIfInBounds_toArray, List.set_cons_zero, List.set_cons_succ])
                refine tk (v := ?_) 7 ?_ ?_
                rotate_left
                · intro w hSw
                  obtain ⟨s0, s1, s2⟩ := hSw.1.c3
                  go_simp
                  (try with_reducible rfl)
                (try simp only [Act.put, List.setIfInBounds_toArray, List.set_cons_zero, List.set_cons_succ])
                refine tk (v := ?_) 9 ?_ ?_
                rotate_left
                · intro w hSw
                  obtain ⟨l0, l1, l2, l3, l4, l5⟩ := hSw.2.1.c6
                  go_simp
                  (try with_reducible rfl)
                (try simp only [Act.put, List.setIfInBounds_toArray, List.set_cons_zero, List.set_cons_succ])
                refine tk (v := ?_) 10 ?_ ?_
                rotate_left
                · intro w hSw
                  go_simp
                  (try with_reducible rfl)
                (try simp only [Act.put, List.setIfInBounds_toArray, List.set_cons_zero, List.set_cons_succ])
                refine tk (v := ?_) 11 ?_ ?_
                rotate_left
                · intro w hSw
                  obtain ⟨s0, s1, s2⟩ := hSw.1.c3
                  go_simp
                  (try with_reducible rfl)
                (try simp only [Act.put, List.setIfInBounds_toArray, List.set_cons_zero, List.set_cons_succ])
                refine wpAnyH_ready (rs := [3]) (by kernel_rfl) (by simp) ?_
                refine anyH_one rfl (fun K hK => ?_) ?_
                · go_simp
                  refine hof.mono ?_
                  rintro e u1 ⟨rfl, hb1⟩
                  refine hK.out _ _ (⟨hHeld.1.below hb1, hHeld.2.1.below hb1, hHeld.2.2.below hb1⟩) (fun hHeld => ?_)
                  clear hK K
                  (try simp only [Act.put, List.setIfInBounds_toArray, List.set_cons_zero, List.set_cons_succ])
                  refine wpAnyH_ready (rs := [8]) (by kernel_rfl) (by simp) ?_
                  refine anyH_one rfl (fun K hK => ?_) ?_
                  · go_simp
                    refine (HKY.out _ hb1).mono ?_
                    rintro e u2 ⟨rfl, hb2⟩
                    refine hK.out _ _ (⟨hHeld.1.below hb2, hHeld.2.1.below hb2, hHeld.2.2.below hb2⟩) (fun hHeld => ?_)
                    clear hK K
                    (try simp only [Act.put, List.setIfInBounds_toArray, List.set_cons_zero, List.set_cons_succ])
                    have hb3 := hb1.trans (hb2.mono hb1.size)
                    clear hb1 hb2
                    refine wpAnyH_ready (rs := [12]) (by kernel_rfl) (by simp) ?_
                    refine anyH_one rfl (fun K hK => ?_) ?_
                    · go_simp
                      refine (placeP_any _ _ (by decide) (by decide)).mono ?_
                      rintro e _ ⟨rfl, rfl⟩
                      refine hK.out _ _ (hHeld) (fun hHeld => ?_)
                      clear hK K
                      (try simp only [Act.put, List.setIfInBounds_toArray, List.set_cons_zero, List.set_cons_succ])
                      refine tk (v := ?_) 13 ?_ ?_
                      rotate_left
                      · intro w hSw
                        go_simp
                        (try with_reducible rfl)
                      (try simp only [Act.put, List.setIfInBounds_toArray, List.set_cons_zero, List.set_cons_succ])
                      refine tk (v := ?_) 14 ?_ ?_
                      rotate_left
                      · intro w hSw
                        obtain ⟨q0, q1, q2⟩ := hSw.2.2.c3
                        go_simp
                        (try with_reducible rfl)
                      (try simp only [Act.put, List.setIfInBounds_toArray, List.set_cons_zero, List.set_cons_succ])
                      refine wpAnyH_ready (rs := [15]) (by kernel_rfl) (by simp) ?_
                      refine anyH_one rfl (fun K hK => ?_) ?_
                      · go_simp
                        refine (putC_any (HG.out _ hb3).1 p _ t9 (tableF x) 0 _ V4 V5 V6 false HOK.out (HPK.out (kOf 4))).mono ?_
                        rintro e u4 ⟨rfl, hc4, ht4⟩
                        have HX9 := Lib.hid ((HG.out _ hb3).2 _ _ hc4 ht4)
                        clear hc4 ht4 hb3
                        refine hK.out _ _ (⟨HX9.out.at_ 1 rfl, HX9.out.at_ 0 rfl, HX9.out.at_ 3 rfl⟩) (fun hHeld => ?_)
                        clear hK K
                        (try simp only [Act.put, List.setIfInBounds_toArray, List.set_cons_zero, List.set_cons_succ])
                        refine wpAnyH_done (by kernel_rfl) ?_ _
                        have HX10 := Lib.hid (HX9.out.pick [2, 3, 4, 5] [])
                        clear HX9 hHeld
                        go_wp2
                        go_roundw
                        case rel => exact ⟨k + 1, V4, V5, V6, _, _, by omega, by go_num, HD2, HX10⟩
                        case measure => simp [intOf]; omega
                      exact AllReadyH.nil
                    exact AllReadyH.nil
                  exact AllReadyH.nil
                exact AllReadyH.nil
              exact AllReadyH.nil
            exact AllReadyH.nil
          refine anyH_one rfl (fun K hK => ?_) ?_
          · go_simp
            generalize hq : v0.alloc _ = v1
            have J1 := Lib.hid ((J0.out.new (b := v0.heap.size) rfl _ _).world hq)
            clear hq J0
            generalize v0.heap.size = bl at J1 ⊢
            refine hK.out _ _ (⟨J1.out.at_ 1 rfl, J1.out.at_ 2 rfl⟩) (fun hHeld => ?_)
            clear hK K
            (try simp only [Act.put, List.setIfInBounds_toArray, List.set_cons_zero, List.set_cons_succ])
            refine wpAnyH_ready (rs := [2]) (by kernel_rfl) (by simp) ?_
            refine anyH_one rfl (fun K hK => ?_) ?_
            · go_simp
              refine (table_any _ _ HX.out).mono ?_
              rintro e _ ⟨rfl, rfl⟩
              refine hK.out _ _ (hHeld) (fun hHeld => ?_)
              clear hK K
              (try simp only [Act.put, List.setIfInBounds_toArray, List.set_cons_zero, List.set_cons_succ])
              refine tk (v := ?_) 4 ?_ ?_
              rotate_left
              · intro w hSw
                go_simp
                (try with_reducible rfl)
              (try simp only [Act.put, List.setIfInBounds_toArray, List.set_cons_zero, List.set_cons_succ])
              refine wpAnyH_ready (rs := [6]) (by kernel_rfl) (by simp) ?_
              refine anyH_one rfl (fun K hK => ?_) ?_
              · obtain ⟨l0, l1, l2, l3, l4, l5⟩ := (J1.out.at_ 0 rfl).c6
                have g0 := (J1.out.at_ 0 rfl).fz 0; have g1 := (J1.out.at_ 0 rfl).fz 1; have g2 := (J1.out.at_ 0 rfl).fz 2; have g3 := (J1.out.at_ 0 rfl).fz 3; have g4 := (J1.out.at_ 0 rfl).fz 4; have g5 := (J1.out.at_ 0 rfl).fz 5
                go_simp
                generalize hq : (((((v1.setCell _ _).setCell _ _).setCell _ _).setCell _ _).setCell _ _).setCell _ _ = v2
                have J2 := Lib.hid ((J1.out.put 0 rfl (turnB6 _ _ _ _ _ _ _ _) (setB6 (J1.out.at_ 0 rfl) _ _ _ _ _ _)).world hq)
                clear hq J1 l0 l1 l2 l3 l4 l5 g0 g1 g2 g3 g4 g5
                refine hK.out _ _ (⟨J2.out.at_ 1 rfl, J2.out.at_ 2 rfl⟩) (fun hHeld => ?_)
                clear hK K
                (try simp only [Act.put, List.setIfInBounds_toArray, List.set_cons_zero, List.set_cons_succ])
                refine wpAnyH_done (by kernel_rfl) ?_ _
                clear hHeld
                go_upto_region 9 with fail
                have K9 := Lib.hid (J2.out.quiet (Kept.drew0 v2))
                clear J2
                refine wp_region_held_drew (S := fun w' => Blk w' bs #[.int .i64 4, .int .u64 s, .int .u64 x] 65 ∧ Blk w' bl #[.int .u64 (tableF x), .bool V4, .bool V5, .bool V6, .bool false, .int .u8 0] 98 ∧ Blk w' (b + 1 + 1) #[.int .i64 k0, .int .i64 k1, .int .i64 k2] 42) (by kernel_rfl) ⟨K9.out.at_ 1 rfl, K9.out.at_ 0 rfl, K9.out.at_ 3 rfl⟩ (fun hHeld => ?_)
                generalize v2.drew = v9 at *
                obtain ⟨cc, Hk, hof, hgo⟩ := K9.out.psc 0 rfl 4 (by decide) (by decide)
                have HG := Lib.hid hgo
                have HS1 := Lib.hid (K9.out.shifts HS.out HF.out)
                have HKY := Lib.hid fun w1 (hb : Below v9.heap.size v9 w1) => keyP_any p a 4 w1 (shifts_kept HS1.out hb) HA.out (by decide) (by decide)
                have HOK : Hid (OkK (p, 4, tagF a 4)) := Lib.hid ⟨HP.out, (show I64 4 by unfold I64; omega), tag_w a 4⟩
                unfold kyF at HD2
                generalize tagF a 4 = t9 at *
                clear hgo HS1 K9
                refine tk (v := ?_) 0 ?_ ?_
                rotate_left
                · intro w hSw
                  go_simp
                  (try with_reducible rfl)
                (try simp only [Act.put, List.setIfInBounds_toArray, List.set_cons_zero, List.set_cons_succ])
                refine tk (v := ?_) 1 ?_ ?_
                rotate_left
                · intro w hSw
                  go_simp
                  (try with_reducible rfl)
                (try simp only [Act.put, List.setIfInBounds_toArray, List.set_cons_zero, List.set_cons_succ])
                refine tk (v := ?_) 2 ?_ ?_
                rotate_left
                · intro w hSw
                  obtain ⟨s0, s1, s2⟩ := hSw.1.c3
                  go_simp
                  (try with_reducible rfl)
                (try simp only [Act.put, List.setIfInBounds_toArray, List.set_cons_zero, List.set_cons_succ])
                refine tk (v := ?_) 4 ?_ ?_
                rotate_left
                · intro w hSw
                  go_simp
                  (try with_reducible rfl)
                (try simp only [Act.put, List.setIfInBounds_toArray, List.set_cons_zero, List.set_cons_succ])
                refine tk (v := ?_) 5 ?_ ?_
                rotate_left
                · intro w hSw
                  go_simp
                  (try with_reducible rfl)
                (try simp only [Act.put, List.setIfInBounds_toArray, List.set_cons_zero, List.set_cons_succ])
                refine tk (v := ?_) 6 ?_ ?_
                rotate_left
                · intro w hSw
                  go_simp
                  (try with_reducible rfl)
                (try simp only [Act.put, List.setIfInBounds_toArray, List.set_cons_zero, List.set_cons_succ])
                refine tk (v := ?_) 7 ?_ ?_
                rotate_left
                · intro w hSw
                  obtain ⟨s0, s1, s2⟩ := hSw.1.c3
                  go_simp
                  (try with_reducible rfl)
                (try simp only [Act.put, List.setIfInBounds_toArray, List.set_cons_zero, List.set_cons_succ])
                refine tk (v := ?_) 9 ?_ ?_
                rotate_left
                · intro w hSw
                  obtain ⟨l0, l1, l2, l3, l4, l5⟩ := hSw.2.1.c6
                  go_simp
                  (try with_reducible rfl)
                (try simp only [Act.put, List.setIfInBounds_toArray, List.set_cons_zero, List.set_cons_succ])
                refine tk (v := ?_) 10 ?_ ?_
                rotate_left
                · intro w hSw
                  go_simp
                  (try with_reducible rfl)
                (try simp only [Act.put, List.setIfInBounds_toArray, List.set_cons_zero, List.set_cons_succ])
                refine tk (v := ?_) 11 ?_ ?_
                rotate_left
                · intro w hSw
                  obtain ⟨s0, s1, s2⟩ := hSw.1.c3
                  go_simp
                  (try with_reducible rfl)
                (try simp only [Act.put, List.setIfInBounds_toArray, List.set_cons_zero, List.set_cons_succ])
                refine wpAnyH_ready (rs := [3]) (by kernel_rfl) (by simp) ?_
                refine anyH_one rfl (fun K hK => ?_) ?_
                · go_simp
                  refine hof.mono ?_
                  rintro e u1 ⟨rfl, hb1⟩
                  refine hK.out _ _ (⟨hHeld.1.below hb1, hHeld.2.1.below hb1, hHeld.2.2.below hb1⟩) (fun hHeld => ?_)
                  clear hK K
                  (try simp only [Act.put, List.setIfInBounds_toArray, List.set_cons_zero, List.set_cons_succ])
                  refine wpAnyH_ready (rs := [8]) (by kernel_rfl) (by simp) ?_
                  refine anyH_one rfl (fun K hK => ?_) ?_
                  · go_simp
                    refine (HKY.out _ hb1).mono ?_
                    rintro e u2 ⟨rfl, hb2⟩
                    refine hK.out _ _ (⟨hHeld.1.below hb2, hHeld.2.1.below hb2, hHeld.2.2.below hb2⟩) (fun hHeld => ?_)
                    clear hK K
                    (try simp only [Act.put, List.setIfInBounds_toArray, List.set_cons_zero, List.set_cons_succ])
                    have hb3 := hb1.trans (hb2.mono hb1.size)
                    clear hb1 hb2
                    refine wpAnyH_ready (rs := [12]) (by kernel_rfl) (by simp) ?_
                    refine anyH_one rfl (fun K hK => ?_) ?_
                    · go_simp
                      refine (placeP_any _ _ (by decide) (by decide)).mono ?_
                      rintro e _ ⟨rfl, rfl⟩
                      refine hK.out _ _ (hHeld) (fun hHeld => ?_)
                      clear hK K
                      (try simp only [Act.put, List.setIfInBounds_toArray, List.set_cons_zero, List.set_cons_succ])
                      refine tk (v := ?_) 13 ?_ ?_
                      rotate_left
                      · intro w hSw
                        go_simp
                        (try with_reducible rfl)
                      (try simp only [Act.put, List.setIfInBounds_toArray, List.set_cons_zero, List.set_cons_succ])
                      refine tk (v := ?_) 14 ?_ ?_
                      rotate_left
                      · intro w hSw
                        obtain ⟨q0, q1, q2⟩ := hSw.2.2.c3
                        go_simp
                        (try with_reducible rfl)
                      (try simp only [Act.put, List.setIfInBounds_toArray, List.set_cons_zero, List.set_cons_succ])
                      refine wpAnyH_ready (rs := [15]) (by kernel_rfl) (by simp) ?_
                      refine anyH_one rfl (fun K hK => ?_) ?_
                      · go_simp
                        refine (putC_any (HG.out _ hb3).1 p _ t9 (tableF x) 0 _ V4 V5 V6 false HOK.out (HPK.out (kOf 4))).mono ?_
                        rintro e u4 ⟨rfl, hc4, ht4⟩
                        have HX9 := Lib.hid ((HG.out _ hb3).2 _ _ hc4 ht4)
                        clear hc4 ht4 hb3
                        refine hK.out _ _ (⟨HX9.out.at_ 1 rfl, HX9.out.at_ 0 rfl, HX9.out.at_ 3 rfl⟩) (fun hHeld => ?_)
                        clear hK K
                        (try simp only [Act.put, List.setIfInBounds_toArray, List.set_cons_zero, List.set_cons_succ])
                        refine wpAnyH_done (by kernel_rfl) ?_ _
                        have HX10 := Lib.hid (HX9.out.pick [2, 3, 4, 5] [])
                        clear HX9 hHeld
                        go_wp2
                        go_roundw
                        case rel => exact ⟨k + 1, V4, V5, V6, _, _, by omega, by go_num, HD2, HX10⟩
                        case measure => simp [intOf]; omega
                      exact AllReadyH.nil
                    exact AllReadyH.nil
                  exact AllReadyH.nil
                exact AllReadyH.nil
              exact AllReadyH.nil
            exact AllReadyH.nil
          exact AllReadyH.nil
    · have hc : ¬ ((k : Int) < (n : Int) - 1) := by omega
      go_wp2
      go_end0
      refine ⟨rfl, ?_⟩
      rw [← HD.out, fill_few (by rw [List.length_drop, HN.out]; omega)]
      exact HL.out.out 0 rfl
end
end Go.Proofs.YtiihhlmddmicjaaDoor
/- Layer 11: what a warm psc's lines lead to. Nothing of the program. -/
namespace Go.Proofs.YtiihhlmddmicjaaDoor
set_option linter.unusedVariables false
set_option linter.unusedSimpArgs false

/-- a place to which a walk from the top comes, by the places ix -/
inductive Rch (f : Int → Int) (ix : Int → Int) : Int → Int → Bool → Bool → Bool → Prop
  | top : Rch f ix 4 0 true true true
  | down {l t : Int} {W U X : Bool} {x : Int} (h : Rch f ix l t W U X) (h2 : 2 ≤ l) (he : errS 16 (tableF t + 8 * ix l) = 0) (hx : f ((tableF t + 8 * ix l) / 8) = x) (hP : bitF x 0 = true) (hR : resF x l 16 true = false) (hL : leafF x l = false) :
      Rch f ix (l - 1) (tableF x) (W && bitF x 1) (U && bitF x 2) (X && !bitF x 63)

section
variable {f : Int → Int} {ix iy : Int → Int} {l t : Int} {W U X : Bool}
theorem Rch.lev (h : Rch f ix l t W U X) : 1 ≤ l ∧ l ≤ 4 ∧ W64 t ∧ tableF t = t := by
  induction h with
  | top => exact ⟨by decide, by decide, ⟨by decide, by decide⟩, by decide⟩
  | down h h2 _ _ _ _ _ ih => exact ⟨by omega, by omega, w64_table _, table_table _⟩
theorem Rch.same (h : Rch f ix l t W U X) : (∀ j, l < j → j ≤ 4 → ix j = iy j) → Rch f iy l t W U X := by
  induction h with
  | top => intro _; exact Rch.top
  | down h h2 he hx hP hR hL ih =>
    intro hi
    have e := hi _ (Int.sub_lt_self _ (by decide)) h.lev.2.1
    exact Rch.down (ih fun j h1 h4 => hi j (by omega) h4) h2 (by rw [← e]; exact he) (by rw [← e]; exact hx) hP hR hL
/-- a walk from the top goes through it -/
theorem Rch.through {a : Int} (h : Rch f (indexF a) l t W U X) : ∃ S : List Stp, walkZ 16 f a true 4 0 true true true = preP S (walkZ 16 f a true l t W U X) ∧ (S.length : Int) = 4 - l := by
  induction h with
  | top => exact ⟨[], rfl, rfl⟩
  | @down l t W U X x h h2 he hx hP hR hL ih =>
    obtain ⟨S, hS, hl⟩ := ih
    refine ⟨S ++ [(l, slotF t a l, x)], ?_, by simp; omega⟩
    have hw := walk_at (M := 16) (f := f) (a := a) (nxe := true) (W := W) (U := U) (X := X) (lev := l) (t := t) (s := slotF t a l) (x := x) (by omega) h.lev.2.1 rfl he hx
    rw [hS, hw, on_on hP hR hL, preP_preP]
/-- each step but the last leads to such a place -/
theorem Rch.steps {a : Int} : ∀ (i : Nat) {l t : Int} {W U X : Bool}, Rch f (indexF a) l t W U X → i + 1 < (walkZ 16 f a true l t W U X).steps.length →
    Rch f (indexF a) (l - (i + 1)) (tableF (stepAt (walkZ 16 f a true l t W U X).steps i).2.2) (rgtF W U X (walkZ 16 f a true l t W U X).steps (i + 1)).1 (rgtF W U X (walkZ 16 f a true l t W U X).steps (i + 1)).2.1 (rgtF W U X (walkZ 16 f a true l t W U X).steps (i + 1)).2.2
      ∧ (stepAt (walkZ 16 f a true l t W U X).steps i).1 = l - i ∧ 2 ≤ l - i ∧ leadF (l - i) (stepAt (walkZ 16 f a true l t W U X).steps i).2.2 = true := by
  intro i
  induction i with
  | zero =>
    intro l t W U X h hi
    have hl := h.lev
    by_cases he : errS 16 (slotF t a l) = 0
    · have hw := walk_at (M := 16) (f := f) (a := a) (nxe := true) (W := W) (U := U) (X := X) hl.1 hl.2.1 rfl he rfl
      generalize hx : f (slotF t a l / 8) = x at *
      rw [hw] at hi ⊢
      have hlen : 0 < (onP 16 true l x W U X (walkZ 16 f a true (l - 1))).steps.length := by simpa [preP] using hi
      have h2 : 2 ≤ l ∧ bitF x 0 = true ∧ resF x l 16 true = false ∧ leafF x l = false := by
        cases hP : bitF x 0
        · rw [on_abs hP] at hlen; simp [offP] at hlen
        · cases hR : resF x l 16 true
          · cases hL : leafF x l
            · rw [on_on hP hR hL] at hlen
              refine ⟨?_, rfl, rfl, rfl⟩
              apply Classical.byContradiction
              intro hn
              rw [walk_off (by omega)] at hlen
              simp [offP] at hlen
            · rw [on_leaf hP hR hL] at hlen; simp at hlen
          · rw [on_res hP hR] at hlen; simp [offP] at hlen
      obtain ⟨h2, hP, hR, hL⟩ := h2
      have := Rch.down h h2 he hx hP hR hL
      refine ⟨by simpa [preP, stepAt, rgtF] using this, by simp [preP, stepAt], by omega, ?_⟩
      unfold leadF
      simp [preP, stepAt, hP, hL]
      omega
    · rw [walk_err hl.1 hl.2.1 he] at hi; simp [offP] at hi
  | succ i ih =>
    intro l t W U X h hi
    have hl := h.lev
    by_cases he : errS 16 (slotF t a l) = 0
    · have hw := walk_at (M := 16) (f := f) (a := a) (nxe := true) (W := W) (U := U) (X := X) hl.1 hl.2.1 rfl he rfl
      generalize hx : f (slotF t a l / 8) = x at *
      rw [hw] at hi ⊢
      have hlen : i + 1 < (onP 16 true l x W U X (walkZ 16 f a true (l - 1))).steps.length := by simpa [preP] using hi
      have h2 : 2 ≤ l ∧ bitF x 0 = true ∧ resF x l 16 true = false ∧ leafF x l = false := by
        cases hP : bitF x 0
        · rw [on_abs hP] at hlen; simp [offP] at hlen
        · cases hR : resF x l 16 true
          · cases hL : leafF x l
            · rw [on_on hP hR hL] at hlen
              refine ⟨?_, rfl, rfl, rfl⟩
              apply Classical.byContradiction
              intro hn
              rw [walk_off (by omega)] at hlen
              simp [offP] at hlen
            · rw [on_leaf hP hR hL] at hlen; simp at hlen
          · rw [on_res hP hR] at hlen; simp [offP] at hlen
      obtain ⟨h2, hP, hR, hL⟩ := h2
      have hd := Rch.down h h2 he hx hP hR hL
      rw [on_on hP hR hL] at hlen ⊢
      have := ih hd hlen
      generalize walkZ 16 f a true (l - 1) (tableF x) (W && bitF x 1) (U && bitF x 2) (X && !bitF x 63) = Q at *
      have e1 : stepAt (preP [(l, slotF t a l, x)] Q).steps (i + 1) = stepAt Q.steps i := by simp [preP, stepAt]
      have e2 : rgtF W U X (preP [(l, slotF t a l, x)] Q).steps (i + 1 + 1) = rgtF (W && bitF x 1) (U && bitF x 2) (X && !bitF x 63) Q.steps (i + 1) := rfl
      rw [e1, e2, show l - (((i + 1 : Nat) : Int) + 1) = l - 1 - ((i : Int) + 1) by omega, show l - ((i + 1 : Nat) : Int) = l - 1 - (i : Int) by omega]
      exact this
    · rw [walk_err hl.1 hl.2.1 he] at hi; simp [offP] at hi
end

theorem putK_mem {R : Nat} {L : List Pr} {k : Ky} {l : Ln} {a : Int} {x : Pr} (h : x ∈ putK R L k l a) : x ∈ L ∨ x = (k, l) := by
  unfold putK at h
  split at h
  · rcases List.mem_or_eq_of_mem_set h with h | h
    · exact Or.inl h
    · exact Or.inr h
  · split at h
    · exact Or.inl h
    · rcases List.mem_append.1 h with h | h
      · split at h
        · exact Or.inl ((evK_sub L a).subset h)
        · exact Or.inl h
      · exact Or.inr (by simpa using h)

theorem fill_mem {R : Nat} {p a : Int} {pk : Nat → Int} {k : Nat} {x : Pr} : ∀ (S : List Stp) (W U X : Bool) (L : Ls), x ∈ fillK R p a pk S W U X L k →
    x ∈ L k ∨ ∃ i, i + 1 < S.length ∧ leadF (stepAt S i).1 (stepAt S i).2.2 = true ∧ k = kOf (stepAt S i).1 ∧ x = (kyF p a (stepAt S i).1, (tableF (stepAt S i).2.2, (rgtF W U X S (i + 1)).1, (rgtF W U X S (i + 1)).2.1, (rgtF W U X S (i + 1)).2.2, false, 0))
  | [], _, _, _, _, h => Or.inl h
  | [_], _, _, _, _, h => Or.inl h
  | s :: t :: S, W, U, X, L, h => by
    unfold fillK at h
    split at h
    · rename_i hld
      rcases fill_mem (t :: S) _ _ _ _ h with h | ⟨i, h1, h2, h3, h4⟩
      · unfold updL at h
        split at h
        · rename_i hk
          rcases putK_mem h with h | h
          · exact Or.inl (hk ▸ h)
          · exact Or.inr ⟨0, by simp, hld, hk, by simpa [stepAt, rgtF] using h⟩
        · exact Or.inl h
      · exact Or.inr ⟨i + 1, by simpa using h1, by simpa [stepAt] using h2, by simpa [stepAt] using h3, by simpa [stepAt, rgtF] using h4⟩
    · exact Or.inl h

/-- where a walk begins that goes on from what was found, or at the top -/
def startF (o : Option (Int × Ln)) : Int × Int × Bool × Bool × Bool := match o with
  | some (l, t, W, U, X, _, _) => (l, t, W, U, X)
  | none => (4, 0, true, true, true)
/-- the lines behind walks to the first so many addresses -/
def warmN (f : Int → Int) (R : Nat) (ns : List Int) : Nat → Ls
  | 0 => noL
  | i + 1 =>
    let L := warmN f R ns i
    let a := nearF (ns.getD i 0)
    let z := startF (deepK L 1 a)
    fillK R 1 a (pkF3 (ns.getD i 0) i) (walkZ 16 f a true z.1 z.2.1 z.2.2.1 z.2.2.2.1 z.2.2.2.2).steps z.2.2.1 z.2.2.2.1 z.2.2.2.2 L
where pkF3 (k0 k1 : Int) : Nat → Int := fun k => if k = 0 then k0 else if k = 1 then k1 else 0

theorem getK_mem {L : List Pr} {k : Ky} {l : Ln} (h : getK L k = some l) : (k, l) ∈ L := by
  unfold getK at h
  obtain ⟨x, hx, rfl⟩ := Option.map_eq_some_iff.1 h
  have h1 := List.find?_some hx
  have h2 := List.mem_of_find?_eq_some hx
  simp at h1
  rw [← h1]; exact h2
theorem deep_mem {L : Ls} {p a l : Int} {x : Ln} (h : deepK L p a = some (l, x)) : ∃ k : Nat, k < 3 ∧ l = 3 - (k : Int) ∧ (kyF p a (4 - (k : Int)), x) ∈ L k := by
  unfold deepK at h
  cases h2 : getK (L 2) (kyF p a 2) with
  | some y => rw [h2] at h; simp at h; obtain ⟨rfl, rfl⟩ := h; exact ⟨2, by decide, by decide, getK_mem h2⟩
  | none =>
    rw [h2] at h
    cases h1 : getK (L 1) (kyF p a 3) with
    | some y => rw [h1] at h; simp at h; obtain ⟨rfl, rfl⟩ := h; exact ⟨1, by decide, by decide, getK_mem h1⟩
    | none =>
      rw [h1] at h
      cases h0 : getK (L 0) (kyF p a 4) with
      | some y => rw [h0] at h; simp at h; obtain ⟨rfl, rfl⟩ := h; exact ⟨0, by decide, by decide, getK_mem h0⟩
      | none => rw [h0] at h; simp at h

/-- what each line of a warm psc is -/
def Warm (f : Int → Int) (ns : List Int) (n : Nat) (L : Ls) : Prop := ∀ (k : Nat), k < 3 → ∀ x ∈ L k, ∃ j, j < n ∧ x.1 = kyF 1 (nearF (ns.getD j 0)) (4 - (k : Int)) ∧ Rch f (indexF (nearF (ns.getD j 0))) (3 - (k : Int)) x.2.1 x.2.2.1 x.2.2.2.1 x.2.2.2.2.1
/-- what is found leads an address's own walk there -/
theorem Warm.deep {f : Int → Int} {ns : List Int} {n : Nat} {L : Ls} (h : Warm f ns n L) {a l t m : Int} {W U X d : Bool} (hd : deepK L 1 a = some (l, t, W, U, X, d, m)) : Rch f (indexF a) l t W U X ∧ l ≤ 3 ∧ ∃ j, j < n ∧ tagF a (l + 1) = tagF (nearF (ns.getD j 0)) (l + 1) := by
  obtain ⟨k, hk, rfl, hm⟩ := deep_mem hd
  obtain ⟨j, hj, h1, h2⟩ := h k hk _ hm
  have ht : tagF a (4 - (k : Int)) = tagF (nearF (ns.getD j 0)) (4 - (k : Int)) := by
    have := congrArg (fun y : Ky => y.2.2) h1
    exact this
  refine ⟨h2.same fun i hi h4 => (tag_same (by omega) (by omega) ht i (by omega) h4).symm, by omega, j, hj, ?_⟩
  rw [show 3 - (k : Int) + 1 = 4 - (k : Int) by omega]
  exact ht
theorem warm_start {f : Int → Int} {ns : List Int} {n : Nat} {L : Ls} (h : Warm f ns n L) (a : Int) {l t : Int} {W U X : Bool} (hz : startF (deepK L 1 a) = (l, t, W, U, X)) : Rch f (indexF a) l t W U X := by
  cases hd : deepK L 1 a with
  | none =>
    rw [hd] at hz
    simp [startF] at hz
    obtain ⟨rfl, rfl, rfl, rfl, rfl⟩ := hz
    exact Rch.top
  | some y =>
    obtain ⟨l', t', W', U', X', d, m⟩ := y
    rw [hd] at hz
    simp [startF] at hz
    obtain ⟨rfl, rfl, rfl, rfl, rfl⟩ := hz
    exact (h.deep hd).1
theorem warm_fill {f : Int → Int} {ns : List Int} {n : Nat} {L : Ls} {R : Nat} {pk : Nat → Int} {l t : Int} {W U X : Bool} (h : Warm f ns n L) (hr : Rch f (indexF (nearF (ns.getD n 0))) l t W U X) :
    Warm f ns (n + 1) (fillK R 1 (nearF (ns.getD n 0)) pk (walkZ 16 f (nearF (ns.getD n 0)) true l t W U X).steps W U X L) := by
  intro k hk x hx
  rcases fill_mem _ _ _ _ _ hx with hx | ⟨i, h1, h2, h3, rfl⟩
  · obtain ⟨j, hj, r⟩ := h k hk x hx
    exact ⟨j, by omega, r⟩
  · obtain ⟨a1, a2, a3, a4⟩ := Rch.steps i hr h1
    have hlv := hr.lev
    rw [a2] at h3
    have hkk := (kOf_lt (l := l - i) a3 (by omega)).2
    rw [← h3] at hkk
    refine ⟨n, by omega, ?_, ?_⟩
    · rw [a2, show l - (i : Int) = 4 - (k : Int) by omega]
    · rw [show 3 - (k : Int) = l - ((i : Int) + 1) by omega]
      exact a1
theorem warm_warm (f : Int → Int) (R : Nat) (ns : List Int) : ∀ n, Warm f ns n (warmN f R ns n)
  | 0 => fun k _ x hx => by simp [warmN, noL] at hx
  | n + 1 => by
    have ih := warm_warm f R ns n
    unfold warmN
    obtain ⟨⟨l, t, W, U, X⟩, hz⟩ : ∃ z, startF (deepK (warmN f R ns n) 1 (nearF (ns.getD n 0))) = z := ⟨_, rfl⟩
    simp only [hz]
    exact warm_fill ih (warm_start ih _ hz)
end Go.Proofs.YtiihhlmddmicjaaDoor
