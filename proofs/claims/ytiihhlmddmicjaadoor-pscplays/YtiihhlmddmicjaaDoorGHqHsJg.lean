/- Several texts of ours in one: Hq, Hs, Jg. -/
import Derived.Test.YtiihhlmddmicjaaDoorGJfL8sHp
import Derived.Test.YtiihhlmddmicjaaDoorGRjBxCc
/- Contracts of package walk: set, Mark. -/
namespace Go.Proofs.YtiihhlmddmicjaaDoor
set_option linter.unusedVariables false
set_option linter.unusedSimpArgs false
open Go.ChangeShapes Go.WideShapes Go.ChangeAt Go.RowKit Go.Joins

/-- Mark, in its loop -/
structure Mk (w wr : World) (F : Nat → Prop) (m : Nat) (M : Int) (f : Int → Int) (tr : List Int) (n : Nat) (v : Value) (S : List (Int × Int × Int)) (cs : Array Value) (G : Nat → Prop) : Prop where
  wk : Wk w wr F m M f tr n G
  box : Blk wr w.heap.size cs 39
  nb : ¬ G w.heap.size
  own : StepsOwn 65 wr 0 v S
  nv : ∀ i, v.ownBlock = some i → ¬ G i

section
variable {w wr w3 : World} {F G : Nat → Prop} {m : Nat} {M : Int} {f f' : Int → Int} {tr tr' : List Int} {n n' : Nat} {v : Value} {S : List (Int × Int × Int)} {cs : Array Value}
theorem Mk.quiet (h : Mk w wr F m M f tr n v S cs G) (hb : Below wr.heap.size wr w3) : Mk w w3 F m M f tr n v S cs G := ⟨h.wk.quiet hb, h.box.below hb, h.nb, h.own.below hb, h.nv⟩
theorem Mk.step (h : Mk w wr F m M f tr n v S cs G) (hm : Mem w3 (Since G wr) m M f' tr' n') (ht : Turn G wr w3) : ∃ G', Mk w w3 F m M f' tr' n' v S cs G' :=
  ⟨_, h.wk.step hm ht, h.box.turn ht h.nb, step_free h.nb h.box.lt, h.own.turn ht h.nv, fun i hi => step_free (h.nv i hi) (h.own.lt hi).2⟩
theorem Mk.start (h : Mem w F m M f tr n) (hS : StepsOwn 65 w 0 v S) (hv : ∀ i, v.ownBlock = some i → ¬ F i) (cs : Array Value) : Mk w (w.alloc (.cells cs 39)) F m M f tr n v S cs (fun i => F i ∧ i < w.heap.size) :=
  ⟨(Wk.start h).quiet (below_alloc1 _ _), Blk.new _ _ _, fun h => by omega, hS.below (below_alloc1 _ _), fun i hi hf => hv i hi hf.1⟩
end

end Go.Proofs.YtiihhlmddmicjaaDoor
/- Contracts of package walk: unused, Same. (Laid by tools/gen_hs.py.) -/
namespace Go.Proofs.YtiihhlmddmicjaaDoor
set_option linter.unusedVariables false
set_option linter.unusedSimpArgs false
open Go.ChangeShapes Go.WideShapes Go.ChangeAt Go.RowKit Go.Joins

/-- two paths in the variables of a call -/
structure Two (w wr : World) (pb : Nat) (v : Value) (P : Pth) (qb : Nat) (v' : Value) (Q : Pth) : Prop where
  boxP : Blk wr pb (pathCells v P) 39
  boxQ : Blk wr qb (pathCells v' Q) 39
  stepsP : StepsIn wr v P.steps
  stepsQ : StepsIn wr v' Q.steps
  below : Below w.heap.size w wr

section
variable {w wr w3 : World} {pb qb : Nat} {v v' : Value} {P Q : Pth}
theorem Two.quiet (h : Two w wr pb v P qb v' Q) (hb : Below wr.heap.size wr w3) : Two w w3 pb v P qb v' Q :=
  ⟨h.boxP.below hb, h.boxQ.below hb, h.stepsP.below hb, h.stepsQ.below hb, h.below.trans (hb.mono h.below.size)⟩
theorem Two.start (h1 : StepsIn w v P.steps) (h2 : StepsIn w v' Q.steps) : Two w ((w.alloc (.cells (pathCells v P) 39)).alloc (.cells (pathCells v' Q) 39)) w.heap.size v P (w.heap.size + 1) v' Q :=
  ⟨(Blk.new w _ _).alloc _, last_obj2 w _ _, h1.below (below2 w _ _), h2.below (below2 w _ _), below2 w _ _⟩
theorem steps_at {A : Option Addr} {L c : Nat} {S : List (Int × Int × Int)} (h : StepsIn wr (.slice A L c) S) {k : Nat} (hk : k < S.length) : ∃ ad, A = some ad ∧ wr.cell? (ad.add (k * 3)) = some (.int .i64 (stepAt S k).1) ∧ wr.cell? ⟨(ad.add (k * 3)).block, (ad.add (k * 3)).off + 1, none⟩ = some (.int .u64 (stepAt S k).2.1) ∧ wr.cell? ⟨(ad.add (k * 3)).block, (ad.add (k * 3)).off + 2, none⟩ = some (.int .u64 (stepAt S k).2.2) := by
  obtain ⟨A', c', hv, hc⟩ := h
  obtain ⟨ad, hA, d0, d1, d2⟩ := hc k hk
  simp at hv
  exact ⟨ad, hv.1.trans hA, d0, d1, d2⟩
end

end Go.Proofs.YtiihhlmddmicjaaDoor
/- Package psc: Fill. (Laid by tools/gen_jg.py.) -/
namespace Go.Proofs.YtiihhlmddmicjaaDoor
set_option linter.unusedVariables false
set_option linter.unusedSimpArgs false
open Go.ChangeShapes Go.WideShapes Go.ChangeAt Go.RowKit Go.Joins

/-- the three picks -/
def pkF (k0 k1 k2 : Int) : Nat → Int := fun k => if k = 0 then k0 else if k = 1 then k1 else k2

theorem add_block (ad : Addr) (k : Nat) : (ad.add k).block = ad.block := by unfold Addr.add; split <;> rfl
theorem StepsIn.turn {w w' : World} {F : Nat → Prop} {A : Option Addr} {n c : Nat} {S : List Stp} (h : StepsIn w (.slice A n c) S) (ht : Turn F w w') (hF : ∀ ad, A = some ad → 0 < n → ¬ F ad.block) : StepsIn w' (.slice A n c) S := by
  obtain ⟨A', c', hv, hc⟩ := h
  refine ⟨A', c', hv, fun k hk => ?_⟩
  obtain ⟨ad, hA, c0, c1, c2⟩ := hc k hk
  have hA' : A = A' := by simp at hv; exact hv.1
  have hn : ¬ F ad.block := hF ad (hA'.trans hA) (by simp at hv; omega)
  have hb : (ad.add (k * 3)).block < w.heap.size := World.block_lt_of_cell? _ _ c0
  rw [add_block] at hb
  have e : w'.heap[ad.block]? = w.heap[ad.block]? := ht.block _ hb hn
  refine ⟨ad, hA, ?_, ?_, ?_⟩
  · exact (World.cell?_of_block (a := ad.add (k * 3)) (by rw [add_block]; exact e)).trans c0
  · exact (World.cell?_of_block (a := (ad.add (k * 3)).add 1) (by rw [add_block, add_block]; exact e)).trans c1
  · exact (World.cell?_of_block (a := (ad.add (k * 3)).add 2) (by rw [add_block, add_block]; exact e)).trans c2

section
variable {w wr : World} {F G : Nat → Prop} {q R : Nat} {L L' : Ls} {k : Nat}

set_option maxRecDepth 100000 in
set_option maxHeartbeats 6400000 in
theorem fillP_any (h : pscT q R L w F) (hs : Shifts w) (h0 : ¬ F 0) (p a : Int) (hp : I64 p) (ha : W64 a) (A : Option Addr) (n c : Nat) (S : List Stp) (why : Int) (W1 U1 X1 : Bool) (lv fr : Int) (hn : S.length = n) (hl : n * 24 ≤ 140737488355328) (hS : StepsIn w (.slice A n c) S) (hA : ∀ ad, A = some ad → 0 < n → ¬ F ad.block) (hw : ∀ k, k < S.length → W64 (stepAt S k).2.2)
    (lev t : Int) (W U X : Bool) (k0 k1 k2 : Int) (hk0 : I64 k0) (hk1 : I64 k1) (hk2 : I64 k2) :
    Calls Tryd.prog 22 #[.pointer (some ⟨q, 0, none⟩), .int .i64 p, .int .u64 a, pathV (.slice A n c) why W1 U1 X1 lv fr, placeV lev t W U X, .agg #[.int .i64 k0, .int .i64 k1, .int .i64 k2]] w fun e w' =>
      e = .returned (.tuple #[]) ∧ pscT q R (fillK R p a (pkF k0 k1 k2) S W U X L) w' (Since F w) ∧ Turn F w w' := by
  have HS := Lib.hid hs
  have HF := Lib.hid h0
  have HA := Lib.hid ha
  have HP := Lib.hid hp
  have HST := Lib.hid hS
  have HOF := Lib.hid hA
  have HWD := Lib.hid hw
  have HPK : Hid (∀ k, I64 (pkF k0 k1 k2 k)) := Lib.hid (fun k => by unfold pkF; split; (· exact hk0); split; (· exact hk1); exact hk2)
  have HN := Lib.hid hn
  have e0 : IntKind.i64.wrap ((n : Int) - 1) = (n : Int) - 1 := by rw [IntKind.wrap_i64]; omega
  obtain ⟨L9, hL9⟩ : ∃ L9, fillK R p a (pkF k0 k1 k2) S W U X L = L9 := ⟨_, rfl⟩
  have HL9 : Hid (fillK R p a (pkF k0 k1 k2) (S.drop 0) W U X L = L9) := Lib.hid hL9
  rw [hL9]
  have H0 := Lib.hid (((((Has.start (firm_psc q R L) h).new (b := w.heap.size) rfl #[.slice A n c, .int .i64 why, .bool W1, .bool U1, .bool X1, .int .i64 lv, .int .u64 fr] 39).new (b := w.heap.size + 1) (by simp) #[.int .i64 lev, .int .u64 t, .bool W, .bool U, .bool X] 41).new (b := w.heap.size + 1 + 1) (by simp) #[.int .i64 k0, .int .i64 k1, .int .i64 k2] 42).new (b := w.heap.size + 1 + 1 + 1) (by simp) #[.bool W, .bool U, .bool X] 37)
  clear h hs h0 ha hp hS hA hw hn hk0 hk1 hk2 hL9
  go_enter Tryd.func22, Tryd.ntmps22
  go_upto_region 2 with fail
  generalize hw0 : (((w.alloc _).alloc _).alloc _).alloc _ = w0
  have H1 := Lib.hid (H0.out.world hw0)
  clear hw0 H0
  obtain ⟨b, hb⟩ : ∃ b, w.heap.size = b := ⟨_, rfl⟩
  rw [hb] at H1 ⊢
  have HB := Lib.hid hb
  clear hb
  obtain ⟨a0, a1, a2, a3, a4, a5, a6⟩ := (H1.out.at_ 3 rfl).seven
  go_wp2_with fail
  clear a0 a1 a2 a3 a4 a5 a6
  go_loopw [22] (fun i wr => ∃ (k : Nat) (V1 V2 V3 : Bool) (L1 : Ls) (G : Nat → Prop), k ≤ n - 1 ∧ i = .int .i64 k ∧ Hid (fillK R p a (pkF k0 k1 k2) (S.drop k) V1 V2 V3 L1 = L9) ∧ Hid (Has w wr F [⟨pscT q R L1, G⟩] [⟨b + 1 + 1 + 1, #[.bool V1, .bool V2, .bool V3], 37⟩, ⟨b + 1 + 1, #[.int .i64 k0, .int .i64 k1, .int .i64 k2], 42⟩, ⟨b + 1, #[.int .i64 lev, .int .u64 t, .bool W, .bool U, .bool X], 41⟩, ⟨b, #[.slice A n c, .int .i64 why, .bool W1, .bool U1, .bool X1, .int .i64 lv, .int .u64 fr], 39⟩] [])) (fun i _ => (n - intOf i).toNat)
  case atStart => exact ⟨0, W, U, X, L, _, by omega, rfl, HL9, H1⟩
  case round =>
    obtain ⟨k, V1, V2, V3, L1, G, hk, rfl, HD, HL⟩ := hrel
    clear H1 HL9
    by_cases hlt : k + 1 < n
    · have hlt2 := hlt
      have hc : (k : Int) < (n : Int) - 1 := by omega
      have hkn : k < n := by omega
      obtain ⟨⟨l, s, x⟩, hst⟩ : ∃ y, stepAt S k = y := ⟨_, rfl⟩
      obtain ⟨ad, rfl, d0, d1, d2⟩ := steps_at (HST.out.turn HL.out.turn HOF.out) (k := k) (by rw [HN.out]; omega)
      rw [hst] at d0 d1 d2
      have HX : Hid (W64 x) := Lib.hid (by have := HWD.out k (by rw [HN.out]; omega); rw [hst] at this; exact this)
      have HSP := Lib.hid hst
      clear hst hlt
      obtain ⟨a0, a1, a2, a3, a4, a5, a6⟩ := (HL.out.at_ 3 rfl).seven
      go_upto_region 6 with fail
      generalize hw2 : wr.alloc _ = w2
      have H2 := Lib.hid ((HL.out.new (b := wr.heap.size) rfl #[.int .i64 l, .int .u64 s, .int .u64 x] 65).world hw2)
      clear hw2 HL a0 a1 a2 a3 a4 a5 a6 d0 d1 d2
      generalize wr.heap.size = bs at *
      obtain ⟨s0, s1, s2⟩ := (H2.out.at_ 0 rfl).c3
      cases hld : leadF l x with
      | false =>
        go_wp2_with (first | (go_at_call 57; refine (leadsP_any l s x _).mono ?_; rw [hld]; rintro e w3 ⟨rfl, hb3⟩; have H3 := Lib.hid (H2.out.quiet hb3)))
        refine bodyPost_ret (results_none rfl _ _ _) rfl ⟨rfl, ?_⟩
        rw [← HD.out, fill_no (by rw [HN.out]; exact hlt2) HSP.out hld]
        exact H3.out.out 0 rfl
      | true =>
        obtain ⟨_, _, hl2, hl4⟩ := lead_parts hld
        have hll : l = 2 ∨ l = 3 ∨ l = 4 := by omega
        clear hl2 hl4
        have HD2 := Lib.hid ((fill_on (R := R) (p := p) (a := a) (pk := pkF k0 k1 k2) (W := V1) (U := V2) (X := V3) (L := L1) (by rw [HN.out]; exact hlt2) HSP.out hld).symm.trans HD.out)
        clear HD
        rcases hll with rfl | rfl | rfl
        · go_upto_region 8 with (first | (go_at_call 57; refine (leadsP_any _ s x _).mono ?_; rw [hld]; rintro e w3 ⟨rfl, hb3⟩; have H3 := Lib.hid (H2.out.quiet hb3); clear s0 s1 s2 hb3; obtain ⟨s0, s1, s2⟩ := (H3.out.at_ 0 rfl).c3; obtain ⟨r0, r1, r2⟩ := (H3.out.at_ 1 rfl).c3) | (go_at_call 53; refine (and_any V1 V2 V3 x _).mono ?_; rintro e w4 ⟨rfl, hb4⟩; have H4 := Lib.hid (H3.out.quiet hb4); clear hb4 s0 s1 s2 r0 r1 r2; obtain ⟨r0, r1, r2⟩ := (H4.out.at_ 1 rfl).c3; have f0 := (H4.out.at_ 1 rfl).fz 0; have f1 := (H4.out.at_ 1 rfl).fz 1; have f2 := (H4.out.at_ 1 rfl).fz 2))
          generalize hw5 : ((w4.setCell _ _).setCell _ _).setCell _ _ = w5
          have H5 := Lib.hid ((H4.out.put 1 rfl (turnB3 _ _ _ _ _) (setB3 (H4.out.at_ 1 rfl) _ _ _)).world hw5)
          clear hw5 H2 H3 H4 r0 r1 r2 f0 f1 f2 hld
          generalize (V1 && bitF x 1) = V4 at *
          generalize (V2 && bitF x 2) = V5 at *
          generalize (V3 && !bitF x 63) = V6 at *
          refine wp_region_held_drew (S := fun w' => Blk w' bs #[.int .i64 2, .int .u64 s, .int .u64 x] 65 ∧ Blk w' (b + 1 + 1 + 1) #[.bool V4, .bool V5, .bool V6] 37) (by kernel_rfl) ⟨(H5.out.quiet (Kept.drew0 w5)).at_ 0 rfl, (H5.out.quiet (Kept.drew0 w5)).at_ 1 rfl⟩ (fun hHeld => ?_)
          have J0 := Lib.hid (H5.out.quiet (Kept.drew0 w5))
          clear H5
          generalize w5.drew = v0 at *
          refine tk (v := ?_) 0 ?_ ?_
          rotate_left
          · intro w hSw
            go_simp
            (try with_reducible rfl)
          (try simp only [Act.put, List.setIfInBounds_toArray, List.set_cons_zero, List.set_cons_succ])
          refine tk (v := ?_) 1 ?_ ?_
          rotate_left
          · intro w hSw
            obtain ⟨s0, s1, s2⟩ := hSw.1.c3
            go_simp
            (try with_reducible rfl)
          (try simp only [Act.put, List.setIfInBounds_toArray, List.set_cons_zero, List.set_cons_succ])
          refine tk (v := ?_) 3 ?_ ?_
          rotate_left
          · intro w hSw
            obtain ⟨r0, r1, r2⟩ := hSw.2.c3
            go_simp
            (try with_reducible rfl)
          (try simp only [Act.put, List.setIfInBounds_toArray, List.set_cons_zero, List.set_cons_succ])
          refine wpAnyH_ready (rs := [2, 5]) (by kernel_rfl) (by simp) ?_
          refine anyH_one rfl (fun K hK => ?_) ?_
          · go_simp
            refine (table_any _ _ HX.out).mono ?_
            rintro e _ ⟨rfl, rfl⟩
            refine hK.out _ _ (hHeld) (fun hHeld => ?_)
            clear hK K
            (try simp only [Act.put, List.setIfInBounds_toArray, List.set_cons_zero, List.set_cons_succ])
            refine tk (v := ?_) 4 ?_ ?_
            rotate_left
            · intro w hSw
              go_simp
              (try with_reducible rfl)
            (try simp only [Act.put, List.setIfInBounds_toArray, List.set_cons_zero, List.set_cons_succ])
            refine wpAnyH_ready (rs := [5]) (by kernel_rfl) (by simp) ?_
            refine anyH_one rfl (fun K hK => ?_) ?_
            · go_simp
              generalize hq : v0.alloc _ = v1
              have J1 := Lib.hid ((J0.out.new (b := v0.heap.size) rfl _ _).world hq)
              clear hq J0
              generalize v0.heap.size = bl at J1 ⊢
              refine hK.out _ _ (⟨J1.out.at_ 1 rfl, J1.out.at_ 2 rfl⟩) (fun hHeld => ?_)
              clear hK K
              (try simp only [Act.put, List.setIfInBounds_toArray, List.set_cons_zero, List.set_cons_succ])
              refine wpAnyH_ready (rs := [6]) (by kernel_rfl) (by simp) ?_
              refine anyH_one rfl (fun K hK => ?_) ?_
              · obtain ⟨l0, l1, l2, l3, l4, l5⟩ := (J1.out.at_ 0 rfl).c6
                have g0 := (J1.out.at_ 0 rfl).fz 0; have g1 := (J1.out.at_ 0 rfl).fz 1; have g2 := (J1.out.at_ 0 rfl).fz 2; have g3 := (J1.out.at_ 0 rfl).fz 3; have g4 := (J1.out.at_ 0 rfl).fz 4; have g5 := (J1.out.at_ 0 rfl).fz 5
                go_simp
                generalize hq : (((((v1.setCell _ _).setCell _ _).setCell _ _).setCell _ _).setCell _ _).setCell _ _ = v2
                have J2 := Lib.hid ((J1.out.put 0 rfl (turnB6 _ _ _ _ _ _ _ _) (setB6 (J1.out.at_ 0 rfl) _ _ _ _ _ _)).world hq)
                clear hq J1 l0 l1 l2 l3 l4 l5 g0 g1 g2 g3 g4 g5
                refine hK.out _ _ (⟨J2.out.at_ 1 rfl, J2.out.at_ 2 rfl⟩) (fun hHeld => ?_)
                clear hK K
                (try simp only [Act.put, List.setIfInBounds_toArray, List.set_cons_zero, List.set_cons_succ])
                refine wpAnyH_done (by kernel_rfl) ?_ _
                clear hHeld
                go_upto_region 9 with fail
                have K9 := Lib.hid (J2.out.quiet (Kept.drew0 v2))
                clear J2
                refine wp_region_held_drew (S := fun w' => Blk w' bs #[.int .i64 2, .int .u64 s, .int .u64 x] 65 ∧ Blk w' bl #[.int .u64 (tableF x), .bool V4, .bool V5, .bool V6, .bool false, .int .u8 0] 98 ∧ Blk w' (b + 1 + 1) #[.int .i64 k0, .int .i64 k1, .int .i64 k2] 42) (by kernel_rfl) ⟨K9.out.at_ 1 rfl, K9.out.at_ 0 rfl, K9.out.at_ 3 rfl⟩ (fun hHeld => ?_)
                generalize v2.drew = v9 at *
                obtain ⟨cc, Hk, hof, hgo⟩ := K9.out.psc 0 rfl 2 (by decide) (by decide)
                have HG := Lib.hid hgo
                have HS1 := Lib.hid (K9.out.shifts HS.out HF.out)
                have HKY := Lib.hid fun w1 (hb : Below v9.heap.size v9 w1) => keyP_any p a 2 w1 (shifts_kept HS1.out hb) HA.out (by decide) (by decide)
                have HOK : Hid (OkK (p, 2, tagF a 2)) := Lib.hid ⟨HP.out, (show I64 2 by unfold I64; omega), tag_w a 2⟩
                unfold kyF at HD2
                generalize tagF a 2 = t9 at *
                clear hgo HS1 K9
                refine tk (v := ?_) 0 ?_ ?_
                rotate_left
                · intro w hSw
                  go_simp
                  (try with_reducible rfl)
                (try simp only [Act.put, List.setIfInBounds_toArray, List.set_cons_zero, List.set_cons_succ])
                refine tk (v := ?_) 1 ?_ ?_
                rotate_left
                · intro w hSw
                  go_simp
                  (try with_reducible rfl)
                (try simp only [Act.put, List.setIfInBounds_toArray, List.set_cons_zero, List.set_cons_succ])
                refine tk (v := ?_) 2 ?_ ?_
                rotate_left
                · intro w hSw
                  obtain ⟨s0, s1, s2⟩ := hSw.1.c3
                  go_simp
                  (try with_reducible rfl)
                (try simp only [Act.put, List.setIfInBounds_toArray, List.set_cons_zero, List.set_cons_succ])
                refine tk (v := ?_) 4 ?_ ?_
                rotate_left
                · intro w hSw
                  go_simp
                  (try with_reducible rfl)
                (try simp only [Act.put, List.setIfInBounds_toArray, List.set_cons_zero, List.set_cons_succ])
                refine tk (v := ?_) 5 ?_ ?_
                rotate_left
                · intro w hSw
                  go_simp
                  (try with_reducible rfl)
                (try simp only [Act.put, List.setIfInBounds_toArray, List.set_cons_zero, List.set_cons_succ])
                refine tk (v := ?_) 6 ?_ ?_
                rotate_left
                · intro w hSw
                  go_simp
                  (try with_reducible rfl)
                (try simp only [Act.put, List.setIfInBounds_toArray, List.set_cons_zero, List.set_cons_succ])
                refine tk (v := ?_) 7 ?_ ?_
                rotate_left
                · intro w hSw
                  obtain ⟨s0, s1, s2⟩ := hSw.1.c3
                  go_simp
                  (try with_reducible rfl)
                (try simp only [Act.put, List.setIfInBounds_toArray, List.set_cons_zero, List.set_cons_succ])
                refine tk (v := ?_) 9 ?_ ?_
                rotate_left
                · intro w hSw
                  obtain ⟨l0, l1, l2, l3, l4, l5⟩ := hSw.2.1.c6
                  go_simp
                  (try with_reducible rfl)
                (try simp only [Act.put, List.setIfInBounds_toArray, List.set_cons_zero, List.set_cons_succ])
                refine tk (v := ?_) 10 ?_ ?_
                rotate_left
                · intro w hSw
                  go_simp
                  (try with_reducible rfl)
                (try simp only [Act.put, List.setIfInBounds_toArray, List.set_cons_zero, List.set_cons_succ])
                refine tk (v := ?_) 11 ?_ ?_
                rotate_left
                · intro w hSw
                  obtain ⟨s0, s1, s2⟩ := hSw.1.c3
                  go_simp
                  (try with_reducible rfl)
                (try simp only [Act.put, List.setIfInBounds_toArray, List.set_cons_zero, List.set_cons_succ])
                refine wpAnyH_ready (rs := [3]) (by kernel_rfl) (by simp) ?_
                refine anyH_one rfl (fun K hK => ?_) ?_
                · go_simp
                  refine hof.mono ?_
                  rintro e u1 ⟨rfl, hb1⟩
                  refine hK.out _ _ (⟨hHeld.1.below hb1, hHeld.2.1.below hb1, hHeld.2.2.below hb1⟩) (fun hHeld => ?_)
                  clear hK K
                  (try simp only [Act.put, List.setIfInBounds_toArray, List.set_cons_zero, List.set_cons_succ])
                  refine wpAnyH_ready (rs := [8]) (by kernel_rfl) (by simp) ?_
                  refine anyH_one rfl (fun K hK => ?_) ?_
                  · go_simp
                    refine (HKY.out _ hb1).mono ?_
                    rintro e u2 ⟨rfl, hb2⟩
                    refine hK.out _ _ (⟨hHeld.1.below hb2, hHeld.2.1.below hb2, hHeld.2.2.below hb2⟩) (fun hHeld => ?_)
                    clear hK K
                    (try simp only [Act.put, List.setIfInBounds_toArray, List.set_cons_zero, List.set_cons_succ])
                    have hb3 := hb1.trans (hb2.mono hb1.size)
                    clear hb1 hb2
                    refine wpAnyH_ready (rs := [12]) (by kernel_rfl) (by simp) ?_
                    refine anyH_one rfl (fun K hK => ?_) ?_
                    · go_simp
                      refine (placeP_any _ _ (by decide) (by decide)).mono ?_
                      rintro e _ ⟨rfl, rfl⟩
                      refine hK.out _ _ (hHeld) (fun hHeld => ?_)
                      clear hK K
                      (try simp only [Act.put, List.setIfInBounds_toArray, List.set_cons_zero, List.set_cons_succ])
                      refine tk (v := ?_) 13 ?_ ?_
                      rotate_left
                      · intro w hSw
                        go_simp
                        (try with_reducible rfl)
                      (try simp only [Act.put, List.setIfInBounds_toArray, List.set_cons_zero, List.set_cons_succ])
                      refine tk (v := ?_) 14 ?_ ?_
                      rotate_left
                      · intro w hSw
                        obtain ⟨q0, q1, q2⟩ := hSw.2.2.c3
                        go_simp
                        (try with_reducible rfl)
                      (try simp only [Act.put, List.setIfInBounds_toArray, List.set_cons_zero, List.set_cons_succ])
                      refine wpAnyH_ready (rs := [15]) (by kernel_rfl) (by simp) ?_
                      refine anyH_one rfl (fun K hK => ?_) ?_
                      · go_simp
                        refine (putC_any (HG.out _ hb3).1 p _ t9 (tableF x) 0 _ V4 V5 V6 false HOK.out (HPK.out (kOf 2))).mono ?_
                        rintro e u4 ⟨rfl, hc4, ht4⟩
                        have HX9 := Lib.hid ((HG.out _ hb3).2 _ _ hc4 ht4)
                        clear hc4 ht4 hb3
                        refine hK.out _ _ (⟨HX9.out.at_ 1 rfl, HX9.out.at_ 0 rfl, HX9.out.at_ 3 rfl⟩) (fun hHeld => ?_)
                        clear hK K
                        (try simp only [Act.put, List.setIfInBounds_toArray, List.set_cons_zero, List.set_cons_succ])
                        refine wpAnyH_done (by kernel_rfl) ?_ _
                        have HX10 := Lib.hid (HX9.out.pick [2, 3, 4, 5] [])
                        clear HX9 hHeld
                        go_wp2
                        go_roundw
                        case rel => exact ⟨k + 1, V4, V5, V6, _, _, by omega, by go_num, HD2, HX10⟩
                        case measure => simp [intOf]; omega
                      exact AllReadyH.nil
                    exact AllReadyH.nil
                  exact AllReadyH.nil
                exact AllReadyH.nil
              exact AllReadyH.nil
            exact AllReadyH.nil
          refine anyH_one rfl (fun K hK => ?_) ?_
          · go_simp
            generalize hq : v0.alloc _ = v1
            have J1 := Lib.hid ((J0.out.new (b := v0.heap.size) rfl _ _).world hq)
            clear hq J0
            generalize v0.heap.size = bl at J1 ⊢
            refine hK.out _ _ (⟨J1.out.at_ 1 rfl, J1.out.at_ 2 rfl⟩) (fun hHeld => ?_)
            clear hK K
            (try simp only [Act.put, List.setIfInBounds_toArray, List.set_cons_zero, List.set_cons_succ])
            refine wpAnyH_ready (rs := [2]) (by kernel_rfl) (by simp) ?_
            refine anyH_one rfl (fun K hK => ?_) ?_
            · go_simp
              refine (table_any _ _ HX.out).mono ?_
              rintro e _ ⟨rfl, rfl⟩
              refine hK.out _ _ (hHeld) (fun hHeld => ?_)
              clear hK K
              (try simp only [Act.put, List.setIfInBounds_toArray, List.set_cons_zero, List.set_cons_succ])
              refine tk (v := ?_) 4 ?_ ?_
              rotate_left
              · intro w hSw
                go_simp
                (try with_reducible rfl)
              (try simp only [Act.put, List.setIfInBounds_toArray, List.set_cons_zero, List.set_cons_succ])
              refine wpAnyH_ready (rs := [6]) (by kernel_rfl) (by simp) ?_
              refine anyH_one rfl (fun K hK => ?_) ?_
              · obtain ⟨l0, l1, l2, l3, l4, l5⟩ := (J1.out.at_ 0 rfl).c6
                have g0 := (J1.out.at_ 0 rfl).fz 0; have g1 := (J1.out.at_ 0 rfl).fz 1; have g2 := (J1.out.at_ 0 rfl).fz 2; have g3 := (J1.out.at_ 0 rfl).fz 3; have g4 := (J1.out.at_ 0 rfl).fz 4; have g5 := (J1.out.at_ 0 rfl).fz 5
                go_simp
                generalize hq : (((((v1.setCell _ _).setCell _ _).setCell _ _).setCell _ _).setCell _ _).setCell _ _ = v2
                have J2 := Lib.hid ((J1.out.put 0 rfl (turnB6 _ _ _ _ _ _ _ _) (setB6 (J1.out.at_ 0 rfl) _ _ _ _ _ _)).world hq)
                clear hq J1 l0 l1 l2 l3 l4 l5 g0 g1 g2 g3 g4 g5
                refine hK.out _ _ (⟨J2.out.at_ 1 rfl, J2.out.at_ 2 rfl⟩) (fun hHeld => ?_)
                clear hK K
                (try simp only [Act.put, List.setIfInBounds_toArray, List.set_cons_zero, List.set_cons_succ])
                refine wpAnyH_done (by kernel_rfl) ?_ _
                clear hHeld
                go_upto_region 9 with fail
                have K9 := Lib.hid (J2.out.quiet (Kept.drew0 v2))
                clear J2
                refine wp_region_held_drew (S := fun w' => Blk w' bs #[.int .i64 2, .int .u64 s, .int .u64 x] 65 ∧ Blk w' bl #[.int .u64 (tableF x), .bool V4, .bool V5, .bool V6, .bool false, .int .u8 0] 98 ∧ Blk w' (b + 1 + 1) #[.int .i64 k0, .int .i64 k1, .int .i64 k2] 42) (by kernel_rfl) ⟨K9.out.at_ 1 rfl, K9.out.at_ 0 rfl, K9.out.at_ 3 rfl⟩ (fun hHeld => ?_)
                generalize v2.drew = v9 at *
                obtain ⟨cc, Hk, hof, hgo⟩ := K9.out.psc 0 rfl 2 (by decide) (by decide)
                have HG := Lib.hid hgo
                have HS1 := Lib.hid (K9.out.shifts HS.out HF.out)
                have HKY := Lib.hid fun w1 (hb : Below v9.heap.size v9 w1) => keyP_any p a 2 w1 (shifts_kept HS1.out hb) HA.out (by decide) (by decide)
                have HOK : Hid (OkK (p, 2, tagF a 2)) := Lib.hid ⟨HP.out, (show I64 2 by unfold I64; omega), tag_w a 2⟩
                unfold kyF at HD2
                generalize tagF a 2 = t9 at *
                clear hgo HS1 K9
                refine tk (v := ?_) 0 ?_ ?_
                rotate_left
                · intro w hSw
                  go_simp
                  (try with_reducible rfl)
                (try simp only [Act.put, List.setIfInBounds_toArray, List.set_cons_zero, List.set_cons_succ])
                refine tk (v := ?_) 1 ?_ ?_
                rotate_left
                · intro w hSw
                  go_simp
                  (try with_reducible rfl)
                (try simp only [Act.put, List.setIfInBounds_toArray, List.set_cons_zero, List.set_cons_succ])
                refine tk (v := ?_) 2 ?_ ?_
                rotate_left
                · intro w hSw
                  obtain ⟨s0, s1, s2⟩ := hSw.1.c3
                  go_simp
                  (try with_reducible rfl)
                (try simp only [Act.put, List.setIfInBounds_toArray, List.set_cons_zero, List.set_cons_succ])
                refine tk (v := ?_) 4 ?_ ?_
                rotate_left
                · intro w hSw
                  go_simp
                  (try with_reducible rfl)
                (try simp only [Act.put, List.setIfInBounds_toArray, List.set_cons_zero, List.set_cons_succ])
                refine tk (v := ?_) 5 ?_ ?_
                rotate_left
                · intro w hSw
                  go_simp
                  (try with_reducible rfl)
                (try simp only [Act.put, List.setIfInBounds_toArray, List.set_cons_zero, List.set_cons_succ])
                refine tk (v := ?_) 6 ?_ ?_
                rotate_left
                · intro w hSw
                  go_simp
                  (try with_reducible rfl)
                (try simp only [Act.put, List.setIfInBounds_toArray, List.set_cons_zero, List.set_cons_succ])
                refine tk (v := ?_) 7 ?_ ?_
                rotate_left
                · intro w hSw
                  obtain ⟨s0, s1, s2⟩ := hSw.1.c3
                  go_simp
                  (try with_reducible rfl)
                (try simp only [Act.put, List.setIfInBounds_toArray, List.set_cons_zero, List.set_cons_succ])
                refine tk (v := ?_) 9 ?_ ?_
                rotate_left
                · intro w hSw
                  obtain ⟨l0, l1, l2, l3, l4, l5⟩ := hSw.2.1.c6
                  go_simp
                  (try with_reducible rfl)
                (try simp only [Act.put, List.setIfInBounds_toArray, List.set_cons_zero, List.set_cons_succ])
                refine tk (v := ?_) 10 ?_ ?_
                rotate_left
                · intro w hSw
                  go_simp
                  (try with_reducible rfl)
                (try simp only [Act.put, List.setIfInBounds_toArray, List.set_cons_zero, List.set_cons_succ])
                refine tk (v := ?_) 11 ?_ ?_
                rotate_left
                · intro w hSw
                  obtain ⟨s0, s1, s2⟩ := hSw.1.c3
                  go_simp
                  (try with_reducible rfl)
                (try simp only [Act.put, List.setIfInBounds_toArray, List.set_cons_zero, List.set_cons_succ])
                refine wpAnyH_ready (rs := [3]) (by kernel_rfl) (by simp) ?_
                refine anyH_one rfl (fun K hK => ?_) ?_
                · go_simp
                  refine hof.mono ?_
                  rintro e u1 ⟨rfl, hb1⟩
                  refine hK.out _ _ (⟨hHeld.1.below hb1, hHeld.2.1.below hb1, hHeld.2.2.below hb1⟩) (fun hHeld => ?_)
                  clear hK K
                  (try simp only [Act.put, List.setIfInBounds_toArray, List.set_cons_zero, List.set_cons_succ])
                  refine wpAnyH_ready (rs := [8]) (by kernel_rfl) (by simp) ?_
                  refine anyH_one rfl (fun K hK => ?_) ?_
                  · go_simp
                    refine (HKY.out _ hb1).mono ?_
                    rintro e u2 ⟨rfl, hb2⟩
                    refine hK.out _ _ (⟨hHeld.1.below hb2, hHeld.2.1.below hb2, hHeld.2.2.below hb2⟩) (fun hHeld => ?_)
                    clear hK K
                    (try simp only [Act.put, List.setIfInBounds_toArray, List.set_cons_zero, List.set_cons_succ])
                    have hb3 := hb1.trans (hb2.mono hb1.size)
                    clear hb1 hb2
                    refine wpAnyH_ready (rs := [12]) (by kernel_rfl) (by simp) ?_
                    refine anyH_one rfl (fun K hK => ?_) ?_
                    · go_simp
                      refine (placeP_any _ _ (by decide) (by decide)).mono ?_
                      rintro e _ ⟨rfl, rfl⟩
                      refine hK.out _ _ (hHeld) (fun hHeld => ?_)
                      clear hK K
                      (try simp only [Act.put, List.setIfInBounds_toArray, List.set_cons_zero, List.set_cons_succ])
                      refine tk (v := ?_) 13 ?_ ?_
                      rotate_left
                      · intro w hSw
                        go_simp
                        (try with_reducible rfl)
                      (try simp only [Act.put, List.setIfInBounds_toArray, List.set_cons_zero, List.set_cons_succ])
                      refine tk (v := ?_) 14 ?_ ?_
                      rotate_left
                      · intro w hSw
                        obtain ⟨q0, q1, q2⟩ := hSw.2.2.c3
                        go_simp
                        (try with_reducible rfl)
                      (try simp only [Act.put, List.setIfInBounds_toArray, List.set_cons_zero, List.set_cons_succ])
                      refine wpAnyH_ready (rs := [15]) (by kernel_rfl) (by simp) ?_
                      refine anyH_one rfl (fun K hK => ?_) ?_
                      · go_simp
                        refine (putC_any (HG.out _ hb3).1 p _ t9 (tableF x) 0 _ V4 V5 V6 false HOK.out (HPK.out (kOf 2))).mono ?_
                        rintro e u4 ⟨rfl, hc4, ht4⟩
                        have HX9 := Lib.hid ((HG.out _ hb3).2 _ _ hc4 ht4)
                        clear hc4 ht4 hb3
                        refine hK.out _ _ (⟨HX9.out.at_ 1 rfl, HX9.out.at_ 0 rfl, HX9.out.at_ 3 rfl⟩) (fun hHeld => ?_)
                        clear hK K
                        (try simp only [Act.put, List.setIfInBounds_toArray, List.set_cons_zero, List.set_cons_succ])
                        refine wpAnyH_done (by kernel_rfl) ?_ _
                        have HX10 := Lib.hid (HX9.out.pick [2, 3, 4, 5] [])
                        clear HX9 hHeld
                        go_wp2
                        go_roundw
                        case rel => exact ⟨k + 1, V4, V5, V6, _, _, by omega, by go_num, HD2, HX10⟩
                        case measure => simp [intOf]; omega
                      exact AllReadyH.nil
                    exact AllReadyH.nil
                  exact AllReadyH.nil
                exact AllReadyH.nil
              exact AllReadyH.nil
            exact AllReadyH.nil
          exact AllReadyH.nil
        · go_upto_region 8 with (first | (go_at_call 57; refine (leadsP_any _ s x _).mono ?_; rw [hld]; rintro e w3 ⟨rfl, hb3⟩; have H3 := Lib.hid (H2.out.quiet hb3); clear s0 s1 s2 hb3; obtain ⟨s0, s1, s2⟩ := (H3.out.at_ 0 rfl).c3; obtain ⟨r0, r1, r2⟩ := (H3.out.at_ 1 rfl).c3) | (go_at_call 53; refine (and_any V1 V2 V3 x _).mono ?_; rintro e w4 ⟨rfl, hb4⟩; have H4 := Lib.hid (H3.out.quiet hb4); clear hb4 s0 s1 s2 r0 r1 r2; obtain ⟨r0, r1, r2⟩ := (H4.out.at_ 1 rfl).c3; have f0 := (H4.out.at_ 1 rfl).fz 0; have f1 := (H4.out.at_ 1 rfl).fz 1; have f2 := (H4.out.at_ 1 rfl).fz 2))
          generalize hw5 : ((w4.setCell _ _).setCell _ _).setCell _ _ = w5
          have H5 := Lib.hid ((H4.out.put 1 rfl (turnB3 _ _ _ _ _) (setB3 (H4.out.at_ 1 rfl) _ _ _)).world hw5)
          clear hw5 H2 H3 H4 r0 r1 r2 f0 f1 f2 hld
          generalize (V1 && bitF x 1) = V4 at *
          generalize (V2 && bitF x 2) = V5 at *
          generalize (V3 && !bitF x 63) = V6 at *
          refine wp_region_held_drew (S := fun w' => Blk w' bs #[.int .i64 3, .int .u64 s, .int .u64 x] 65 ∧ Blk w' (b + 1 + 1 + 1) #[.bool V4, .bool V5, .bool V6] 37) (by kernel_rfl) ⟨(H5.out.quiet (Kept.drew0 w5)).at_ 0 rfl, (H5.out.quiet (Kept.drew0 w5)).at_ 1 rfl⟩ (fun hHeld => ?_)
          have J0 := Lib.hid (H5.out.quiet (Kept.drew0 w5))
          clear H5
          generalize w5.drew = v0 at *
          refine tk (v := ?_) 0 ?_ ?_
          rotate_left
          · intro w hSw
            go_simp
            (try with_reducible rfl)
          (try simp only [Act.put, List.setIfInBounds_toArray, List.set_cons_zero, List.set_cons_succ])
          refine tk (v := ?_) 1 ?_ ?_
          rotate_left
          · intro w hSw
            obtain ⟨s0, s1, s2⟩ := hSw.1.c3
            go_simp
            (try with_reducible rfl)
          (try simp only [Act.put, List.setIfInBounds_toArray, List.set_cons_zero, List.set_cons_succ])
          refine tk (v := ?_) 3 ?_ ?_
          rotate_left
          · intro w hSw
            obtain ⟨r0, r1, r2⟩ := hSw.2.c3
            go_simp
            (try with_reducible rfl)
          (try simp only [Act.put, List.setIfInBounds_toArray, List.set_cons_zero, List.set_cons_succ])
          refine wpAnyH_ready (rs := [2, 5]) (by kernel_rfl) (by simp) ?_
          refine anyH_one rfl (fun K hK => ?_) ?_
          · go_simp
            refine (table_any _ _ HX.out).mono ?_
            rintro e _ ⟨rfl, rfl⟩
            refine hK.out _ _ (hHeld) (fun hHeld => ?_)
            clear hK K
            (try simp only [Act.put, List.setIfInBounds_toArray, List.set_cons_zero, List.set_cons_succ])
            refine tk (v := ?_) 4 ?_ ?_
            rotate_left
            · intro w hSw
              go_simp
              (try with_reducible rfl)
            (try simp only [Act.put, List.setIfInBounds_toArray, List.set_cons_zero, List.set_cons_succ])
            refine wpAnyH_ready (rs := [5]) (by kernel_rfl) (by simp) ?_
            refine anyH_one rfl (fun K hK => ?_) ?_
            · go_simp
              generalize hq : v0.alloc _ = v1
              have J1 := Lib.hid ((J0.out.new (b := v0.heap.size) rfl _ _).world hq)
              clear hq J0
              generalize v0.heap.size = bl at J1 ⊢
              refine hK.out _ _ (⟨J1.out.at_ 1 rfl, J1.out.at_ 2 rfl⟩) (fun hHeld => ?_)
              clear hK K
              (try simp only [Act.put, List.setIfInBounds_toArray, List.set_cons_zero, List.set_cons_succ])
              refine wpAnyH_ready (rs := [6]) (by kernel_rfl) (by simp) ?_
              refine anyH_one rfl (fun K hK => ?_) ?_
              · obtain ⟨l0, l1, l2, l3, l4, l5⟩ := (J1.out.at_ 0 rfl).c6
                have g0 := (J1.out.at_ 0 rfl).fz 0; have g1 := (J1.out.at_ 0 rfl).fz 1; have g2 := (J1.out.at_ 0 rfl).fz 2; have g3 := (J1.out.at_ 0 rfl).fz 3; have g4 := (J1.out.at_ 0 rfl).fz 4; have g5 := (J1.out.at_ 0 rfl).fz 5
                go_simp
                generalize hq : (((((v1.setCell _ _).setCell _ _).setCell _ _).setCell _ _).setCell _ _).setCell _ _ = v2
                have J2 := Lib.hid ((J1.out.put 0 rfl (turnB6 _ _ _ _ _ _ _ _) (setB6 (J1.out.at_ 0 rfl) _ _ _ _ _ _)).world hq)
                clear hq J1 l0 l1 l2 l3 l4 l5 g0 g1 g2 g3 g4 g5
                refine hK.out _ _ (⟨J2.out.at_ 1 rfl, J2.out.at_ 2 rfl⟩) (fun hHeld => ?_)
                clear hK K
                (try simp only [Act.put, List.setIfInBounds_toArray, List.set_cons_zero, List.set_cons_succ])
                refine wpAnyH_done (by kernel_rfl) ?_ _
                clear hHeld
                go_upto_region 9 with fail
                have K9 := Lib.hid (J2.out.quiet (Kept.drew0 v2))
                clear J2
                refine wp_region_held_drew (S := fun w' => Blk w' bs #[.int .i64 3, .int .u64 s, .int .u64 x] 65 ∧ Blk w' bl #[.int .u64 (tableF x), .bool V4, .bool V5, .bool V6, .bool false, .int .u8 0] 98 ∧ Blk w' (b + 1 + 1) #[.int .i64 k0, .int .i64 k1, .int .i64 k2] 42) (by kernel_rfl) ⟨K9.out.at_ 1 rfl, K9.out.at_ 0 rfl, K9.out.at_ 3 rfl⟩ (fun hHeld => ?_)
                generalize v2.drew = v9 at *
                obtain ⟨cc, Hk, hof, hgo⟩ := K9.out.psc 0 rfl 3 (by decide) (by decide)
                have HG := Lib.hid hgo
                have HS1 := Lib.hid (K9.out.shifts HS.out HF.out)
                have HKY := Lib.hid fun w1 (hb : Below v9.heap.size v9 w1) => keyP_any p a 3 w1 (shifts_kept HS1.out hb) HA.out (by decide) (by decide)
                have HOK : Hid (OkK (p, 3, tagF a 3)) := Lib.hid ⟨HP.out, (show I64 3 by unfold I64; omega), tag_w a 3⟩
                unfold kyF at HD2
                generalize tagF a 3 = t9 at *
                clear hgo HS1 K9
                refine tk (v := ?_) 0 ?_ ?_
                rotate_left
                · intro w hSw
                  go_simp
                  (try with_reducible rfl)
                (try simp only [Act.put, List.setIfInBounds_toArray, List.set_cons_zero, List.set_cons_succ])
                refine tk (v := ?_) 1 ?_ ?_
                rotate_left
                · intro w hSw
                  go_simp
                  (try with_reducible rfl)
                (try simp only [Act.put, List.setIfInBounds_toArray, List.set_cons_zero, List.set_cons_succ])
                refine tk (v := ?_) 2 ?_ ?_
                rotate_left
                · intro w hSw
                  obtain ⟨s0, s1, s2⟩ := hSw.1.c3
                  go_simp
                  (try with_reducible rfl)
                (try simp only [Act.put, List.setIfInBounds_toArray, List.set_cons_zero, List.set_cons_succ])
                refine tk (v := ?_) 4 ?_ ?_
                rotate_left
                · intro w hSw
                  go_simp
                  (try with_reducible rfl)
                (try simp only [Act.put, List.setIfInBounds_toArray, List.set_cons_zero, List.set_cons_succ])
                refine tk (v := ?_) 5 ?_ ?_
                rotate_left
                · intro w hSw
                  go_simp
                  (try with_reducible rfl)
                (try simp only [Act.put, List.setIfInBounds_toArray, List.set_cons_zero, List.set_cons_succ])
                refine tk (v := ?_) 6 ?_ ?_
                rotate_left
                · intro w hSw
                  go_simp
                  (try with_reducible rfl)
                (try simp only [Act.put, List.setIfInBounds_toArray, List.set_cons_zero, List.set_cons_succ])
                refine tk (v := ?_) 7 ?_ ?_
                rotate_left
                · intro w hSw
                  obtain ⟨s0, s1, s2⟩ := hSw.1.c3
                  go_simp
                  (try with_reducible rfl)
                (try simp only [Act.put, List.setIfInBounds_toArray, List.set_cons_zero, List.set_cons_succ])
                refine tk (v := ?_) 9 ?_ ?_
                rotate_left
                · intro w hSw
                  obtain ⟨l0, l1, l2, l3, l4, l5⟩ := hSw.2.1.c6
                  go_simp
                  (try with_reducible rfl)
                (try simp only [Act.put, List.setIfInBounds_toArray, List.set_cons_zero, List.set_cons_succ])
                refine tk (v := ?_) 10 ?_ ?_
                rotate_left
                · intro w hSw
                  go_simp
                  (try with_reducible rfl)
                (try simp only [Act.put, List.setIfInBounds_toArray, List.set_cons_zero, List.set_cons_succ])
                refine tk (v := ?_) 11 ?_ ?_
                rotate_left
                · intro w hSw
                  obtain ⟨s0, s1, s2⟩ := hSw.1.c3
                  go_simp
                  (try with_reducible rfl)
                (try simp only [Act.put, List.setIfInBounds_toArray, List.set_cons_zero, List.set_cons_succ])
                refine wpAnyH_ready (rs := [3]) (by kernel_rfl) (by simp) ?_
                refine anyH_one rfl (fun K hK => ?_) ?_
                · go_simp
                  refine hof.mono ?_
                  rintro e u1 ⟨rfl, hb1⟩
                  refine hK.out _ _ (⟨hHeld.1.below hb1, hHeld.2.1.below hb1, hHeld.2.2.below hb1⟩) (fun hHeld => ?_)
                  clear hK K
                  (try simp only [Act.put, List.setIfInBounds_toArray, List.set_cons_zero, List.set_cons_succ])
                  refine wpAnyH_ready (rs := [8]) (by kernel_rfl) (by simp) ?_
                  refine anyH_one rfl (fun K hK => ?_) ?_
                  · go_simp
                    refine (HKY.out _ hb1).mono ?_
                    rintro e u2 ⟨rfl, hb2⟩
                    refine hK.out _ _ (⟨hHeld.1.below hb2, hHeld.2.1.below hb2, hHeld.2.2.below hb2⟩) (fun hHeld => ?_)
                    clear hK K
                    (try simp only [Act.put, List.setIfInBounds_toArray, List.set_cons_zero, List.set_cons_succ])
                    have hb3 := hb1.trans (hb2.mono hb1.size)
                    clear hb1 hb2
                    refine wpAnyH_ready (rs := [12]) (by kernel_rfl) (by simp) ?_
                    refine anyH_one rfl (fun K hK => ?_) ?_
                    · go_simp
                      refine (placeP_any _ _ (by decide) (by decide)).mono ?_
                      rintro e _ ⟨rfl, rfl⟩
                      refine hK.out _ _ (hHeld) (fun hHeld => ?_)
                      clear hK K
                      (try simp only [Act.put, List.setIfInBounds_toArray, List.set_cons_zero, List.set_cons_succ])
                      refine tk (v := ?_) 13 ?_ ?_
                      rotate_left
                      · intro w hSw
                        go_simp
                        (try with_reducible rfl)
                      (try simp only [Act.put, List.setIfInBounds_toArray, List.set_cons_zero, List.set_cons_succ])
                      refine tk (v := ?_) 14 ?_ ?_
                      rotate_left
                      · intro w hSw
                        obtain ⟨q0, q1, q2⟩ := hSw.2.2.c3
                        go_simp
                        (try with_reducible rfl)
                      (try simp only [Act.put, List.setIfInBounds_toArray, List.set_cons_zero, List.set_cons_succ])
                      refine wpAnyH_ready (rs := [15]) (by kernel_rfl) (by simp) ?_
                      refine anyH_one rfl (fun K hK => ?_) ?_
                      · go_simp
                        refine (putC_any (HG.out _ hb3).1 p _ t9 (tableF x) 0 _ V4 V5 V6 false HOK.out (HPK.out (kOf 3))).mono ?_
                        rintro e u4 ⟨rfl, hc4, ht4⟩
                        have HX9 := Lib.hid ((HG.out _ hb3).2 _ _ hc4 ht4)
                        clear hc4 ht4 hb3
                        refine hK.out _ _ (⟨HX9.out.at_ 1 rfl, HX9.out.at_ 0 rfl, HX9.out.at_ 3 rfl⟩) (fun hHeld => ?_)
                        clear hK K
                        (try simp only [Act.put, List.setIfInBounds_toArray, List.set_cons_zero, List.set_cons_succ])
                        refine wpAnyH_done (by kernel_rfl) ?_ _
                        have HX10 := Lib.hid (HX9.out.pick [2, 3, 4, 5] [])
                        clear HX9 hHeld
                        go_wp2
                        go_roundw
                        case rel => exact ⟨k + 1, V4, V5, V6, _, _, by omega, by go_num, HD2, HX10⟩
                        case measure => simp [intOf]; omega
                      exact AllReadyH.nil
                    exact AllReadyH.nil
                  exact AllReadyH.nil
                exact AllReadyH.nil
              exact AllReadyH.nil
            exact AllReadyH.nil
          refine anyH_one rfl (fun K hK => ?_) ?_
          · go_simp
            generalize hq : v0.alloc _ = v1
            have J1 := Lib.hid ((J0.out.new (b := v0.heap.size) rfl _ _).world hq)
            clear hq J0
            generalize v0.heap.size = bl at J1 ⊢
            refine hK.out _ _ (⟨J1.out.at_ 1 rfl, J1.out.at_ 2 rfl⟩) (fun hHeld => ?_)
            clear hK K
            (try simp only [Act.put, List.setIfInBounds_toArray, List.set_cons_zero, List.set_cons_succ])
            refine wpAnyH_ready (rs := [2]) (by kernel_rfl) (by simp) ?_
            refine anyH_one rfl (fun K hK => ?_) ?_
            · go_simp
              refine (table_any _ _ HX.out).mono ?_
              rintro e _ ⟨rfl, rfl⟩
              refine hK.out _ _ (hHeld) (fun hHeld => ?_)
              clear hK K
              (try simp only [Act.put, List.setIfInBounds_toArray, List.set_cons_zero, List.set_cons_succ])
              refine tk (v := ?_) 4 ?_ ?_
              rotate_left
              · intro w hSw
                go_simp
                (try with_reducible rfl)
              (try simp only [Act.put, List.setIfInBounds_toArray, List.set_cons_zero, List.set_cons_succ])
              refine wpAnyH_ready (rs := [6]) (by kernel_rfl) (by simp) ?_
              refine anyH_one rfl (fun K hK => ?_) ?_
              · obtain ⟨l0, l1, l2, l3, l4, l5⟩ := (J1.out.at_ 0 rfl).c6
                have g0 := (J1.out.at_ 0 rfl).fz 0; have g1 := (J1.out.at_ 0 rfl).fz 1; have g2 := (J1.out.at_ 0 rfl).fz 2; have g3 := (J1.out.at_ 0 rfl).fz 3; have g4 := (J1.out.at_ 0 rfl).fz 4; have g5 := (J1.out.at_ 0 rfl).fz 5
                go_simp
                generalize hq : (((((v1.setCell _ _).setCell _ _).setCell _ _).setCell _ _).setCell _ _).setCell _ _ = v2
                have J2 := Lib.hid ((J1.out.put 0 rfl (turnB6 _ _ _ _ _ _ _ _) (setB6 (J1.out.at_ 0 rfl) _ _ _ _ _ _)).world hq)
                clear hq J1 l0 l1 l2 l3 l4 l5 g0 g1 g2 g3 g4 g5
                refine hK.out _ _ (⟨J2.out.at_ 1 rfl, J2.out.at_ 2 rfl⟩) (fun hHeld => ?_)
                clear hK K
                (try simp only [Act.put, List.setIfInBounds_toArray, List.set_cons_zero, List.set_cons_succ])
                refine wpAnyH_done (by kernel_rfl) ?_ _
                clear hHeld
                go_upto_region 9 with fail
                have K9 := Lib.hid (J2.out.quiet (Kept.drew0 v2))
                clear J2
                refine wp_region_held_drew (S := fun w' => Blk w' bs #[.int .i64 3, .int .u64 s, .int .u64 x] 65 ∧ Blk w' bl #[.int .u64 (tableF x), .bool V4, .bool V5, .bool V6, .bool false, .int .u8 0] 98 ∧ Blk w' (b + 1 + 1) #[.int .i64 k0, .int .i64 k1, .int .i64 k2] 42) (by kernel_rfl) ⟨K9.out.at_ 1 rfl, K9.out.at_ 0 rfl, K9.out.at_ 3 rfl⟩ (fun hHeld => ?_)
                generalize v2.drew = v9 at *
                obtain ⟨cc, Hk, hof, hgo⟩ := K9.out.psc 0 rfl 3 (by decide) (by decide)
                have HG := Lib.hid hgo
                have HS1 := Lib.hid (K9.out.shifts HS.out HF.out)
                have HKY := Lib.hid fun w1 (hb : Below v9.heap.size v9 w1) => keyP_any p a 3 w1 (shifts_kept HS1.out hb) HA.out (by decide) (by decide)
                have HOK : Hid (OkK (p, 3, tagF a 3)) := Lib.hid ⟨HP.out, (show I64 3 by unfold I64; omega), tag_w a 3⟩
                unfold kyF at HD2
                generalize tagF a 3 = t9 at *
                clear hgo HS1 K9
                refine tk (v := ?_) 0 ?_ ?_
                rotate_left
                · intro w hSw
                  go_simp
                  (try with_reducible rfl)
                (try simp only [Act.put, List.setIfInBounds_toArray, List.set_cons_zero, List.set_cons_succ])
                refine tk (v := ?_) 1 ?_ ?_
                rotate_left
                · intro w hSw
                  go_simp
                  (try with_reducible rfl)
                (try simp only [Act.put, List.setIfInBounds_toArray, List.set_cons_zero, List.set_cons_succ])
                refine tk (v := ?_) 2 ?_ ?_
                rotate_left
                · intro w hSw
                  obtain ⟨s0, s1, s2⟩ := hSw.1.c3
                  go_simp
                  (try with_reducible rfl)
                (try simp only [Act.put, List.setIfInBounds_toArray, List.set_cons_zero, List.set_cons_succ])
                refine tk (v := ?_) 4 ?_ ?_
                rotate_left
                · intro w hSw
                  go_simp
                  (try with_reducible rfl)
                (try simp only [Act.put, List.setIfInBounds_toArray, List.set_cons_zero, List.set_cons_succ])
                refine tk (v := ?_) 5 ?_ ?_
                rotate_left
                · intro w hSw
                  go_simp
                  (try with_reducible rfl)
                (try simp only [Act.put, List.setIfInBounds_toArray, List.set_cons_zero, List.set_cons_succ])
                refine tk (v := ?_) 6 ?_ ?_
                rotate_left
                · intro w hSw
                  go_simp
                  (try with_reducible rfl)
                (try simp only [Act.put, List.setIfInBounds_toArray, List.set_cons_zero, List.set_cons_succ])
                refine tk (v := ?_) 7 ?_ ?_
                rotate_left
                · intro w hSw
                  obtain ⟨s0, s1, s2⟩ := hSw.1.c3
                  go_simp
                  (try with_reducible rfl)
                (try simp only [Act.put, List.setIfInBounds_toArray, List.set_cons_zero, List.set_cons_succ])
                refine tk (v := ?_) 9 ?_ ?_
                rotate_left
                · intro w hSw
                  obtain ⟨l0, l1, l2, l3, l4, l5⟩ := hSw.2.1.c6
                  go_simp
                  (try with_reducible rfl)
                (try simp only [Act.put, List.setIfInBounds_toArray, List.set_cons_zero, List.set_cons_succ])
                refine tk (v := ?_) 10 ?_ ?_
                rotate_left
                · intro w hSw
                  go_simp
                  (try with_reducible rfl)
                (try simp only [Act.put, List.setIfInBounds_toArray, List.set_cons_zero, List.set_cons_succ])
                refine tk (v := ?_) 11 ?_ ?_
                rotate_left
                · intro w hSw
                  obtain ⟨s0, s1, s2⟩ := hSw.1.c3
                  go_simp
                  (try with_reducible rfl)
                (try simp only [Act.put, List.setIfInBounds_toArray, List.set_cons_zero, List.set_cons_succ])
                refine wpAnyH_ready (rs := [3]) (by kernel_rfl) (by simp) ?_
                refine anyH_one rfl (fun K hK => ?_) ?_
                · go_simp
                  refine hof.mono ?_
                  rintro e u1 ⟨rfl, hb1⟩
                  refine hK.out _ _ (⟨hHeld.1.below hb1, hHeld.2.1.below hb1, hHeld.2.2.below hb1⟩) (fun hHeld => ?_)
                  clear hK K
                  (try simp only [Act.put, List.setIfInBounds_toArray, List.set_cons_zero, List.set_cons_succ])
                  refine wpAnyH_ready (rs := [8]) (by kernel_rfl) (by simp) ?_
                  refine anyH_one rfl (fun K hK => ?_) ?_
                  · go_simp
                    refine (HKY.out _ hb1).mono ?_
                    rintro e u2 ⟨rfl, hb2⟩
                    refine hK.out _ _ (⟨hHeld.1.below hb2, hHeld.2.1.below hb2, hHeld.2.2.below hb2⟩) (fun hHeld => ?_)
                    clear hK K
                    (try simp only [Act.put, List.setIfInBounds_toArray, List.set_cons_zero, List.set_cons_succ])
                    have hb3 := hb1.trans (hb2.mono hb1.size)
                    clear hb1 hb2
                    refine wpAnyH_ready (rs := [12]) (by kernel_rfl) (by simp) ?_
                    refine anyH_one rfl (fun K hK => ?_) ?_
                    · go_simp
                      refine (placeP_any _ _ (by decide) (by decide)).mono ?_
                      rintro e _ ⟨rfl, rfl⟩
                      refine hK.out _ _ (hHeld) (fun hHeld => ?_)
                      clear hK K
                      (try simp only [Act.put, List.setIfInBounds_toArray, List.set_cons_zero, List.set_cons_succ])
                      refine tk (v := ?_) 13 ?_ ?_
                      rotate_left
                      · intro w hSw
                        go_simp
                        (try with_reducible rfl)
                      (try simp only [Act.put, List.setIfInBounds_toArray, List.set_cons_zero, List.set_cons_succ])
                      refine tk (v := ?_) 14 ?_ ?_
                      rotate_left
                      · intro w hSw
                        obtain ⟨q0, q1, q2⟩ := hSw.2.2.c3
                        go_simp
                        (try with_reducible rfl)
                      (try simp only [Act.put, List.setIfInBounds_toArray, List.set_cons_zero, List.set_cons_succ])
                      refine wpAnyH_ready (rs := [15]) (by kernel_rfl) (by simp) ?_
                      refine anyH_one rfl (fun K hK => ?_) ?_
                      · go_simp
                        refine (putC_any (HG.out _ hb3).1 p _ t9 (tableF x) 0 _ V4 V5 V6 false HOK.out (HPK.out (kOf 3))).mono ?_
                        rintro e u4 ⟨rfl, hc4, ht4⟩
                        have HX9 := Lib.hid ((HG.out _ hb3).2 _ _ hc4 ht4)
                        clear hc4 ht4 hb3
                        refine hK.out _ _ (⟨HX9.out.at_ 1 rfl, HX9.out.at_ 0 rfl, HX9.out.at_ 3 rfl⟩) (fun hHeld => ?_)
                        clear hK K
                        (try simp only [Act.put, List.setIfInBounds_toArray, List.set_cons_zero, List.set_cons_succ])
                        refine wpAnyH_done (by kernel_rfl) ?_ _
                        have HX10 := Lib.hid (HX9.out.pick [2, 3, 4, 5] [])
                        clear HX9 hHeld
                        go_wp2
                        go_roundw
                        case rel => exact ⟨k + 1, V4, V5, V6, _, _, by omega, by go_num, HD2, HX10⟩
                        case measure => simp [intOf]; omega
                      exact AllReadyH.nil
                    exact AllReadyH.nil
                  exact AllReadyH.nil
                exact AllReadyH.nil
              exact AllReadyH.nil
            exact AllReadyH.nil
          exact AllReadyH.nil
        · go_upto_region 8 with (first | (go_at_call 57; refine (leadsP_any _ s x _).mono ?_; rw [hld]; rintro e w3 ⟨rfl, hb3⟩; have H3 := Lib.hid (H2.out.quiet hb3); clear s0 s1 s2 hb3; obtain ⟨s0, s1, s2⟩ := (H3.out.at_ 0 rfl).c3; obtain ⟨r0, r1, r2⟩ := (H3.out.at_ 1 rfl).c3) | (go_at_call 53; refine (and_any V1 V2 V3 x _).mono ?_; rintro e w4 ⟨rfl, hb4⟩; have H4 := Lib.hid (H3.out.quiet hb4); clear hb4 s0 s1 s2 r0 r1 r2; obtain ⟨r0, r1, r2⟩ := (H4.out.at_ 1 rfl).c3; have f0 := (H4.out.at_ 1 rfl).fz 0; have f1 := (H4.out.at_ 1 rfl).fz 1; have f2 := (H4.out.at_ 1 rfl).fz 2))
          generalize hw5 : ((w4.setCell _ _).setCell _ _).setCell _ _ = w5
          have H5 := Lib.hid ((H4.out.put 1 rfl (turnB3 _ _ _ _ _) (setB3 (H4.out.at_ 1 rfl) _ _ _)).world hw5)
          clear hw5 H2 H3 H4 r0 r1 r2 f0 f1 f2 hld
          generalize (V1 && bitF x 1) = V4 at *
          generalize (V2 && bitF x 2) = V5 at *
          generalize (V3 && !bitF x 63) = V6 at *
          refine wp_region_held_drew (S := fun w' => Blk w' bs #[.int .i64 4, .int .u64 s, .int .u64 x] 65 ∧ Blk w' (b + 1 + 1 + 1) #[.bool V4, .bool V5, .bool V6] 37) (by kernel_rfl) ⟨(H5.out.quiet (Kept.drew0 w5)).at_ 0 rfl, (H5.out.quiet (Kept.drew0 w5)).at_ 1 rfl⟩ (fun hHeld => ?_)
          have J0 := Lib.hid (H5.out.quiet (Kept.drew0 w5))
          clear H5
          generalize w5.drew = v0 at *
          refine tk (v := ?_) 0 ?_ ?_
          rotate_left
          · intro w hSw
            go_simp
            (try with_reducible rfl)
          (try simp only [Act.put, List.setIfInBounds_toArray, List.set_cons_zero, List.set_cons_succ])
          refine tk (v := ?_) 1 ?_ ?_
          rotate_left
          · intro w hSw
            obtain ⟨s0, s1, s2⟩ := hSw.1.c3
            go_simp
            (try with_reducible rfl)
          (try simp only [Act.put, List.setIfInBounds_toArray, List.set_cons_zero, List.set_cons_succ])
          refine tk (v := ?_) 3 ?_ ?_
          rotate_left
          · intro w hSw
            obtain ⟨r0, r1, r2⟩ := hSw.2.c3
            go_simp
            (try with_reducible rfl)
          (try simp only [Act.put, List.setIfInBounds_toArray, List.set_cons_zero, List.set_cons_succ])
          refine wpAnyH_ready (rs := [2, 5]) (by kernel_rfl) (by simp) ?_
          refine anyH_one rfl (fun K hK => ?_) ?_
          · go_simp
            refine (table_any _ _ HX.out).mono ?_
            rintro e _ ⟨rfl, rfl⟩
            refine hK.out _ _ (hHeld) (fun hHeld => ?_)
            clear hK K
            (try simp only [Act.put, List.setIfInBounds_toArray, List.set_cons_zero, List.set_cons_succ])
            refine tk (v := ?_) 4 ?_ ?_
            rotate_left
            · intro w hSw
              go_simp
              (try with_reducible rfl)
            (try simp only [Act.put, List.setIfInBounds_toArray, List.set_cons_zero, List.set_cons_succ])
            refine wpAnyH_ready (rs := [5]) (by kernel_rfl) (by simp) ?_
            refine anyH_one rfl (fun K hK => ?_) ?_
            · go_simp
              generalize hq : v0.alloc _ = v1
              have J1 := Lib.hid ((J0.out.new (b := v0.heap.size) rfl _ _).world hq)
              clear hq J0
              generalize v0.heap.size = bl at J1 ⊢
              refine hK.out _ _ (⟨J1.out.at_ 1 rfl, J1.out.at_ 2 rfl⟩) (fun hHeld => ?_)
              clear hK K
              (try simp only [Act.put, List.setIfInBounds_toArray, List.set_cons_zero, List.set_cons_succ])
              refine wpAnyH_ready (rs := [6]) (by kernel_rfl) (by simp) ?_
              refine anyH_one rfl (fun K hK => ?_) ?_
              · obtain ⟨l0, l1, l2, l3, l4, l5⟩ := (J1.out.at_ 0 rfl).c6
                have g0 := (J1.out.at_ 0 rfl).fz 0; have g1 := (J1.out.at_ 0 rfl).fz 1; have g2 := (J1.out.at_ 0 rfl).fz 2; have g3 := (J1.out.at_ 0 rfl).fz 3; have g4 := (J1.out.at_ 0 rfl).fz 4; have g5 := (J1.out.at_ 0 rfl).fz 5
                go_simp
                generalize hq : (((((v1.setCell _ _).setCell _ _).setCell _ _).setCell _ _).setCell _ _).setCell _ _ = v2
                have J2 := Lib.hid ((J1.out.put 0 rfl (turnB6 _ _ _ _ _ _ _ _) (setB6 (J1.out.at_ 0 rfl) _ _ _ _ _ _)).world hq)
                clear hq J1 l0 l1 l2 l3 l4 l5 g0 g1 g2 g3 g4 g5
                refine hK.out _ _ (⟨J2.out.at_ 1 rfl, J2.out.at_ 2 rfl⟩) (fun hHeld => ?_)
                clear hK K
                (try simp only [Act.put, List.setIfInBounds_toArray, List.set_cons_zero, List.set_cons_succ])
                refine wpAnyH_done (by kernel_rfl) ?_ _
                clear hHeld
                go_upto_region 9 with fail
                have K9 := Lib.hid (J2.out.quiet (Kept.drew0 v2))
                clear J2
                refine wp_region_held_drew (S := fun w' => Blk w' bs #[.int .i64 4, .int .u64 s, .int .u64 x] 65 ∧ Blk w' bl #[.int .u64 (tableF x), .bool V4, .bool V5, .bool V6, .bool false, .int .u8 0] 98 ∧ Blk w' (b + 1 + 1) #[.int .i64 k0, .int .i64 k1, .int .i64 k2] 42) (by kernel_rfl) ⟨K9.out.at_ 1 rfl, K9.out.at_ 0 rfl, K9.out.at_ 3 rfl⟩ (fun hHeld => ?_)
                generalize v2.drew = v9 at *
                obtain ⟨cc, Hk, hof, hgo⟩ := K9.out.psc 0 rfl 4 (by decide) (by decide)
                have HG := Lib.hid hgo
                have HS1 := Lib.hid (K9.out.shifts HS.out HF.out)
                have HKY := Lib.hid fun w1 (hb : Below v9.heap.size v9 w1) => keyP_any p a 4 w1 (shifts_kept HS1.out hb) HA.out (by decide) (by decide)
                have HOK : Hid (OkK (p, 4, tagF a 4)) := Lib.hid ⟨HP.out, (show I64 4 by unfold I64; omega), tag_w a 4⟩
                unfold kyF at HD2
                generalize tagF a 4 = t9 at *
                clear hgo HS1 K9
                refine tk (v := ?_) 0 ?_ ?_
                rotate_left
                · intro w hSw
                  go_simp
                  (try with_reducible rfl)
                (try simp only [Act.put, List.setIfInBounds_toArray, List.set_cons_zero, List.set_cons_succ])
                refine tk (v := ?_) 1 ?_ ?_
                rotate_left
                · intro w hSw
                  go_simp
                  (try with_reducible rfl)
                (try simp only [Act.put, List.setIfInBounds_toArray, List.set_cons_zero, List.set_cons_succ])
                refine tk (v := ?_) 2 ?_ ?_
                rotate_left
                · intro w hSw
                  obtain ⟨s0, s1, s2⟩ := hSw.1.c3
                  go_simp
                  (try with_reducible rfl)
                (try simp only [Act.put, List.setIfInBounds_toArray, List.set_cons_zero, List.set_cons_succ])
                refine tk (v := ?_) 4 ?_ ?_
                rotate_left
                · intro w hSw
                  go_simp
                  (try with_reducible rfl)
                (try simp only [Act.put, List.setIfInBounds_toArray, List.set_cons_zero, List.set_cons_succ])
                refine tk (v := ?_) 5 ?_ ?_
                rotate_left
                · intro w hSw
                  go_simp
                  (try with_reducible rfl)
                (try simp only [Act.put, List.setIfInBounds_toArray, List.set_cons_zero, List.set_cons_succ])
                refine tk (v := ?_) 6 ?_ ?_
                rotate_left
                · intro w hSw
                  go_simp
                  (try with_reducible rfl)
                (try simp only [Act.put, List.setIfInBounds_toArray, List.set_cons_zero, List.set_cons_succ])
                refine tk (v := ?_) 7 ?_ ?_
                rotate_left
                · intro w hSw
                  obtain ⟨s0, s1, s2⟩ := hSw.1.c3
                  go_simp
                  (try with_reducible rfl)
                (try simp only [Act.put, List.setIfInBounds_toArray, List.set_cons_zero, List.set_cons_succ])
                refine tk (v := ?_) 9 ?_ ?_
                rotate_left
                · intro w hSw
                  obtain ⟨l0, l1, l2, l3, l4, l5⟩ := hSw.2.1.c6
                  go_simp
                  (try with_reducible rfl)
                (try simp only [Act.put, List.setIfInBounds_toArray, List.set_cons_zero, List.set_cons_succ])
                refine tk (v := ?_) 10 ?_ ?_
                rotate_left
                · intro w hSw
                  go_simp
                  (try with_reducible rfl)
                (try simp only [Act.put, List.setIfInBounds_toArray, List.set_cons_zero, List.set_cons_succ])
                refine tk (v := ?_) 11 ?_ ?_
                rotate_left
                · intro w hSw
                  obtain ⟨s0, s1, s2⟩ := hSw.1.c3
                  go_simp
                  (try with_reducible rfl)
                (try simp only [Act.put, List.setIfInBounds_toArray, List.set_cons_zero, List.set_cons_succ])
                refine wpAnyH_ready (rs := [3]) (by kernel_rfl) (by simp) ?_
                refine anyH_one rfl (fun K hK => ?_) ?_
                · go_simp
                  refine hof.mono ?_
                  rintro e u1 ⟨rfl, hb1⟩
                  refine hK.out _ _ (⟨hHeld.1.below hb1, hHeld.2.1.below hb1, hHeld.2.2.below hb1⟩) (fun hHeld => ?_)
                  clear hK K
                  (try simp only [Act.put, List.setIfInBounds_toArray, List.set_cons_zero, List.set_cons_succ])
                  refine wpAnyH_ready (rs := [8]) (by kernel_rfl) (by simp) ?_
                  refine anyH_one rfl (fun K hK => ?_) ?_
                  · go_simp
                    refine (HKY.out _ hb1).mono ?_
                    rintro e u2 ⟨rfl, hb2⟩
                    refine hK.out _ _ (⟨hHeld.1.below hb2, hHeld.2.1.below hb2, hHeld.2.2.below hb2⟩) (fun hHeld => ?_)
                    clear hK K
                    (try simp only [Act.put, List.setIfInBounds_toArray, List.set_cons_zero, List.set_cons_succ])
                    have hb3 := hb1.trans (hb2.mono hb1.size)
                    clear hb1 hb2
                    refine wpAnyH_ready (rs := [12]) (by kernel_rfl) (by simp) ?_
                    refine anyH_one rfl (fun K hK => ?_) ?_
                    · go_simp
                      refine (placeP_any _ _ (by decide) (by decide)).mono ?_
                      rintro e _ ⟨rfl, rfl⟩
                      refine hK.out _ _ (hHeld) (fun hHeld => ?_)
                      clear hK K
                      (try simp only [Act.put, List.setIfInBounds_toArray, List.set_cons_zero, List.set_cons_succ])
                      refine tk (v := ?_) 13 ?_ ?_
                      rotate_left
                      · intro w hSw
                        go_simp
                        (try with_reducible rfl)
                      (try simp only [Act.put, List.setIfInBounds_toArray, List.set_cons_zero, List.set_cons_succ])
                      refine tk (v := ?_) 14 ?_ ?_
                      rotate_left
                      · intro w hSw
                        obtain ⟨q0, q1, q2⟩ := hSw.2.2.c3
                        go_simp
                        (try with_reducible rfl)
                      (try simp only [Act.put, List.setIfInBounds_toArray, List.set_cons_zero, List.set_cons_succ])
                      refine wpAnyH_ready (rs := [15]) (by kernel_rfl) (by simp) ?_
                      refine anyH_one rfl (fun K hK => ?_) ?_
                      · go_simp
                        refine (putC_any (HG.out _ hb3).1 p _ t9 (tableF x) 0 _ V4 V5 V6 false HOK.out (HPK.out (kOf 4))).mono ?_
                        rintro e u4 ⟨rfl, hc4, ht4⟩
                        have HX9 := Lib.hid ((HG.out _ hb3).2 _ _ hc4 ht4)
                        clear hc4 ht4 hb3
                        refine hK.out _ _ (⟨HX9.out.at_ 1 rfl, HX9.out.at_ 0 rfl, HX9.out.at_ 3 rfl⟩) (fun hHeld => ?_)
                        clear hK K
                        (try simp only [Act.put, List.setIfInBounds_toArray, List.set_cons_zero, List.set_cons_succ])
                        refine wpAnyH_done (by kernel_rfl) ?_ _
                        have HX10 := Lib.hid (HX9.out.pick [2, 3, 4, 5] [])
                        clear HX9 hHeld
                        go_wp2
                        go_roundw
                        case rel => exact ⟨k + 1, V4, V5, V6, _, _, by omega, by go_num, HD2, HX10⟩
                        case measure => simp [intOf]; omega
                      exact AllReadyH.nil
                    exact AllReadyH.nil
                  exact AllReadyH.nil
                exact AllReadyH.nil
              exact AllReadyH.nil
            exact AllReadyH.nil
          refine anyH_one rfl (fun K hK => ?_) ?_
          · go_simp
            generalize hq : v0.alloc _ = v1
            have J1 := Lib.hid ((J0.out.new (b := v0.heap.size) rfl _ _).world hq)
            clear hq J0
            generalize v0.heap.size = bl at J1 ⊢
            refine hK.out _ _ (⟨J1.out.at_ 1 rfl, J1.out.at_ 2 rfl⟩) (fun hHeld => ?_)
            clear hK K
            (try simp only [Act.put, List.setIfInBounds_toArray, List.set_cons_zero, List.set_cons_succ])
            refine wpAnyH_ready (rs := [2]) (by kernel_rfl) (by simp) ?_
            refine anyH_one rfl (fun K hK => ?_) ?_
            · go_simp
              refine (table_any _ _ HX.out).mono ?_
              rintro e _ ⟨rfl, rfl⟩
              refine hK.out _ _ (hHeld) (fun hHeld => ?_)
              clear hK K
              (try simp only [Act.put, List.setIfInBounds_toArray, List.set_cons_zero, List.set_cons_succ])
              refine tk (v := ?_) 4 ?_ ?_
              rotate_left
              · intro w hSw
                go_simp
                (try with_reducible rfl)
              (try simp only [Act.put, List.setIfInBounds_toArray, List.set_cons_zero, List.set_cons_succ])
              refine wpAnyH_ready (rs := [6]) (by kernel_rfl) (by simp) ?_
              refine anyH_one rfl (fun K hK => ?_) ?_
              · obtain ⟨l0, l1, l2, l3, l4, l5⟩ := (J1.out.at_ 0 rfl).c6
                have g0 := (J1.out.at_ 0 rfl).fz 0; have g1 := (J1.out.at_ 0 rfl).fz 1; have g2 := (J1.out.at_ 0 rfl).fz 2; have g3 := (J1.out.at_ 0 rfl).fz 3; have g4 := (J1.out.at_ 0 rfl).fz 4; have g5 := (J1.out.at_ 0 rfl).fz 5
                go_simp
                generalize hq : (((((v1.setCell _ _).setCell _ _).setCell _ _).setCell _ _).setCell _ _).setCell _ _ = v2
                have J2 := Lib.hid ((J1.out.put 0 rfl (turnB6 _ _ _ _ _ _ _ _) (setB6 (J1.out.at_ 0 rfl) _ _ _ _ _ _)).world hq)
                clear hq J1 l0 l1 l2 l3 l4 l5 g0 g1 g2 g3 g4 g5
                refine hK.out _ _ (⟨J2.out.at_ 1 rfl, J2.out.at_ 2 rfl⟩) (fun hHeld => ?_)
                clear hK K
                (try simp only [Act.put, List.setIfInBounds_toArray, List.set_cons_zero, List.set_cons_succ])
                refine wpAnyH_done (by kernel_rfl) ?_ _
                clear hHeld
                go_upto_region 9 with fail
                have K9 := Lib.hid (J2.out.quiet (Kept.drew0 v2))
                clear J2
                refine wp_region_held_drew (S := fun w' => Blk w' bs #[.int .i64 4, .int .u64 s, .int .u64 x] 65 ∧ Blk w' bl #[.int .u64 (tableF x), .bool V4, .bool V5, .bool V6, .bool false, .int .u8 0] 98 ∧ Blk w' (b + 1 + 1) #[.int .i64 k0, .int .i64 k1, .int .i64 k2] 42) (by kernel_rfl) ⟨K9.out.at_ 1 rfl, K9.out.at_ 0 rfl, K9.out.at_ 3 rfl⟩ (fun hHeld => ?_)
                generalize v2.drew = v9 at *
                obtain ⟨cc, Hk, hof, hgo⟩ := K9.out.psc 0 rfl 4 (by decide) (by decide)
                have HG := Lib.hid hgo
                have HS1 := Lib.hid (K9.out.shifts HS.out HF.out)
                have HKY := Lib.hid fun w1 (hb : Below v9.heap.size v9 w1) => keyP_any p a 4 w1 (shifts_kept HS1.out hb) HA.out (by decide) (by decide)
                have HOK : Hid (OkK (p, 4, tagF a 4)) := Lib.hid ⟨HP.out, (show I64 4 by unfold I64; omega), tag_w a 4⟩
                unfold kyF at HD2
                generalize tagF a 4 = t9 at *
                clear hgo HS1 K9
                refine tk (v := ?_) 0 ?_ ?_
                rotate_left
                · intro w hSw
                  go_simp
                  (try with_reducible rfl)
                (try simp only [Act.put, List.setIfInBounds_toArray, List.set_cons_zero, List.set_cons_succ])
                refine tk (v := ?_) 1 ?_ ?_
                rotate_left
                · intro w hSw
                  go_simp
                  (try with_reducible rfl)
                (try simp only [Act.put, List.setIfInBounds_toArray, List.set_cons_zero, List.set_cons_succ])
                refine tk (v := ?_) 2 ?_ ?_
                rotate_left
                · intro w hSw
                  obtain ⟨s0, s1, s2⟩ := hSw.1.c3
                  go_simp
                  (try with_reducible rfl)
                (try simp only [Act.put, List.setIfInBounds_toArray, List.set_cons_zero, List.set_cons_succ])
                refine tk (v := ?_) 4 ?_ ?_
                rotate_left
                · intro w hSw
                  go_simp
                  (try with_reducible rfl)
                (try simp only [Act.put, List.setIfInBounds_toArray, List.set_cons_zero, List.set_cons_succ])
                refine tk (v := ?_) 5 ?_ ?_
                rotate_left
                · intro w hSw
                  go_simp
                  (try with_reducible rfl)
                (try simp only [Act.put, List.setIfInBounds_toArray, List.set_cons_zero, List.set_cons_succ])
                refine tk (v := ?_) 6 ?_ ?_
                rotate_left
                · intro w hSw
                  go_simp
                  (try with_reducible rfl)
                (try simp only [Act.put, List.setIfInBounds_toArray, List.set_cons_zero, List.set_cons_succ])
                refine tk (v := ?_) 7 ?_ ?_
                rotate_left
                · intro w hSw
                  obtain ⟨s0, s1, s2⟩ := hSw.1.c3
                  go_simp
                  (try with_reducible rfl)
                (try simp only [Act.put, List.setIfInBounds_toArray, List.set_cons_zero, List.set_cons_succ])
                refine tk (v := ?_) 9 ?_ ?_
                rotate_left
                · intro w hSw
                  obtain ⟨l0, l1, l2, l3, l4, l5⟩ := hSw.2.1.c6
                  go_simp
                  (try with_reducible rfl)
                (try simp only [Act.put, List.setIfInBounds_toArray, List.set_cons_zero, List.set_cons_succ])
                refine tk (v := ?_) 10 ?_ ?_
                rotate_left
                · intro w hSw
                  go_simp
                  (try with_reducible rfl)
                (try simp only [Act.put, List.setIfInBounds_toArray, List.set_cons_zero, List.set_cons_succ])
                refine tk (v := ?_) 11 ?_ ?_
                rotate_left
                · intro w hSw
                  obtain ⟨s0, s1, s2⟩ := hSw.1.c3
                  go_simp
                  (try with_reducible rfl)
                (try simp only [Act.put, List.setIfInBounds_toArray, List.set_cons_zero, List.set_cons_succ])
                refine wpAnyH_ready (rs := [3]) (by kernel_rfl) (by simp) ?_
                refine anyH_one rfl (fun K hK => ?_) ?_
                · go_simp
                  refine hof.mono ?_
                  rintro e u1 ⟨rfl, hb1⟩
                  refine hK.out _ _ (⟨hHeld.1.below hb1, hHeld.2.1.below hb1, hHeld.2.2.below hb1⟩) (fun hHeld => ?_)
                  clear hK K
                  (try simp only [Act.put, List.setIfInBounds_toArray, List.set_cons_zero, List.set_cons_succ])
                  refine wpAnyH_ready (rs := [8]) (by kernel_rfl) (by simp) ?_
                  refine anyH_one rfl (fun K hK => ?_) ?_
                  · go_simp
                    refine (HKY.out _ hb1).mono ?_
                    rintro e u2 ⟨rfl, hb2⟩
                    refine hK.out _ _ (⟨hHeld.1.below hb2, hHeld.2.1.below hb2, hHeld.2.2.below hb2⟩) (fun hHeld => ?_)
                    clear hK K
                    (try simp only [Act.put, List.setIfInBounds_toArray, List.set_cons_zero, List.set_cons_succ])
                    have hb3 := hb1.trans (hb2.mono hb1.size)
                    clear hb1 hb2
                    refine wpAnyH_ready (rs := [12]) (by kernel_rfl) (by simp) ?_
                    refine anyH_one rfl (fun K hK => ?_) ?_
                    · go_simp
                      refine (placeP_any _ _ (by decide) (by decide)).mono ?_
                      rintro e _ ⟨rfl, rfl⟩
                      refine hK.out _ _ (hHeld) (fun hHeld => ?_)
                      clear hK K
                      (try simp only [Act.put, List.setIfInBounds_toArray, List.set_cons_zero, List.set_cons_succ])
                      refine tk (v := ?_) 13 ?_ ?_
                      rotate_left
                      · intro w hSw
                        go_simp
                        (try with_reducible rfl)
                      (try simp only [Act.put, List.setIfInBounds_toArray, List.set_cons_zero, List.set_cons_succ])
                      refine tk (v := ?_) 14 ?_ ?_
                      rotate_left
                      · intro w hSw
                        obtain ⟨q0, q1, q2⟩ := hSw.2.2.c3
                        go_simp
                        (try with_reducible rfl)
                      (try simp only [Act.put, List.setIfInBounds_toArray, List.set_cons_zero, List.set_cons_succ])
                      refine wpAnyH_ready (rs := [15]) (by kernel_rfl) (by simp) ?_
                      refine anyH_one rfl (fun K hK => ?_) ?_
                      · go_simp
                        refine (putC_any (HG.out _ hb3).1 p _ t9 (tableF x) 0 _ V4 V5 V6 false HOK.out (HPK.out (kOf 4))).mono ?_
                        rintro e u4 ⟨rfl, hc4, ht4⟩
                        have HX9 := Lib.hid ((HG.out _ hb3).2 _ _ hc4 ht4)
                        clear hc4 ht4 hb3
                        refine hK.out _ _ (⟨HX9.out.at_ 1 rfl, HX9.out.at_ 0 rfl, HX9.out.at_ 3 rfl⟩) (fun hHeld => ?_)
                        clear hK K
                        (try simp only [Act.put, List.setIfInBounds_toArray, List.set_cons_zero, List.set_cons_succ])
                        refine wpAnyH_done (by kernel_rfl) ?_ _
                        have HX10 := Lib.hid (HX9.out.pick [2, 3, 4, 5] [])
                        clear HX9 hHeld
                        go_wp2
                        go_roundw
                        case rel => exact ⟨k + 1, V4, V5, V6, _, _, by omega, by go_num, HD2, HX10⟩
                        case measure => simp [intOf]; omega
                      exact AllReadyH.nil
                    exact AllReadyH.nil
                  exact AllReadyH.nil
                exact AllReadyH.nil
              exact AllReadyH.nil
            exact AllReadyH.nil
          exact AllReadyH.nil
    · have hc : ¬ ((k : Int) < (n : Int) - 1) := by omega
      go_wp2
      go_end0
      refine ⟨rfl, ?_⟩
      rw [← HD.out, fill_few (by rw [List.length_drop, HN.out]; omega)]
      exact HL.out.out 0 rfl
end
end Go.Proofs.YtiihhlmddmicjaaDoor
