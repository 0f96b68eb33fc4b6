/- The walk of WalkOn. (Laid by tools/gen_l8o.py.) -/
import Derived.Test.YtlpjbmlkpmhdlaaDoorHp
import Derived.Test.YtlpjbmlkpmhdlaaDoorRl
import Derived.StillTailTactics
namespace Go.Proofs.YtlpjbmlkpmhdlaaDoor
set_option linter.unusedVariables false
set_option linter.unusedSimpArgs false
open Go.ChangeShapes Go.WideShapes Go.ChangeAt Go.RowKit Go.Joins

theorem Blk.three {w : World} {b : Nat} {t : TypeId} {x0 x1 x2 : Value} (h : Blk w b #[x0, x1, x2] t) : w.cell? ⟨b, 0, none⟩ = some x0 ∧ w.cell? ⟨b, 1, none⟩ = some x1 ∧ w.cell? ⟨b, 2, none⟩ = some x2 := by
  unfold Blk at h; simp [World.cell?, h]
theorem Blk.set3 {w : World} {b : Nat} {t : TypeId} {x0 x1 x2 : Value} (h : Blk w b #[x0, x1, x2] t) (y0 y1 y2 : Value) : Blk (((w.setCell ⟨b, 0, none⟩ y0).setCell ⟨b, 1, none⟩ y1).setCell ⟨b, 2, none⟩ y2) b #[y0, y1, y2] t := by
  unfold Blk at *; simp [World.setCell, Array.getElem?_modify, h]
theorem turn3 (w : World) (b : Nat) (y0 y1 y2 : Value) : Turn (fun i => i = b) w (((w.setCell ⟨b, 0, none⟩ y0).setCell ⟨b, 1, none⟩ y1).setCell ⟨b, 2, none⟩ y2) :=
  ((turn1 _ _ _ _).and (turn1 _ _ _ _)).and (turn1 _ _ _ _)

/-- a right in a variable of its own, beside a path and a memory -/
structure On (w wr : World) (b : Nat) (v : Value) (P : Pth) (G : Nat → Prop) (m : Nat) (f : Int → Int) (tr : List Int) (n : Nat) (rb : Nat) (W U X : Bool) : Prop where
  wk : Wk w wr (From w.heap.size) m 16 f tr n G
  scn : Scn w wr b v P G
  rgt : Blk wr rb #[.bool W, .bool U, .bool X] 25
  nr : ¬ G rb
  ge : w.heap.size ≤ rb
  nb : rb ≠ b
  nv : v.ownBlock ≠ some rb
  sh : Shifts wr

section
variable {w wr w3 : World} {b : Nat} {v : Value} {P : Pth} {G : Nat → Prop} {m : Nat} {f : Int → Int} {tr : List Int} {n rb : Nat} {W U X : Bool}
theorem On.quiet (h : On w wr b v P G m f tr n rb W U X) (hb : Below wr.heap.size wr w3) : On w w3 b v P G m f tr n rb W U X :=
  ⟨h.wk.quiet hb, h.scn.quiet hb, h.rgt.below hb, h.nr, h.ge, h.nb, h.nv, shifts_under h.sh hb (size_shifts h.sh)⟩
theorem On.set (h : On w wr b v P G m f tr n rb W U X) (hz : 0 < w.heap.size) (W' U' X' : Bool) : On w (((wr.setCell ⟨rb, 0, none⟩ (.bool W')).setCell ⟨rb, 1, none⟩ (.bool U')).setCell ⟨rb, 2, none⟩ (.bool X')) b v P G m f tr n rb W' U' X' :=
  ⟨h.wk.set (turn3 _ _ _ _ _) h.nr h.ge, h.scn.turn (turn3 wr rb _ _ _) (fun e => h.nb e.symm) (fun i hi e => h.nv (e ▸ hi)), h.rgt.set3 _ _ _, h.nr, h.ge, h.nb, h.nv, shifts_turn h.sh (turn3 wr rb _ _ _) (fun e => by have := h.ge; omega)⟩
theorem On.new (hw : Wk w wr (From w.heap.size) m 16 f tr n G) (hs : Scn w wr b v P G) (hsh : Shifts wr) : On w (wr.alloc (.cells #[.bool W, .bool U, .bool X] 25)) b v P G m f tr n wr.heap.size W U X :=
  ⟨hw.quiet (below_alloc1 _ _), hs.quiet (below_alloc1 _ _), Blk.new _ _ _, fun hg => by have := (hw.foot _ hg).1; omega, hw.turn.size, fun e => by have := hs.box.lt; omega, fun e => by have := (hs.own.lt e).2; omega, shifts_under hsh (below_alloc1 _ _) (size_shifts hsh)⟩
end

/-- both paths -/
structure Fin (w wz : World) (b : Nat) (v : Value) (P : Pth) (qb : Nat) (v8 : Value) (Q : Pth) : Prop where
  boxP : Blk wz b (pathCells v P) 38
  boxQ : Blk wz qb (pathCells v8 Q) 38
  stepsP : StepsIn wz v P.steps
  stepsQ : StepsIn wz v8 Q.steps
  below : Below w.heap.size w wz

abbrev zeroP : Array Value := #[.slice none 0 0, .int .i64 0, .bool false, .bool false, .bool false, .int .i64 0, .int .u64 0]

theorem fin_after {w wa w8 : World} {b : Nat} {v v8 : Value} {P Q : Pth} {G G8 : Nat → Prop} {m : Nat} {f : Int → Int} {tr tr' : List Int} {n n' rb : Nat} {W U X : Bool} (hO : On w wa b v P G m f tr n rb W U X) (hW : Wk wa w8 G m 16 f tr' n' G8) (hS : StepsOwn 77 w8 (wa.heap.size + 3) v8 Q.steps) :
    Fin w (w8.alloc (.cells (pathCells v8 Q) 38)) b v P w8.heap.size v8 Q := by
  have hs := hO.scn.step hW
  have hb := below_alloc1 w8 (.cells (pathCells v8 Q) 38)
  exact ⟨hs.box.below hb, Blk.new _ _ _, hs.own.into.below hb, hS.into.below hb, ((hO.wk.join hW).quiet hb).belowW⟩
theorem fin_before {w wa w8 : World} {b : Nat} {v v8 : Value} {P Q : Pth} {G G8 : Nat → Prop} {m : Nat} {f : Int → Int} {tr tr' : List Int} {n n' rb : Nat} {W U X : Bool} (hO : On w wa b v P G m f tr n rb W U X) (hW : Wk (wa.alloc (.cells zeroP 38)) w8 G m 16 f tr' n' G8) (hS : StepsOwn 77 w8 ((wa.alloc (.cells zeroP 38)).heap.size + 3) v8 Q.steps) {w9 : World} (ht : Turn (fun i => i = wa.heap.size) w8 w9) (hq : Blk w9 wa.heap.size (pathCells v8 Q) 38) :
    Fin w w9 b v P wa.heap.size v8 Q := by
  have hO1 := hO.quiet (below_alloc1 wa (.cells zeroP 38))
  have hs := hO1.scn.step hW
  have l1 := hO.scn.box.lt
  have e1 : (wa.alloc (.cells zeroP 38)).heap.size = wa.heap.size + 1 := by simp
  have hs9 := hs.turn ht (by omega) (fun i hi e => by have := (hO.scn.own.lt hi).2; omega)
  have hS9 := hS.turn ht (fun i hi e => by have := (hS.lt hi).1; omega)
  exact ⟨hs9.box, hq, hs9.own.into, hS9.into, (hO1.wk.join hW).belowW.trans (ht.below (fun i hi => by have := hO.wk.turn.size; omega) (hO1.wk.join hW).turn.size)⟩
theorem blk_before {wa w8 : World} {G G8 : Nat → Prop} {m : Nat} {f : Int → Int} {tr' : List Int} {n' : Nat} (hW : Wk (wa.alloc (.cells zeroP 38)) w8 G m 16 f tr' n' G8) (hG : ¬ G wa.heap.size) : Blk w8 wa.heap.size zeroP 38 := (Blk.new wa _ _).turn hW.turn hG

theorem drewN_below' (v : World) (n : Nat) {B : Nat} : Below B v (v.drewN n) := ⟨rfl, rfl, rfl, Nat.le_refl _, fun _ _ => rfl⟩
theorem rgt_zero (W U X : Bool) (S : List (Int × Int × Int)) : rgtF W U X S 0 = (W, U, X) := by cases S <;> rfl
theorem slot_w {s : Int} (h1 : errS 16 s = 0) (h2 : 0 ≤ s) : W64 s := by
  have h3 := (errS_in h1).1
  have h4 : sizeM 16 = 65536 := by decide
  unfold W64; omega
theorem add_block (ad : Addr) (n : Nat) : (ad.add n).block = ad.block := by unfold Addr.add; split <;> rfl
/-- what the second walk's region keeps -/
def RegO (b : Nat) (v : Value) (P : Pth) (ad : Addr) (l s : Int) (rb : Nat) (W U X : Bool) (w' : World) : Prop := Blk w' b (pathCells v P) 38 ∧ w'.cell? ad = some (.int .i64 l) ∧ w'.cell? ⟨ad.block, ad.off + 1, none⟩ = some (.int .u64 s) ∧ Blk w' rb #[.bool W, .bool U, .bool X] 25
theorem rego_turn {b : Nat} {v : Value} {P : Pth} {ad : Addr} {l s : Int} {rb : Nat} {W U X : Bool} {w1 w2 : World} {F : Nat → Prop} (h : RegO b v P ad l s rb W U X w1) (ht : Turn F w1 w2) (h1 : ¬ F b) (h2 : ¬ F ad.block) (h3 : ¬ F rb) : RegO b v P ad l s rb W U X w2 := by
  obtain ⟨a, c, d, e⟩ := h
  have k := ht.block _ (World.block_lt_of_cell? _ _ c) h2
  exact ⟨a.turn ht h1, (World.cell?_of_block (a := ad) k).trans c, (World.cell?_of_block (a := ⟨ad.block, ad.off + 1, none⟩) k).trans d, e.turn ht h3⟩

set_option maxRecDepth 100000 in
set_option maxHeartbeats 6400000 in
theorem walkOn_walk (A : Option Addr) (c : Nat) (ds : List (Int × Int × Int × Int)) (n at' : Int) (w : World) (hs : Shifts w) (hl : ds.length ≤ maxLen) (hd : PutsIn w A ds) (hok : PutsOk ds) (n0 : 0 ≤ n) (n1 : n < 4294967296) (r0 : 0 ≤ at') (r1 : at' < 256) :
    Calls Tryd.prog 6 #[.slice A ds.length c, .int .u32 n, .int .u8 at'] w fun e w' => e = .returned (.bool true) ∧ Below w.heap.size w w' := by
  have HS := Lib.hid hs
  have hz := size_shifts hs
  have HD := Lib.hid hd
  have HN := Lib.hid (⟨n0, n1⟩ : 0 ≤ n ∧ n < 4294967296)
  have HR := fun f a => Lib.hid (root_step f a true 0 (by omega) (by omega) true true true)
  have HK := fun f a k => Lib.hid (walk_on (M := 16) (f := f) (a := a) (nxe := true) k 4 (tableF 0) true true true (by omega) (by omega))
  clear hs hd n0 n1
  have e0 : IntKind.i64.wrap at' = at' := i64_wrap (by omega) (by omega)
  go_enter Tryd.func6, Tryd.ntmps6
  go_upto_region 7 with (first | (go_at_call 9; refine (awake8_any _ HS.out).mono ?_; rintro e w1 ⟨rfl, hB1⟩; have HB1 := Lib.hid hB1; clear hB1) | (go_at_call 10; refine (built_any _ _ _ ds hl (puts_below HD.out HB1.out) hok).mono ?_; rintro e w2 ⟨rfl, hM2, hB2⟩; have HW2 := Lib.hid (Wk.made hM2 (HB1.out.trans (hB2.mono HB1.out.size)) HB1.out.size); have HS2 := Lib.hid (shifts_under HS.out (HB1.out.trans (hB2.mono HB1.out.size)) hz); clear hM2 hB2) | (go_at_call 26; refine (near_any _ _ HN.out.1 HN.out.2).mono ?_; rintro e w' ⟨rfl, rfl⟩) | (go_at_call 19; refine (top_any _ _ w0).mono ?_; rintro e w3 ⟨rfl, hB3⟩; have HW3 := Lib.hid (HW2.out.quiet hB3); have HS3 := Lib.hid (shifts_under HS2.out hB3 (size_shifts HS2.out)); clear hB3) | (go_at_call 12; refine (from_any HW3.out.mem (by decide) (HW3.out.no0 hz) HS3.out 4 (tableF 0) (nearF n) true true true true (w64_table _) (near_w n)).mono ?_; obtain ⟨P, hP⟩ : ∃ P, walkZ 16 (putSt ds (mostP ds)) (nearF n) true 4 (tableF 0) true true true = P := ⟨_, rfl⟩; have HP1 := Lib.hid (walk_snd (putSt ds (mostP ds)) HW3.out.mem.words (nearF n) true 4 (by decide) (tableF 0) true true true); have HP2 := HR (putSt ds (mostP ds)) (nearF n); have HP3 := HK (putSt ds (mostP ds)) (nearF n); have HWd := Lib.hid HW3.out.mem.words; rw [show ((4 : Nat) : Int) = 4 from rfl] at HP1; rw [show (0 : Int) * 4096 = 0 from rfl] at HP2; rw [hP] at HP1 HP2 HP3 ⊢; clear hP HR HK; rintro e w4 ⟨v, G, rfl, hW4, hS4, hn4, hsh4⟩; obtain ⟨A4, c4, rfl⟩ := hS4.form; have HW4 := Lib.hid (HW3.out.join hW4); have HS4 := Lib.hid (hS4.down (Nat.le_trans HW3.out.turn.size (Nat.le_add_right _ 3))); have HN4 := Lib.hid hn4; have HSh4 := Lib.hid hsh4; clear hW4 hS4 hn4 hsh4))
  have HSW := Lib.hid (Scn.new HW4.out HS4.out HN4.out)
  generalize hb4 : w4.heap.size = b at *
  clear hb4
  generalize hw5 : w4.alloc _ = w5
  have HSc5 : Hid (Scn w w5 b (.slice A4 P.steps.length c4) P G) := Lib.hid (by rw [← hw5]; exact HSW.out.1)
  have HW5 : Hid (Wk w w5 (From w.heap.size) (w1.heap.size + 1) 16 (putSt ds (mostP ds)) ([] ++ slotsP P.steps) (100 + 5) G) := Lib.hid (by rw [← hw5]; exact HSW.out.2)
  have HSh5 : Hid (Shifts w5) := Lib.hid (by rw [← hw5]; exact shifts_under HSh4.out (below_alloc1 _ _) (size_shifts HSh4.out))
  clear hw5 HSW HW4 HS4 HN4 HSh4 HW3 HS3 HW2 HS2 HB1 HS
  have hlen := HP1.out.len
  have hlen1 := HP2.out
  obtain ⟨L, hL⟩ : ∃ L, P.steps.length = L := ⟨_, rfl⟩
  rw [hL] at HSc5 hlen hlen1
  try rw [hL]
  have HL := Lib.hid hL
  clear hL
  obtain ⟨k, hk1, hk2, hk3⟩ : ∃ k : Nat, at'.tmod (L : Int) = (k : Int) ∧ k < L ∧ IntKind.i64.wrap (k : Int) = (k : Int) := ⟨(at' % (L : Int)).toNat, by rw [Int.tmod_eq_emod_of_nonneg r0]; have := Int.emod_nonneg at' (show (L : Int) ≠ 0 by omega); omega, by have := Int.emod_lt_of_pos at' (show (0 : Int) < (L : Int) by omega); have := Int.emod_nonneg at' (show (L : Int) ≠ 0 by omega); omega, i64_wrap (by omega) (by have := Int.emod_lt_of_pos at' (show (0 : Int) < (L : Int) by omega); have := Int.emod_nonneg at' (show (L : Int) ≠ 0 by omega); omega)⟩
  obtain ⟨p0, p1, p2, p3, p4, p5, p6⟩ := HSc5.out.box.seven
  clear r0 r1
  by_cases hk0 : k = 0
  · subst hk0
    have HB := Lib.hid HW5.out.belowW
    go_wp2
    go_ret
    exact ⟨rfl, HB.out⟩
  · go_upto_region 13 with (first | (go_at_call 27; refine (all_any _).mono ?_; rintro e w6 ⟨rfl, hB6⟩; have HW6 := Lib.hid (HW5.out.quiet hB6); have HSc6 := Lib.hid (HSc5.out.quiet hB6); have HSh6 := Lib.hid (shifts_under HSh5.out hB6 (size_shifts HSh5.out)); clear hB6 p0 p1 p2 p3 p4 p5 p6))
    have HO0 := Lib.hid (On.new (W := true) (U := true) (X := true) HW6.out HSc6.out HSh6.out)
    generalize hb6 : w6.heap.size = rb at *
    clear hb6
    generalize hw7 : w6.alloc _ = w7
    have HO7 : Hid (On w w7 b (.slice A4 L c4) P G (w1.heap.size + 1) (putSt ds (mostP ds)) ([] ++ slotsP P.steps) (100 + 5) rb true true true) := Lib.hid (by rw [← hw7]; exact HO0.out)
    clear hw7 HO0 HW6 HSc6 HSh6 HW5 HSc5 HSh5
    go_wp2
    go_loopw [13] (fun i wr => ∃ j : Nat, j ≤ k ∧ i = .int .i64 j ∧ On w wr b (.slice A4 L c4) P G (w1.heap.size + 1) (putSt ds (mostP ds)) ([] ++ slotsP P.steps) (100 + 5) rb (rgtF true true true P.steps j).1 (rgtF true true true P.steps j).2.1 (rgtF true true true P.steps j).2.2) (fun i _ => (k - intOf i).toNat)
    case atStart => exact ⟨0, by omega, rfl, by rw [rgt_zero]; exact HO7.out⟩
    case round =>
      obtain ⟨j, hj, rfl, hO⟩ := hrel
      have HO := Lib.hid hO
      clear hO HO7
      obtain ⟨p0, p1, p2, p3, p4, p5, p6⟩ := HO.out.scn.box.seven
      obtain ⟨q0, q1, q2⟩ := HO.out.rgt.three
      by_cases hlt : j < k
      · have HSt := Lib.hid (rgt_step P.steps j true true true (by rw [HL.out]; omega))
        obtain ⟨ad, hA, d0, d1, d2⟩ := HO.out.scn.cells (k := j) (by rw [HL.out]; omega)
        subst hA
        have hjL : j < L := by omega
        generalize (stepAt P.steps j).2.2 = x at *
        generalize (rgtF true true true P.steps j).1 = W at *
        generalize (rgtF true true true P.steps j).2.1 = U at *
        generalize (rgtF true true true P.steps j).2.2 = X at *
        clear d0 d1
        go_wp2
        refine wp_region_still_tail 7 (by kernel_rfl) (by kernel_rfl) ?_
        simp only [List.take_succ_cons, List.take_zero, List.drop_succ_cons, List.drop_zero]
        repeat still_step
        refine wpStill_nil ?_
        change wpList _ _ _ _ _ wr.drew
        have HO2 := Lib.hid (HO.out.quiet (Kept.drew0 wr))
        clear HO p0 p1 p2 p3 p4 p5 p6 q0 q1 q2 d2
        generalize wr.drew = w2 at *
        go_wp2_with (first | (go_at_call 28; refine (and_any _ _ _ _ _).mono ?_; rintro e w3 ⟨rfl, hB3⟩; have HO3 := Lib.hid (HO2.out.quiet hB3); clear hB3 HO2; obtain ⟨q0, q1, q2⟩ := HO3.out.rgt.three; have f0 := HO3.out.rgt.fz 0; have f1 := HO3.out.rgt.fz 1; have f2 := HO3.out.rgt.fz 2))
        have HO4 := Lib.hid (HO3.out.set hz (W && bitF x 1) (U && bitF x 2) (X && !bitF x 63))
        go_roundw
        case rel => exact ⟨j + 1, by omega, by go_num, by rw [HSt.out]; exact HO4.out⟩
        case measure => simp [intOf]; omega
      · have hjk : k ≤ j := by omega
        obtain rfl : j = k := by omega
        clear hlt hj
        obtain ⟨ad, hA, d0, d1, d2⟩ := HO.out.scn.cells (k := j) (by rw [HL.out]; omega)
        subst hA
        have HE := Lib.hid ((HP3 j).out (by rw [HL.out]; omega))
        have HSW := Lib.hid (slot_w (HP1.out.at_ j (by rw [HL.out]; omega)).1 (HP1.out.at_ j (by rw [HL.out]; omega)).2.2)
        have HX : Hid (stepAt (dropP j P).steps 0 = stepAt P.steps j ∧ (dropP j P).steps.length = L - j) := Lib.hid ⟨by simp [dropP, stepAt], by simp [dropP, HL.out]⟩
        generalize hls : (stepAt P.steps j).1 = l at *
        generalize hss : (stepAt P.steps j).2.1 = s at *
        generalize hxs : (stepAt P.steps j).2.2 = x at *
        have HXs : Hid (stepAt P.steps j = (l, s, x)) := Lib.hid (by rw [← hls, ← hss, ← hxs])
        generalize (rgtF true true true P.steps j).1 = W at *
        generalize (rgtF true true true P.steps j).2.1 = U at *
        generalize (rgtF true true true P.steps j).2.2 = X at *
        clear d2 hls hss hxs
        have HNad : Hid (¬ G (ad.add (j * 3)).block) := Lib.hid (by rw [add_block]; exact HO.out.scn.nv _ rfl)
        go_upto_region 17 with fail
        have HOa := Lib.hid (HO.out.quiet (Kept.drew0 wr))
        have H0 : RegO b (.slice (some ad) L c4) P (ad.add (j * 3)) l s rb W U X wr.drew := ⟨HO.out.scn.box, d0, d1, HO.out.rgt⟩
        refine wp_region_held_drew (S := RegO b (.slice (some ad) L c4) P (ad.add (j * 3)) l s rb W U X) (by kernel_rfl) H0 (fun hHeld => ?_)
        clear H0 HO p0 p1 p2 p3 p4 p5 p6 q0 q1 q2 d0 d1
        generalize wr.drew = wa at *
        have HNl : Hid ((ad.add (j * 3)).block < wa.heap.size) := Lib.hid (World.block_lt_of_cell? _ _ hHeld.2.1)
        refine anyH_take (i := 0) (v := ?_) rfl (by kernel_rfl) (by kernel_rfl) (by kernel_rfl) (fun _ _ _ h => h) (by rfl) (by assumption) ?_ ?_
        rotate_left
        · intro w hSw
          go_simp
          (try with_reducible rfl)
        (try simp only [Act.put, List.setIfInBounds_toArray, List.set_cons_zero, List.set_cons_succ])
        refine anyH_take (i := 1) (v := ?_) rfl (by kernel_rfl) (by kernel_rfl) (by kernel_rfl) (fun _ _ _ h => h) (by rfl) (by assumption) ?_ ?_
        rotate_left
        · intro w hSw
          go_simp
          (try with_reducible rfl)
        (try simp only [Act.put, List.setIfInBounds_toArray, List.set_cons_zero, List.set_cons_succ])
        refine anyH_take (i := 2) (v := ?_) rfl (by kernel_rfl) (by kernel_rfl) (by kernel_rfl) (fun _ _ _ h => h) (by rfl) (by assumption) ?_ ?_
        rotate_left
        · intro w hSw
          obtain ⟨hA, hB, hC, hD⟩ := hSw
          obtain ⟨p0, p1, p2, p3, p4, p5, p6⟩ := hA.seven
          obtain ⟨q0, q1, q2⟩ := hD.three
          go_simp
          (try with_reducible rfl)
        (try simp only [Act.put, List.setIfInBounds_toArray, List.set_cons_zero, List.set_cons_succ])
        refine anyH_take (i := 3) (v := ?_) rfl (by kernel_rfl) (by kernel_rfl) (by kernel_rfl) (fun _ _ _ h => h) (by rfl) (by assumption) ?_ ?_
        rotate_left
        · intro w hSw
          go_simp
          (try with_reducible rfl)
        (try simp only [Act.put, List.setIfInBounds_toArray, List.set_cons_zero, List.set_cons_succ])
        refine anyH_take (i := 4) (v := ?_) rfl (by kernel_rfl) (by kernel_rfl) (by kernel_rfl) (fun _ _ _ h => h) (by rfl) (by assumption) ?_ ?_
        rotate_left
        · intro w hSw
          go_simp
          (try with_reducible rfl)
        (try simp only [Act.put, List.setIfInBounds_toArray, List.set_cons_zero, List.set_cons_succ])
        refine anyH_take (i := 5) (v := ?_) rfl (by kernel_rfl) (by kernel_rfl) (by kernel_rfl) (fun _ _ _ h => h) (by rfl) (by assumption) ?_ ?_
        rotate_left
        · intro w hSw
          go_simp
          (try with_reducible rfl)
        (try simp only [Act.put, List.setIfInBounds_toArray, List.set_cons_zero, List.set_cons_succ])
        refine anyH_take (i := 6) (v := ?_) rfl (by kernel_rfl) (by kernel_rfl) (by kernel_rfl) (fun _ _ _ h => h) (by rfl) (by assumption) ?_ ?_
        rotate_left
        · intro w hSw
          obtain ⟨hA, hB, hC, hD⟩ := hSw
          obtain ⟨p0, p1, p2, p3, p4, p5, p6⟩ := hA.seven
          obtain ⟨q0, q1, q2⟩ := hD.three
          go_simp
          (try with_reducible rfl)
        (try simp only [Act.put, List.setIfInBounds_toArray, List.set_cons_zero, List.set_cons_succ])
        refine anyH_take (i := 7) (v := ?_) rfl (by kernel_rfl) (by kernel_rfl) (by kernel_rfl) (fun _ _ _ h => h) (by rfl) (by assumption) ?_ ?_
        rotate_left
        · intro w hSw
          go_simp
          (try with_reducible rfl)
        (try simp only [Act.put, List.setIfInBounds_toArray, List.set_cons_zero, List.set_cons_succ])
        refine anyH_take (i := 8) (v := ?_) rfl (by kernel_rfl) (by kernel_rfl) (by kernel_rfl) (fun _ _ _ h => h) (by rfl) (by assumption) ?_ ?_
        rotate_left
        · intro w hSw
          obtain ⟨hA, hB, hC, hD⟩ := hSw
          obtain ⟨p0, p1, p2, p3, p4, p5, p6⟩ := hA.seven
          obtain ⟨q0, q1, q2⟩ := hD.three
          go_simp
          (try with_reducible rfl)
        (try simp only [Act.put, List.setIfInBounds_toArray, List.set_cons_zero, List.set_cons_succ])
        refine anyH_take (i := 9) (v := ?_) rfl (by kernel_rfl) (by kernel_rfl) (by kernel_rfl) (fun _ _ _ h => h) (by rfl) (by assumption) ?_ ?_
        rotate_left
        · intro w hSw
          go_simp
          (try with_reducible rfl)
        (try simp only [Act.put, List.setIfInBounds_toArray, List.set_cons_zero, List.set_cons_succ])
        refine anyH_take (i := 10) (v := ?_) rfl (by kernel_rfl) (by kernel_rfl) (by kernel_rfl) (fun _ _ _ h => h) (by rfl) (by assumption) ?_ ?_
        rotate_left
        · intro w hSw
          go_simp
          (try with_reducible rfl)
        (try simp only [Act.put, List.setIfInBounds_toArray, List.set_cons_zero, List.set_cons_succ])
        refine anyH_take (i := 11) (v := ?_) rfl (by kernel_rfl) (by kernel_rfl) (by kernel_rfl) (fun _ _ _ h => h) (by rfl) (by assumption) ?_ ?_
        rotate_left
        · intro w hSw
          go_simp
          (try with_reducible rfl)
        (try simp only [Act.put, List.setIfInBounds_toArray, List.set_cons_zero, List.set_cons_succ])
        refine anyH_take (i := 12) (v := ?_) rfl (by kernel_rfl) (by kernel_rfl) (by kernel_rfl) (fun _ _ _ h => h) (by rfl) (by assumption) ?_ ?_
        rotate_left
        · intro w hSw
          obtain ⟨hA, hB, hC, hD⟩ := hSw
          obtain ⟨p0, p1, p2, p3, p4, p5, p6⟩ := hA.seven
          obtain ⟨q0, q1, q2⟩ := hD.three
          go_simp
          (try with_reducible rfl)
        (try simp only [Act.put, List.setIfInBounds_toArray, List.set_cons_zero, List.set_cons_succ])
        refine anyH_take (i := 13) (v := ?_) rfl (by kernel_rfl) (by kernel_rfl) (by kernel_rfl) (fun _ _ _ h => h) (by rfl) (by assumption) ?_ ?_
        rotate_left
        · intro w hSw
          obtain ⟨hA, hB, hC, hD⟩ := hSw
          obtain ⟨p0, p1, p2, p3, p4, p5, p6⟩ := hA.seven
          obtain ⟨q0, q1, q2⟩ := hD.three
          go_simp
          (try with_reducible rfl)
        (try simp only [Act.put, List.setIfInBounds_toArray, List.set_cons_zero, List.set_cons_succ])
        refine anyH_take (i := 14) (v := ?_) rfl (by kernel_rfl) (by kernel_rfl) (by kernel_rfl) (fun _ _ _ h => h) (by rfl) (by assumption) ?_ ?_
        rotate_left
        · intro w hSw
          go_simp
          (try with_reducible rfl)
        (try simp only [Act.put, List.setIfInBounds_toArray, List.set_cons_zero, List.set_cons_succ])
        refine anyH_take (i := 15) (v := ?_) rfl (by kernel_rfl) (by kernel_rfl) (by kernel_rfl) (fun _ _ _ h => h) (by rfl) (by assumption) ?_ ?_
        rotate_left
        · intro w hSw
          go_simp
          (try with_reducible rfl)
        (try simp only [Act.put, List.setIfInBounds_toArray, List.set_cons_zero, List.set_cons_succ])
        refine wpAnyH_ready (rs := [16, 17]) (by kernel_rfl) (by simp) ?_
        refine anyH_one rfl (fun K hK => ?_) ?_
        · go_simp
          refine (from_any HOa.out.wk.mem (by decide) (HOa.out.wk.no0 hz) HOa.out.sh l s (nearF n) W U X true HSW.out (near_w n)).mono ?_
          rw [HE.out]
          rintro e w8 ⟨v8, G8, rfl, hW8, hS8, hn8, hsh8⟩
          obtain ⟨A8, c8, rfl⟩ := hS8.form
          refine hK.out _ _ (rego_turn hHeld hW8.turn HOa.out.scn.nb HNad.out HOa.out.nr) (fun hHeld => ?_)
          clear hK K
          (try simp only [Act.put, List.setIfInBounds_toArray, List.set_cons_zero, List.set_cons_succ])
          have hR8 := hHeld
          refine wpAnyH_ready (rs := [17]) (by kernel_rfl) (by simp) ?_
          refine anyH_one rfl (fun K hK => ?_) ?_
          · go_simp
            refine hK.out _ _ (rego_turn hHeld (Turn.alloc (fun _ => False) _ _) (fun h => h) (fun h => h) (fun h => h)) (fun hHeld => ?_)
            clear hK K
            (try simp only [Act.put, List.setIfInBounds_toArray, List.set_cons_zero, List.set_cons_succ])
            refine wpAnyH_ready (rs := [18]) (by kernel_rfl) (by simp) ?_
            refine anyH_one rfl (fun K hK => ?_) ?_
            · go_simp
              refine hK.out _ _ (rego_turn hR8 (Turn.alloc (fun _ => False) _ _) (fun h => h) (fun h => h) (fun h => h)) (fun hHeld => ?_)
              clear hK K
              (try simp only [Act.put, List.setIfInBounds_toArray, List.set_cons_zero, List.set_cons_succ])
              refine wpAnyH_done (by kernel_rfl) ?_ _
              have HFin := Lib.hid (fin_after HOa.out hW8 hS8)
              generalize w8.alloc _ = wz at HFin ⊢
              generalize w8.heap.size = qb at HFin ⊢
              clear hHeld hW8 hS8 hn8 hsh8 hR8 HOa
              obtain ⟨d, hd⟩ : ∃ d, (dropP j P).steps.length = d := ⟨_, rfl⟩
              have hdL : d = L - j := by rw [← hd]; exact HX.out.2
              rw [hd] at HFin ⊢
              obtain ⟨p0, p1, p2, p3, p4, p5, p6⟩ := HFin.out.boxP.seven
              obtain ⟨z0, z1, z2, z3, z4, z5, z6⟩ : wz.cell? ⟨qb, 0, none⟩ = some (.slice A8 d c8) ∧ wz.cell? ⟨qb, 1, none⟩ = some (.int .i64 P.why) ∧ wz.cell? ⟨qb, 2, none⟩ = some (.bool P.W) ∧ wz.cell? ⟨qb, 3, none⟩ = some (.bool P.U) ∧ wz.cell? ⟨qb, 4, none⟩ = some (.bool P.X) ∧ wz.cell? ⟨qb, 5, none⟩ = some (.int .i64 P.lev) ∧ wz.cell? ⟨qb, 6, none⟩ = some (.int .u64 P.fr) := HFin.out.boxQ.seven
              obtain ⟨A9, c9, hv9, hc9⟩ := HFin.out.stepsQ
              obtain ⟨ad8, hA8, g0, g1, g2⟩ := hc9 0 (by rw [hd]; omega)
              obtain ⟨rfl, _⟩ : A8 = A9 ∧ True := by simp at hv9; exact ⟨hv9.1, trivial⟩
              subst hA8
              rw [show (dropP j P).steps.getD 0 (0, 0, 0) = (l, s, x) from HX.out.1.trans HXs.out] at g0 g1 g2
              obtain ⟨A7, c7, hv7, hc7⟩ := HFin.out.stepsP
              obtain ⟨ad7, hA7, d0, d1, d2⟩ := hc7 j (by rw [HL.out]; omega)
              obtain ⟨rfl, _⟩ : ad = ad7 ∧ True := by simp at hv7; rw [← hv7.1] at hA7; exact ⟨by simpa using hA7, trivial⟩
              rw [show P.steps.getD j (0, 0, 0) = (l, s, x) from HXs.out] at d0 d1 d2
              have k0 : wz.cell? ad8 = some (.int .i64 l) := by simpa [Addr.add] using g0
              have k1 : wz.cell? ⟨ad8.block, ad8.off + 1, none⟩ = some (.int .u64 s) := by simpa [Addr.add] using g1
              have k2 : wz.cell? ⟨ad8.block, ad8.off + 2, none⟩ = some (.int .u64 x) := by simpa [Addr.add] using g2
              have m1 : wz.cell? ⟨(ad.add (j * 3)).block, (ad.add (j * 3)).off + 1, none⟩ = some (.int .u64 s) := d1
              have m2 : wz.cell? ⟨(ad.add (j * 3)).block, (ad.add (j * 3)).off + 2, none⟩ = some (.int .u64 x) := d2
              have ed : IntKind.i64.wrap ((L : Int) - (j : Int)) = (d : Int) := by rw [i64_wrap (by omega) (by omega)]; omega
              have ed2 : ((d : Int) == 0) = false := by simp; omega
              have ed3 : 0 < d := by omega
              have hbz := Lib.hid HFin.out.below
              clear hv9 hc9 hv7 hc7 hA7 g0 g1 g2 d1 d2 HX HXs HFin hd hdL HE
              go_wp2
              go_quiet (fail)
              go_wp2
              go_ret
              exact ⟨rfl, hbz.out.trans (drewN_below' _ _)⟩
            exact AllReadyH.nil
          exact AllReadyH.nil
        refine anyH_one rfl (fun K hK => ?_) ?_
        · go_simp
          refine hK.out _ _ (rego_turn hHeld (Turn.alloc (fun _ => False) _ _) (fun h => h) (fun h => h) (fun h => h)) (fun hHeld => ?_)
          clear hK K
          (try simp only [Act.put, List.setIfInBounds_toArray, List.set_cons_zero, List.set_cons_succ])
          have HNq : Hid (¬ G wa.heap.size) := Lib.hid (fun hg => by have := (HOa.out.wk.foot _ hg).1; omega)
          have HO1 := Lib.hid (HOa.out.quiet (below_alloc1 wa (.cells zeroP 38)))
          refine wpAnyH_ready (rs := [16]) (by kernel_rfl) (by simp) ?_
          refine anyH_one rfl (fun K hK => ?_) ?_
          · go_simp
            refine (from_any HO1.out.wk.mem (by decide) (HOa.out.wk.no0 hz) HO1.out.sh l s (nearF n) W U X true HSW.out (near_w n)).mono ?_
            rw [HE.out]
            rintro e w8 ⟨v8, G8, rfl, hW8, hS8, hn8, hsh8⟩
            obtain ⟨A8, c8, rfl⟩ := hS8.form
            have HQ8 := Lib.hid (blk_before hW8 HNq.out)
            obtain ⟨z0, z1, z2, z3, z4, z5, z6⟩ := HQ8.out.seven
            have y0 := HQ8.out.fz 0
            have y1 := HQ8.out.fz 1
            have y2 := HQ8.out.fz 2
            have y3 := HQ8.out.fz 3
            have y4 := HQ8.out.fz 4
            have y5 := HQ8.out.fz 5
            have y6 := HQ8.out.fz 6
            refine hK.out _ _ (rego_turn hHeld hW8.turn HOa.out.scn.nb HNad.out HOa.out.nr) (fun hHeld => ?_)
            clear hK K
            (try simp only [Act.put, List.setIfInBounds_toArray, List.set_cons_zero, List.set_cons_succ])
            refine wpAnyH_ready (rs := [18]) (by kernel_rfl) (by simp) ?_
            refine anyH_one rfl (fun K hK => ?_) ?_
            · go_simp
              refine hK.out _ _ (rego_turn hHeld (turn7 _ _ _ _ _ _ _ _ _) (fun e => by have := HOa.out.scn.box.lt; omega) (fun e => by have := HNl.out; omega) (fun e => by have := HOa.out.rgt.lt; omega)) (fun hHeld => ?_)
              clear hK K
              (try simp only [Act.put, List.setIfInBounds_toArray, List.set_cons_zero, List.set_cons_succ])
              refine wpAnyH_done (by kernel_rfl) ?_ _
              have HFin := Lib.hid (fin_before HOa.out hW8 hS8 (turn7 w8 wa.heap.size (.slice A8 (dropP j P).steps.length c8) (.int .i64 (dropP j P).why) (.bool (dropP j P).W) (.bool (dropP j P).U) (.bool (dropP j P).X) (.int .i64 (dropP j P).lev) (.int .u64 (dropP j P).fr)) (HQ8.out.set7 _ _ _ _ _ _ _))
              generalize (((((((w8.setCell _ _).setCell _ _).setCell _ _).setCell _ _).setCell _ _).setCell _ _).setCell _ _) = wz at HFin ⊢
              generalize wa.heap.size = qb at HFin ⊢
              clear hHeld hW8 hS8 hn8 hsh8 HQ8 HO1 HOa z0 z1 z2 z3 z4 z5 z6 y0 y1 y2 y3 y4 y5 y6
              obtain ⟨d, hd⟩ : ∃ d, (dropP j P).steps.length = d := ⟨_, rfl⟩
              have hdL : d = L - j := by rw [← hd]; exact HX.out.2
              rw [hd] at HFin ⊢
              obtain ⟨p0, p1, p2, p3, p4, p5, p6⟩ := HFin.out.boxP.seven
              obtain ⟨z0, z1, z2, z3, z4, z5, z6⟩ : wz.cell? ⟨qb, 0, none⟩ = some (.slice A8 d c8) ∧ wz.cell? ⟨qb, 1, none⟩ = some (.int .i64 P.why) ∧ wz.cell? ⟨qb, 2, none⟩ = some (.bool P.W) ∧ wz.cell? ⟨qb, 3, none⟩ = some (.bool P.U) ∧ wz.cell? ⟨qb, 4, none⟩ = some (.bool P.X) ∧ wz.cell? ⟨qb, 5, none⟩ = some (.int .i64 P.lev) ∧ wz.cell? ⟨qb, 6, none⟩ = some (.int .u64 P.fr) := HFin.out.boxQ.seven
              obtain ⟨A9, c9, hv9, hc9⟩ := HFin.out.stepsQ
              obtain ⟨ad8, hA8, g0, g1, g2⟩ := hc9 0 (by rw [hd]; omega)
              obtain ⟨rfl, _⟩ : A8 = A9 ∧ True := by simp at hv9; exact ⟨hv9.1, trivial⟩
              subst hA8
              rw [show (dropP j P).steps.getD 0 (0, 0, 0) = (l, s, x) from HX.out.1.trans HXs.out] at g0 g1 g2
              obtain ⟨A7, c7, hv7, hc7⟩ := HFin.out.stepsP
              obtain ⟨ad7, hA7, d0, d1, d2⟩ := hc7 j (by rw [HL.out]; omega)
              obtain ⟨rfl, _⟩ : ad = ad7 ∧ True := by simp at hv7; rw [← hv7.1] at hA7; exact ⟨by simpa using hA7, trivial⟩
              rw [show P.steps.getD j (0, 0, 0) = (l, s, x) from HXs.out] at d0 d1 d2
              have k0 : wz.cell? ad8 = some (.int .i64 l) := by simpa [Addr.add] using g0
              have k1 : wz.cell? ⟨ad8.block, ad8.off + 1, none⟩ = some (.int .u64 s) := by simpa [Addr.add] using g1
              have k2 : wz.cell? ⟨ad8.block, ad8.off + 2, none⟩ = some (.int .u64 x) := by simpa [Addr.add] using g2
              have m1 : wz.cell? ⟨(ad.add (j * 3)).block, (ad.add (j * 3)).off + 1, none⟩ = some (.int .u64 s) := d1
              have m2 : wz.cell? ⟨(ad.add (j * 3)).block, (ad.add (j * 3)).off + 2, none⟩ = some (.int .u64 x) := d2
              have ed : IntKind.i64.wrap ((L : Int) - (j : Int)) = (d : Int) := by rw [i64_wrap (by omega) (by omega)]; omega
              have ed2 : ((d : Int) == 0) = false := by simp; omega
              have ed3 : 0 < d := by omega
              have hbz := Lib.hid HFin.out.below
              clear hv9 hc9 hv7 hc7 hA7 g0 g1 g2 d1 d2 HX HXs HFin hd hdL HE
              go_wp2
              go_quiet (fail)
              go_wp2
              go_ret
              exact ⟨rfl, hbz.out.trans (drewN_below' _ _)⟩
            exact AllReadyH.nil
          exact AllReadyH.nil
        exact AllReadyH.nil

end Go.Proofs.YtlpjbmlkpmhdlaaDoor
