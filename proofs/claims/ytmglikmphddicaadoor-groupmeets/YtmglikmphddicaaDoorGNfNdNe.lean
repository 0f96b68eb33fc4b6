/- Several texts of ours in one: Nf, Nd, Ne. -/
import Derived.Test.YtmglikmphddicaaDoorGErEtNc
/- Layer 12: Slots, the program's and the document's. -/
namespace Go.Proofs.YtmglikmphddicaaDoor
set_option linter.unusedVariables false
set_option linter.unusedSimpArgs false
open Go.ChangeShapes Go.WideShapes Go.ChangeAt Go.RowKit Go.Joins

/-- an array of eight words, the first k of them laid -/
def v8 (f : Int → Int) (k j : Nat) : Value := .int .u64 (if j < k then f j else 0)
abbrev vecC (f : Int → Int) (k : Nat) : Array Value := #[v8 f k 0, v8 f k 1, v8 f k 2, v8 f k 3, v8 f k 4, v8 f k 5, v8 f k 6, v8 f k 7]
abbrev slotsC (s : Int) : Array Value := #[.int .u64 (sltF s 0), .int .u64 (sltF s 1), .int .u64 (sltF s 2), .int .u64 (sltF s 3), .int .u64 (sltF s 4), .int .u64 (sltF s 5), .int .u64 (sltF s 6), .int .u64 (sltF s 7)]
abbrev zero8 : Array Value := #[.int .u64 0, .int .u64 0, .int .u64 0, .int .u64 0, .int .u64 0, .int .u64 0, .int .u64 0, .int .u64 0]
theorem vec_full (s : Int) : vecC (sltF s) 8 = slotsC s := rfl
theorem vec_put (f : Int → Int) {k : Nat} (hk : k < 8) : (vecC f k).setIfInBounds k (.int .u64 (f k)) = vecC f (k + 1) := by
  match k, hk with
  | 0, _ => rfl
  | 1, _ => rfl
  | 2, _ => rfl
  | 3, _ => rfl
  | 4, _ => rfl
  | 5, _ => rfl
  | 6, _ => rfl
  | 7, _ => rfl
theorem Mine.vec {w wr w3 : World} {bs : List BoxD} {rs : List RowD} {b k : Nat} {t : TypeId} {f : Int → Int} (h : Mine w wr bs rs) (j : Nat) (hj : bs[j]? = some ⟨b, vecC f k, t⟩) (hk : k < 8) (hq : wr.setCell ⟨b, k, none⟩ (.int .u64 (f k)) = w3) (hr : rs.all (fun r => r.e != t) = true := by rfl) : Mine w w3 (bs.set j ⟨b, vecC f (k + 1), t⟩) rs := by
  subst hq
  refine h.put j hj (turn1 _ _ _ _) ?_ hr
  rw [← vec_put f hk]
  exact (h.at_ j hj).set1 k _
theorem Blk.word8 {w : World} {b : Nat} {t : TypeId} {x0 x1 x2 x3 x4 x5 x6 x7 : Value} (h : Blk w b #[x0, x1, x2, x3, x4, x5, x6, x7] t) : w.cell? ⟨b, 0, none⟩ = some x0 ∧ w.cell? ⟨b, 1, none⟩ = some x1 ∧ w.cell? ⟨b, 2, none⟩ = some x2 ∧ w.cell? ⟨b, 3, none⟩ = some x3 ∧ w.cell? ⟨b, 4, none⟩ = some x4 ∧ w.cell? ⟨b, 5, none⟩ = some x5 ∧ w.cell? ⟨b, 6, none⟩ = some x6 ∧ w.cell? ⟨b, 7, none⟩ = some x7 :=
  ⟨(cell_of_block h 0).trans rfl, (cell_of_block h 1).trans rfl, (cell_of_block h 2).trans rfl, (cell_of_block h 3).trans rfl, (cell_of_block h 4).trans rfl, (cell_of_block h 5).trans rfl, (cell_of_block h 6).trans rfl, (cell_of_block h 7).trans rfl⟩
theorem cell_vec {w : World} {b k : Nat} {f : Int → Int} {n : Nat} {t : TypeId} (h : Blk w b (vecC f n) t) (hk : k < 8) : w.cell? ⟨b, k, none⟩ = some (v8 f n k) := by
  refine (cell_of_block h k).trans ?_
  match k, hk with
  | 0, _ => rfl
  | 1, _ => rfl
  | 2, _ => rfl
  | 3, _ => rfl
  | 4, _ => rfl
  | 5, _ => rfl
  | 6, _ => rfl
  | 7, _ => rfl

theorem slt_sum {s i : Int} (hs : W64 s) (h0 : 0 ≤ i) (h7 : i ≤ 7) : IntKind.u64.wrap (IntKind.u64.wrap (s - s % 64) + 8 * i) = sltF s i := by
  obtain ⟨a, b⟩ := hs
  unfold sltF
  rw [IntKind.wrap_u64, IntKind.wrap_u64]
  omega

set_option maxRecDepth 100000 in
theorem slots_any (s : Int) (w : World) (hs : W64 s) :
    Calls Tryd.prog 18 #[.int .u64 s] w fun e w' => e = .returned (.agg (slotsC s)) ∧ Below w.heap.size w w' := by
  have e1 : s.tmod 64 = s % 64 := Int.tmod_eq_emod_of_nonneg hs.1
  have HC := Lib.hid fun (k : Nat) (hk : k < 8) => slt_sum hs (i := k) (by omega) (by omega)
  have H0 := Lib.hid (((Mine.start w).new (b := w.heap.size) rfl zero8 23).new (b := w.heap.size + 1) (by simp) (vecC (sltF s) 0) 23)
  clear hs
  go_enter Tryd.func18, Tryd.ntmps18
  go_upto_region 2 with fail
  generalize hw0 : (w.alloc _).alloc _ = w0
  have H1 := Lib.hid (H0.out.world hw0)
  clear hw0 H0
  go_wp2
  generalize hg : IntKind.u64.wrap (s - s % 64) = g at HC ⊢
  clear hg e1
  go_loopw [10] (fun i wr => ∃ k : Nat, k ≤ 8 ∧ i = .int .i64 k ∧ Hid (Mine w wr [⟨w.heap.size + 1, vecC (sltF s) k, 23⟩, ⟨w.heap.size, zero8, 23⟩] [])) (fun i _ => (8 - intOf i).toNat)
  case atStart => exact ⟨0, by omega, rfl, H1⟩
  case round =>
    obtain ⟨k, hk, rfl, HR⟩ := hrel
    clear H1
    by_cases hlt : k < 8
    · have fz := (HR.out.at_ 0 rfl).fz k
      have hc := cell_vec (HR.out.at_ 0 rfl) hlt
      have hv := HC.out k hlt
      go_wp2
      generalize hw4 : wr.setCell _ _ = w4
      have H4 := Lib.hid (HR.out.vec 0 rfl hlt hw4)
      clear hw4 HR fz hc hv
      go_roundw
      case rel => exact ⟨k + 1, by omega, by go_num, H4⟩
      case measure => simp [intOf]; omega
    · obtain rfl : k = 8 := by omega
      rw [vec_full] at HR
      obtain ⟨c0, c1, c2, c3, c4, c5, c6, c7⟩ := (HR.out.at_ 0 rfl).word8
      obtain ⟨q0, q1, q2, q3, q4, q5, q6, q7⟩ := (HR.out.at_ 1 rfl).word8
      have f0 := (HR.out.at_ 1 rfl).fz 0; have f1 := (HR.out.at_ 1 rfl).fz 1; have f2 := (HR.out.at_ 1 rfl).fz 2; have f3 := (HR.out.at_ 1 rfl).fz 3; have f4 := (HR.out.at_ 1 rfl).fz 4; have f5 := (HR.out.at_ 1 rfl).fz 5; have f6 := (HR.out.at_ 1 rfl).fz 6; have f7 := (HR.out.at_ 1 rfl).fz 7
      go_wp2
      have H4 := HR.out.put8 1 rfl (y0 := .int .u64 (sltF s 0)) (y1 := .int .u64 (sltF s 1)) (y2 := .int .u64 (sltF s 2)) (y3 := .int .u64 (sltF s 3)) (y4 := .int .u64 (sltF s 4)) (y5 := .int .u64 (sltF s 5)) (y6 := .int .u64 (sltF s 6)) (y7 := .int .u64 (sltF s 7)) rfl
      exact bodyPost_ret (results_cell_row rfl _ _ w.heap.size _ _ _ _ rfl (H4.at_ 1 rfl) Tryd.underlying23 rfl rfl) rfl ⟨rfl, H4.below⟩

set_option maxRecDepth 100000 in
theorem rslots_any (s : Int) (w : World) (hs : W64 s) :
    Calls Tryd.prog 19 #[.int .u64 s] w fun e w' => e = .returned (.agg (slotsC s)) ∧ Below w.heap.size w w' := by
  have e1 : s.tmod 64 = s % 64 := Int.tmod_eq_emod_of_nonneg hs.1
  have HC := Lib.hid fun (k : Nat) (hk : k < 8) => slt_sum hs (i := k) (by omega) (by omega)
  have H0 := Lib.hid (((Mine.start w).new (b := w.heap.size) rfl zero8 23).new (b := w.heap.size + 1) (by simp) (vecC (sltF s) 0) 23)
  go_enter Tryd.func19, Tryd.ntmps19
  go_upto_region 2 with fail
  generalize hw0 : (w.alloc _).alloc _ = w0
  have H1 := Lib.hid (H0.out.world hw0)
  clear hw0 H0
  go_wp2
  go_loopw [4] (fun i wr => ∃ k : Nat, k ≤ 8 ∧ i = .int .i64 k ∧ Hid (Mine w wr [⟨w.heap.size + 1, vecC (sltF s) k, 23⟩, ⟨w.heap.size, zero8, 23⟩] [])) (fun i _ => (8 - intOf i).toNat)
  case atStart => exact ⟨0, by omega, rfl, H1⟩
  case round =>
    obtain ⟨k, hk, rfl, HR⟩ := hrel
    clear H1
    by_cases hlt : k < 8
    · have fz := (HR.out.at_ 0 rfl).fz k
      have hc := cell_vec (HR.out.at_ 0 rfl) hlt
      have hv := HC.out k hlt
      go_wp2
      generalize hw4 : wr.setCell _ _ = w4
      have H4 := Lib.hid (HR.out.vec 0 rfl hlt hw4)
      clear hw4 HR fz hc hv
      go_roundw
      case rel => exact ⟨k + 1, by omega, by go_num, H4⟩
      case measure => simp [intOf]; omega
    · obtain rfl : k = 8 := by omega
      rw [vec_full] at HR
      obtain ⟨c0, c1, c2, c3, c4, c5, c6, c7⟩ := (HR.out.at_ 0 rfl).word8
      obtain ⟨q0, q1, q2, q3, q4, q5, q6, q7⟩ := (HR.out.at_ 1 rfl).word8
      have f0 := (HR.out.at_ 1 rfl).fz 0; have f1 := (HR.out.at_ 1 rfl).fz 1; have f2 := (HR.out.at_ 1 rfl).fz 2; have f3 := (HR.out.at_ 1 rfl).fz 3; have f4 := (HR.out.at_ 1 rfl).fz 4; have f5 := (HR.out.at_ 1 rfl).fz 5; have f6 := (HR.out.at_ 1 rfl).fz 6; have f7 := (HR.out.at_ 1 rfl).fz 7
      go_wp2
      have H4 := HR.out.put8 1 rfl (y0 := .int .u64 (sltF s 0)) (y1 := .int .u64 (sltF s 1)) (y2 := .int .u64 (sltF s 2)) (y3 := .int .u64 (sltF s 3)) (y4 := .int .u64 (sltF s 4)) (y5 := .int .u64 (sltF s 5)) (y6 := .int .u64 (sltF s 6)) (y7 := .int .u64 (sltF s 7)) rfl
      exact bodyPost_ret (results_cell_row rfl _ _ w.heap.size _ _ _ _ rfl (H4.at_ 1 rfl) Tryd.underlying23 rfl rfl) rfl ⟨rfl, H4.below⟩
end Go.Proofs.YtmglikmphddicaaDoor
/- Package group: together. -/
namespace Go.Proofs.YtmglikmphddicaaDoor
set_option linter.unusedVariables false
set_option linter.unusedSimpArgs false
open Go.ChangeShapes Go.WideShapes Go.ChangeAt Go.RowKit Go.Joins

theorem bit5_and (x : Int) : (bits .and .u64 x 32 != 0) = bitF x 5 := has_b5 x
theorem seen_word {w : World} {g : Nat} {s : Sn} {t : TypeId} (h : Blk w g (seenC s) t) {i : Int} (h0 : 0 ≤ i) (h7 : i ≤ 7) : w.cell? ⟨g, i.toNat, none⟩ = some (.int .u64 (thW s.X i)) := by
  obtain ⟨k, rfl⟩ := eight_of h0 h7
  rw [show ((k.val : Int)).toNat = k.val by simp]
  refine (cell_of_block h k.val).trans ?_
  match k with
  | ⟨0, _⟩ => rfl
  | ⟨1, _⟩ => rfl
  | ⟨2, _⟩ => rfl
  | ⟨3, _⟩ => rfl
  | ⟨4, _⟩ => rfl
  | ⟨5, _⟩ => rfl
  | ⟨6, _⟩ => rfl
  | ⟨7, _⟩ => rfl
  | ⟨k + 8, h⟩ => exact absurd h (by omega)

theorem tog_any (s : Sn) (i : Int) (w : World) (hs : OkS s) (a0 : 0 ≤ s.a) (a7 : s.a ≤ 7) (i0 : 0 ≤ i) (i7 : i ≤ 7) :
    Calls Tryd.prog 29 #[seenV s, .int .u64 (frmF (tableF (thW s.X s.a)) (-s.a)), .int .i64 i] w fun e w' => e = .returned (.bool (togF s.X s.a s.b s.n i)) ∧ Below w.heap.size w w' := by
  obtain ⟨f, hf⟩ : ∃ f, frmF (tableF (thW s.X s.a)) (-s.a) = f := ⟨_, rfl⟩
  rw [hf]
  have H0 := Lib.hid ((Mine.start w).new (b := w.heap.size) rfl (seenC s) 27)
  by_cases c : i = s.a
  · have e : togF s.X s.a s.b s.n i = true := by unfold togF; simp [c]
    rw [e]
    have c' : (i == s.a) = true := by simp [c]
    clear e c hf
    go_enter Tryd.func29, Tryd.ntmps29
    go_upto_region 1 with fail
    generalize hw0 : w.alloc _ = w0
    have H1 := Lib.hid (H0.out.world hw0)
    clear hw0 H0
    have r8 := (cell_of_block (H1.out.at_ 0 rfl) 8).trans (show (seenC s)[8]? = some (.int .i64 s.a) from rfl)
    go_wp2
    go_ret
    exact ⟨rfl, H1.out.below⟩
  · have c' : (i == s.a) = false := by simp [c]
    have e : togF s.X s.a s.b s.n i = withW s.X s.a s.b s.n i := by unfold togF; simp [c]
    rw [e]
    clear e c
    unfold withW
    rw [hf]
    have A := alike_and (hs.at_ i) (hs.at_ s.a)
    have B := bit5_and (thW s.X i)
    have hx := hs.at_ i
    have hb := hs.hb
    obtain ⟨xi, hxi⟩ : ∃ x, thW s.X i = x := ⟨_, rfl⟩
    obtain ⟨xa, hxa⟩ : ∃ x, thW s.X s.a = x := ⟨_, rfl⟩
    rw [hxi, hxa]
    rw [hxi, hxa] at A
    rw [hxi] at B hx
    have H5 := Lib.hid hxi
    have H6 := Lib.hid hxa
    clear hxi hxa
    obtain ⟨m, hm⟩ : ∃ m, mapW xi s.b s.n = m := ⟨_, rfl⟩
    rw [hm]
    have HM := Lib.hid hm
    clear hm hf
    generalize bitF xi 5 = b5 at *
    generalize alikeF xi xa = al at *
    have HA := Lib.hid A
    have HB := Lib.hid B
    clear A B
    go_enter Tryd.func29, Tryd.ntmps29
    go_upto_region 1 with fail
    generalize hw0 : w.alloc _ = w0
    have H1 := Lib.hid (H0.out.world hw0)
    clear hw0 H0
    have r8 := (cell_of_block (H1.out.at_ 0 rfl) 8).trans (show (seenC s)[8]? = some (.int .i64 s.a) from rfl)
    go_upto_region 3 with fail
    have ri := seen_word (H1.out.at_ 0 rfl) i0 i7
    have ra := seen_word (H1.out.at_ 0 rfl) a0 a7
    rw [H5.out] at ri
    rw [H6.out] at ra
    go_quiet (fail)
    generalize hw1 : w0.drewN _ = w1
    have H2 := Lib.hid ((H1.out.quiet (below_drewN (Below.refl _ _) _)).world hw1)
    clear hw1 H1 ri ra r8
    obtain ⟨c0, c1, c2, c3, c4, c5, c6, c7, c8, c9, c10, c11, c12, c13⟩ := (H2.out.at_ 0 rfl).seen
    have A := HA.out
    have B := HB.out
    have HT := tableF xi
    cases m
    · go_wp2_with (go_at_call 26; refine (mapped_any s _ _ hb).mono ?_; rintro e w2 ⟨rfl, hb2⟩; rw [HM.out]; have H3 := Lib.hid (H2.out.quiet hb2); clear hb2 H2)
      go_ret
      exact ⟨rfl, H3.out.below⟩
    · cases b5
      · go_wp2_with (go_at_call 26; refine (mapped_any s _ _ hb).mono ?_; rintro e w2 ⟨rfl, hb2⟩; rw [HM.out]; have H3 := Lib.hid (H2.out.quiet hb2); clear hb2 H2)
        go_ret
        exact ⟨rfl, H3.out.below⟩
      · cases al
        · go_wp2_with (go_at_call 26; refine (mapped_any s _ _ hb).mono ?_; rintro e w2 ⟨rfl, hb2⟩; rw [HM.out]; have H3 := Lib.hid (H2.out.quiet hb2); clear hb2 H2)
          go_ret
          exact ⟨rfl, H3.out.below⟩
        · go_wp2_with (first | (go_at_call 26; refine (mapped_any s _ _ hb).mono ?_; rintro e w2 ⟨rfl, hb2⟩; rw [HM.out]; have H3 := Lib.hid (H2.out.quiet hb2); clear hb2 H2) | (go_at_call 28; refine (table_any _ _ hx).mono ?_; rintro e w' ⟨rfl, rfl⟩) | (go_at_call 27; refine (gframe_any _ _ _).mono ?_; rintro e w' ⟨rfl, rfl⟩))
          go_ret
          exact ⟨rfl, H3.out.below⟩
end Go.Proofs.YtmglikmphddicaaDoor
/- Package group: Run. (Laid by tools/gen_ne.py.) -/
namespace Go.Proofs.YtmglikmphddicaaDoor
set_option linter.unusedVariables false
set_option linter.unusedSimpArgs false
open Go.ChangeShapes Go.WideShapes Go.ChangeAt Go.RowKit Go.Joins

theorem callsB {P : Program} {f : FuncId} {args : Array Value} {w : World} {v : Value} (h : Calls P f args w fun e w' => e = .returned v ∧ w = w') : Calls P f args w fun e w' => e = .returned v ∧ Below w.heap.size w w' :=
  h.mono fun _ _ ⟨he, hw⟩ => ⟨he, hw ▸ Below.refl _ _⟩
theorem bit6_and (x : Int) : (bits .and .u64 x 64 != 0) = bitF x 6 := has_b6 x
theorem bit8_out {i : Int} (h : ¬ (0 ≤ i ∧ i ≤ 7)) : bit8 i = 0 := by unfold bit8; rw [if_neg h]
theorem bit8_in {i : Int} (h0 : 0 ≤ i) (h7 : i ≤ 7) : (bit8 i == 0) = false := by
  obtain ⟨k, rfl⟩ := eight_of h0 h7
  have : ∀ k : Fin 8, (bit8 (k.val : Int) == 0) = false := by decide +kernel
  exact this k
theorem gbit_none (i : Int) (w : World) (hp : PagesT w) (h : bit8 i = 0) : Calls Tryd.prog 25 #[.int .i64 i] w fun e w' => e = .returned (.int .u8 0) ∧ w = w' := by
  have := gbit_any i w hp; rwa [h] at this
theorem okRun_out {X : List Int} {a b : Int} {n : Bool} (h : ¬ (0 ≤ a ∧ a ≤ 7)) : okRun X a b n = false := by unfold okRun; rw [decide_eq_false h]; rfl
theorem okRun_in {X : List Int} {a b : Int} {n : Bool} (h0 : 0 ≤ a) (h7 : a ≤ 7) : okRun X a b n = mapW (thW X a) b n := by unfold okRun; simp [h0, h7]

/-- what Run answers -/
abbrev RunPost (s : Sn) (w : World) : Ending → World → Prop := fun e w' => e = .returned (lineV (runF s.X s.a s.b s.n s.W s.U s.Y)) ∧ Below w.heap.size w w'

set_option maxRecDepth 100000 in
theorem run_none (s : Sn) (w : World) (hp : PagesT w) (h : ¬ (0 ≤ s.a ∧ s.a ≤ 7)) : Calls Tryd.prog 11 #[seenV s] w (RunPost s w) := by
  unfold RunPost
  rw [run_no (okRun_out h)]
  have HT := Lib.hid hp
  have HP := bit8_out h
  have H0 := Lib.hid (((Mine.start w).new (b := w.heap.size) rfl (seenC s) 27).new (b := w.heap.size + 1) (by simp) zeroC 34)
  clear hp h
  go_enter Tryd.func11, Tryd.ntmps11
  go_upto_region 1 with fail
  generalize hw0 : (w.alloc _).alloc _ = w0
  have H1 := Lib.hid (H0.out.world hw0)
  clear hw0 H0
  have r8 := (cell_of_block (H1.out.at_ 1 rfl) 8).trans (show (seenC s)[8]? = some (.int .i64 s.a) from rfl)
  have hpt := pages_keep HT.out H1.out.below (Nat.le_refl _)
  go_quiet (first | (go_at_call 25; exact quietOf (gbit_none _ _ hpt HP)))
  generalize hw1 : w0.drewN _ = w1
  have H2 := Lib.hid ((H1.out.quiet (below_drewN (Below.refl _ _) _)).world hw1)
  clear hw1 H1 r8 hpt
  have f0 := (H2.out.at_ 0 rfl).fz 0; have f1 := (H2.out.at_ 0 rfl).fz 1; have f2 := (H2.out.at_ 0 rfl).fz 2; have f3 := (H2.out.at_ 0 rfl).fz 3; have f4 := (H2.out.at_ 0 rfl).fz 4; have f5 := (H2.out.at_ 0 rfl).fz 5
  obtain ⟨q0, q1, q2, q3, q4, q5⟩ := (H2.out.at_ 0 rfl).line6
  go_wp2
  have H4 := H2.out.put6 0 rfl (y0 := .int .u64 0) (y1 := .bool false) (y2 := .bool false) (y3 := .bool false) (y4 := .bool false) (y5 := .int .u8 0) rfl
  exact bodyPost_ret (results_cell_row rfl _ _ (w.heap.size + 1) _ _ _ _ rfl (H4.at_ 0 rfl) Tryd.underlying34 rfl rfl) rfl ⟨rfl, H4.below⟩

set_option maxRecDepth 100000 in
set_option maxHeartbeats 3200000 in
theorem run_bare (s : Sn) (w : World) (hs : OkS s) (hp : PagesT w) (a0 : 0 ≤ s.a) (a7 : s.a ≤ 7) (hm : mapW (thW s.X s.a) s.b s.n = false) : Calls Tryd.prog 11 #[seenV s] w (RunPost s w) := by
  unfold RunPost
  rw [run_no ((okRun_in a0 a7).trans hm)]
  have HT := Lib.hid hp
  have HS := Lib.hid hs
  have hb := hs.hb
  have hx := hs.at_ s.a
  have a8 : s.a < 8 := by omega
  have hp0 := bit8_in a0 a7
  obtain ⟨p, hpp⟩ : ∃ p, bit8 s.a = p := ⟨_, rfl⟩
  rw [hpp] at hp0
  have HP := Lib.hid hpp
  obtain ⟨xa, hxa⟩ : ∃ x, thW s.X s.a = x := ⟨_, rfl⟩
  rw [hxa] at hx hm
  have HX := Lib.hid hxa
  have HM := Lib.hid hm
  have H0 := Lib.hid (((Mine.start w).new (b := w.heap.size) rfl (seenC s) 27).new (b := w.heap.size + 1) (by simp) zeroC 34)
  clear hp hpp hm hs
  go_enter Tryd.func11, Tryd.ntmps11
  go_upto_region 1 with fail
  generalize hw0 : (w.alloc _).alloc _ = w0
  have H1 := Lib.hid (H0.out.world hw0)
  clear hw0 H0
  refine wp_region_held_drew (S := fun w' => Mine w w' [⟨w.heap.size + 1, zeroC, 34⟩, ⟨w.heap.size, seenC s, 27⟩] []) (by kernel_rfl) (H1.out.quiet (Kept.drew0 _)) (fun hHeld => ?_)
  have H2 := Lib.hid (H1.out.quiet (Kept.drew0 _))
  clear H1
  generalize w0.drew = w2 at *
  refine tk (v := ?_) 0 ?_ ?_
  rotate_left
  · intro w hSw
    go_simp
    (try with_reducible rfl)
  (try simp only [Act.put, List.setIfInBounds_toArray, List.set_cons_zero, List.set_cons_succ])
  refine tk (v := ?_) 1 ?_ ?_
  rotate_left
  · intro w hSw
    have r8 := (cell_of_block (hSw.at_ 1 rfl) 8).trans (show (seenC s)[8]? = some (.int .i64 s.a) from rfl)
    go_simp
    (try with_reducible rfl)
  (try simp only [Act.put, List.setIfInBounds_toArray, List.set_cons_zero, List.set_cons_succ])
  refine wpAnyH_ready (rs := [2]) (by kernel_rfl) (by simp) ?_
  refine anyH_one rfl (fun K hK => ?_) ?_
  · go_simp
    refine (callsB (gbit_any _ _ (pages_keep HT.out H2.out.below (Nat.le_refl _)))).mono ?_
    rw [HP.out]
    rintro e w3 ⟨rfl, hB3⟩
    have H3 := Lib.hid (H2.out.quiet hB3)
    clear H2
    refine hK.out _ _ (H3.out.pick [0, 1] []) (fun hHeld => ?_)
    clear hK K
    (try simp only [Act.put, List.setIfInBounds_toArray, List.set_cons_zero, List.set_cons_succ])
    refine tk (v := ?_) 3 ?_ ?_
    rotate_left
    · intro w hSw
      go_simp
      (try with_reducible rfl)
    (try simp only [Act.put, List.setIfInBounds_toArray, List.set_cons_zero, List.set_cons_succ])
    refine tk (v := ?_) 4 ?_ ?_
    rotate_left
    · intro w hSw
      go_simp
      (try with_reducible rfl)
    (try simp only [Act.put, List.setIfInBounds_toArray, List.set_cons_zero, List.set_cons_succ])
    refine tk (v := ?_) 5 ?_ ?_
    rotate_left
    · intro w hSw
      obtain ⟨c0, c1, c2, c3, c4, c5, c6, c7, c8, c9, c10, c11, c12, c13⟩ := (hSw.at_ 1 rfl).seen
      go_simp
      (try with_reducible rfl)
    (try simp only [Act.put, List.setIfInBounds_toArray, List.set_cons_zero, List.set_cons_succ])
    refine tk (v := ?_) 6 ?_ ?_
    rotate_left
    · intro w hSw
      go_simp
      (try with_reducible rfl)
    (try simp only [Act.put, List.setIfInBounds_toArray, List.set_cons_zero, List.set_cons_succ])
    refine tk (v := ?_) 7 ?_ ?_
    rotate_left
    · intro w hSw
      have r8 := (cell_of_block (hSw.at_ 1 rfl) 8).trans (show (seenC s)[8]? = some (.int .i64 s.a) from rfl)
      go_simp
      (try with_reducible rfl)
    (try simp only [Act.put, List.setIfInBounds_toArray, List.set_cons_zero, List.set_cons_succ])
    refine tk (v := ?_) 8 ?_ ?_
    rotate_left
    · intro w hSw
      go_simp
      (try with_reducible rfl)
    (try simp only [Act.put, List.setIfInBounds_toArray, List.set_cons_zero, List.set_cons_succ])
    refine tk (v := ?_) 9 ?_ ?_
    rotate_left
    · intro w hSw
      go_simp
      (try with_reducible rfl)
    (try simp only [Act.put, List.setIfInBounds_toArray, List.set_cons_zero, List.set_cons_succ])
    refine tk (v := ?_) 10 ?_ ?_
    rotate_left
    · intro w hSw
      have ri := seen_word (hSw.at_ 1 rfl) a0 a7
      rw [HX.out] at ri
      go_simp
      (try with_reducible rfl)
    (try simp only [Act.put, List.setIfInBounds_toArray, List.set_cons_zero, List.set_cons_succ])
    refine wpAnyH_ready (rs := [11]) (by kernel_rfl) (by simp) ?_
    refine anyH_one rfl (fun K hK => ?_) ?_
    · go_simp
      refine (mapped_any s _ _ hb).mono ?_
      rw [HM.out]
      rintro e w4 ⟨rfl, hB4⟩
      have H4 := Lib.hid (H3.out.quiet hB4)
      clear H3
      refine hK.out _ _ (H4.out.pick [0, 1] []) (fun hHeld => ?_)
      clear hK K
      (try simp only [Act.put, List.setIfInBounds_toArray, List.set_cons_zero, List.set_cons_succ])
      refine tk (v := ?_) 12 ?_ ?_
      rotate_left
      · intro w hSw
        go_simp
        (try with_reducible rfl)
      (try simp only [Act.put, List.setIfInBounds_toArray, List.set_cons_zero, List.set_cons_succ])
      refine tk (v := ?_) 13 ?_ ?_
      rotate_left
      · intro w hSw
        go_simp
        (try with_reducible rfl)
      (try simp only [Act.put, List.setIfInBounds_toArray, List.set_cons_zero, List.set_cons_succ])
      refine wpAnyH_done (by kernel_rfl) ?_ _
      clear hHeld
      have H9 := H4
      clear H4
      generalize w4 = w9 at *
      have f0 := (H9.out.at_ 0 rfl).fz 0; have f1 := (H9.out.at_ 0 rfl).fz 1; have f2 := (H9.out.at_ 0 rfl).fz 2; have f3 := (H9.out.at_ 0 rfl).fz 3; have f4 := (H9.out.at_ 0 rfl).fz 4; have f5 := (H9.out.at_ 0 rfl).fz 5
      obtain ⟨q0, q1, q2, q3, q4, q5⟩ := (H9.out.at_ 0 rfl).line6
      go_wp2
      have H4 := H9.out.put6 0 rfl (y0 := .int .u64 0) (y1 := .bool false) (y2 := .bool false) (y3 := .bool false) (y4 := .bool false) (y5 := .int .u8 0) rfl
      exact bodyPost_ret (results_cell_row rfl _ _ (w.heap.size + 1) _ _ _ _ rfl (H4.at_ 0 rfl) Tryd.underlying34 rfl rfl) rfl ⟨rfl, H4.below⟩
    exact AllReadyH.nil
  exact AllReadyH.nil

set_option maxRecDepth 100000 in
set_option maxHeartbeats 3200000 in
theorem run_full (s : Sn) (w : World) (hs : OkS s) (hp : PagesT w) (a0 : 0 ≤ s.a) (a7 : s.a ≤ 7) (hm : mapW (thW s.X s.a) s.b s.n = true) : Calls Tryd.prog 11 #[seenV s] w (RunPost s w) := by
  unfold RunPost
  rw [run_yes ((okRun_in a0 a7).trans hm)]
  have HT := Lib.hid hp
  have HS := Lib.hid hs
  have hb := hs.hb
  have hx := hs.at_ s.a
  have a8 : s.a < 8 := by omega
  have hp0 := bit8_in a0 a7
  obtain ⟨p, hpp⟩ : ∃ p, bit8 s.a = p := ⟨_, rfl⟩
  rw [hpp] at hp0
  have HP := Lib.hid hpp
  obtain ⟨xa, hxa⟩ : ∃ x, thW s.X s.a = x := ⟨_, rfl⟩
  rw [hxa] at hx hm
  have HX := Lib.hid hxa
  have HM := Lib.hid hm
  have hneg : IntKind.i64.wrap (-s.a) = -s.a := by rw [IntKind.wrap_i64]; omega
  obtain ⟨d6, hd6⟩ : ∃ d, bitF xa 6 = d := ⟨_, rfl⟩
  have B6 := bit6_and xa
  rw [hd6] at B6
  have HD := Lib.hid hd6
  obtain ⟨f0x, hf0⟩ : ∃ f, frmF (tableF xa) (-s.a) = f := ⟨_, rfl⟩
  have HF := Lib.hid hf0
  clear hd6 hf0
  have H0 := Lib.hid (((Mine.start w).new (b := w.heap.size) rfl (seenC s) 27).new (b := w.heap.size + 1) (by simp) zeroC 34)
  clear hp hpp hm hs
  go_enter Tryd.func11, Tryd.ntmps11
  go_upto_region 1 with fail
  generalize hw0 : (w.alloc _).alloc _ = w0
  have H1 := Lib.hid (H0.out.world hw0)
  clear hw0 H0
  refine wp_region_held_drew (S := fun w' => Mine w w' [⟨w.heap.size + 1, zeroC, 34⟩, ⟨w.heap.size, seenC s, 27⟩] []) (by kernel_rfl) (H1.out.quiet (Kept.drew0 _)) (fun hHeld => ?_)
  have H2 := Lib.hid (H1.out.quiet (Kept.drew0 _))
  clear H1
  generalize w0.drew = w2 at *
  refine tk (v := ?_) 0 ?_ ?_
  rotate_left
  · intro w hSw
    go_simp
    (try with_reducible rfl)
  (try simp only [Act.put, List.setIfInBounds_toArray, List.set_cons_zero, List.set_cons_succ])
  refine tk (v := ?_) 1 ?_ ?_
  rotate_left
  · intro w hSw
    have r8 := (cell_of_block (hSw.at_ 1 rfl) 8).trans (show (seenC s)[8]? = some (.int .i64 s.a) from rfl)
    go_simp
    (try with_reducible rfl)
  (try simp only [Act.put, List.setIfInBounds_toArray, List.set_cons_zero, List.set_cons_succ])
  refine wpAnyH_ready (rs := [2]) (by kernel_rfl) (by simp) ?_
  refine anyH_one rfl (fun K hK => ?_) ?_
  · go_simp
    refine (callsB (gbit_any _ _ (pages_keep HT.out H2.out.below (Nat.le_refl _)))).mono ?_
    rw [HP.out]
    rintro e w3 ⟨rfl, hB3⟩
    have H3 := Lib.hid (H2.out.quiet hB3)
    clear H2
    refine hK.out _ _ (H3.out.pick [0, 1] []) (fun hHeld => ?_)
    clear hK K
    (try simp only [Act.put, List.setIfInBounds_toArray, List.set_cons_zero, List.set_cons_succ])
    refine tk (v := ?_) 3 ?_ ?_
    rotate_left
    · intro w hSw
      go_simp
      (try with_reducible rfl)
    (try simp only [Act.put, List.setIfInBounds_toArray, List.set_cons_zero, List.set_cons_succ])
    refine tk (v := ?_) 4 ?_ ?_
    rotate_left
    · intro w hSw
      go_simp
      (try with_reducible rfl)
    (try simp only [Act.put, List.setIfInBounds_toArray, List.set_cons_zero, List.set_cons_succ])
    refine tk (v := ?_) 5 ?_ ?_
    rotate_left
    · intro w hSw
      obtain ⟨c0, c1, c2, c3, c4, c5, c6, c7, c8, c9, c10, c11, c12, c13⟩ := (hSw.at_ 1 rfl).seen
      go_simp
      (try with_reducible rfl)
    (try simp only [Act.put, List.setIfInBounds_toArray, List.set_cons_zero, List.set_cons_succ])
    refine tk (v := ?_) 6 ?_ ?_
    rotate_left
    · intro w hSw
      go_simp
      (try with_reducible rfl)
    (try simp only [Act.put, List.setIfInBounds_toArray, List.set_cons_zero, List.set_cons_succ])
    refine tk (v := ?_) 7 ?_ ?_
    rotate_left
    · intro w hSw
      have r8 := (cell_of_block (hSw.at_ 1 rfl) 8).trans (show (seenC s)[8]? = some (.int .i64 s.a) from rfl)
      go_simp
      (try with_reducible rfl)
    (try simp only [Act.put, List.setIfInBounds_toArray, List.set_cons_zero, List.set_cons_succ])
    refine tk (v := ?_) 8 ?_ ?_
    rotate_left
    · intro w hSw
      go_simp
      (try with_reducible rfl)
    (try simp only [Act.put, List.setIfInBounds_toArray, List.set_cons_zero, List.set_cons_succ])
    refine tk (v := ?_) 9 ?_ ?_
    rotate_left
    · intro w hSw
      go_simp
      (try with_reducible rfl)
    (try simp only [Act.put, List.setIfInBounds_toArray, List.set_cons_zero, List.set_cons_succ])
    refine tk (v := ?_) 10 ?_ ?_
    rotate_left
    · intro w hSw
      have ri := seen_word (hSw.at_ 1 rfl) a0 a7
      rw [HX.out] at ri
      go_simp
      (try with_reducible rfl)
    (try simp only [Act.put, List.setIfInBounds_toArray, List.set_cons_zero, List.set_cons_succ])
    refine wpAnyH_ready (rs := [11]) (by kernel_rfl) (by simp) ?_
    refine anyH_one rfl (fun K hK => ?_) ?_
    · go_simp
      refine (mapped_any s _ _ hb).mono ?_
      rw [HM.out]
      rintro e w4 ⟨rfl, hB4⟩
      have H4 := Lib.hid (H3.out.quiet hB4)
      clear H3
      refine hK.out _ _ (H4.out.pick [0, 1] []) (fun hHeld => ?_)
      clear hK K
      (try simp only [Act.put, List.setIfInBounds_toArray, List.set_cons_zero, List.set_cons_succ])
      refine tk (v := ?_) 12 ?_ ?_
      rotate_left
      · intro w hSw
        go_simp
        (try with_reducible rfl)
      (try simp only [Act.put, List.setIfInBounds_toArray, List.set_cons_zero, List.set_cons_succ])
      refine tk (v := ?_) 13 ?_ ?_
      rotate_left
      · intro w hSw
        go_simp
        (try with_reducible rfl)
      (try simp only [Act.put, List.setIfInBounds_toArray, List.set_cons_zero, List.set_cons_succ])
      refine wpAnyH_done (by kernel_rfl) ?_ _
      clear hHeld
      have H9 := H4
      clear H4
      generalize w4 = w9 at *
      have r8 := (cell_of_block (H9.out.at_ 1 rfl) 8).trans (show (seenC s)[8]? = some (.int .i64 s.a) from rfl)
      have ri := seen_word (H9.out.at_ 1 rfl) a0 a7
      rw [HX.out] at ri
      go_upto_region 4 with fail
      clear ri r8
      go_cut [4] from 26 (fun s4 wc => ∃ lb : Nat, s4 = .pointer (some ⟨lb, 0, none⟩) ∧ Hid (Mine w wc [⟨lb, #[.int .u64 f0x, .bool (s.W && bitF xa 1), .bool (s.U && bitF xa 2), .bool (s.Y && !bitF xa 63), .bool d6, .int .u8 0], 34⟩, ⟨w.heap.size + 1, zeroC, 34⟩, ⟨w.heap.size, seenC s, 27⟩] []))
      case first =>
        refine wp_region_held_drew (S := fun w' => Mine w w' [⟨w.heap.size + 1, zeroC, 34⟩, ⟨w.heap.size, seenC s, 27⟩] []) (by kernel_rfl) (H9.out.quiet (Kept.drew0 _)) (fun hHeld => ?_)
        have H1 := Lib.hid (H9.out.quiet (Kept.drew0 _))
        clear H9
        generalize w9.drew = w1 at *
        refine tk (v := ?_) 0 ?_ ?_
        rotate_left
        · intro w hSw
          go_simp
          (try with_reducible rfl)
        (try simp only [Act.put, List.setIfInBounds_toArray, List.set_cons_zero, List.set_cons_succ])
        refine tk (v := ?_) 2 ?_ ?_
        rotate_left
        · intro w hSw
          go_simp
          (try with_reducible rfl)
        (try simp only [Act.put, List.setIfInBounds_toArray, List.set_cons_zero, List.set_cons_succ])
        refine tk (v := ?_) 3 ?_ ?_
        rotate_left
        · intro w hSw
          have r8 := (cell_of_block (hSw.at_ 1 rfl) 8).trans (show (seenC s)[8]? = some (.int .i64 s.a) from rfl)
          go_simp
          (try with_reducible rfl)
        (try simp only [Act.put, List.setIfInBounds_toArray, List.set_cons_zero, List.set_cons_succ])
        refine tk (v := ?_) 4 ?_ ?_
        rotate_left
        · intro w hSw
          go_simp
          (try with_reducible rfl)
        (try simp only [Act.put, List.setIfInBounds_toArray, List.set_cons_zero, List.set_cons_succ])
        refine tk (v := ?_) 6 ?_ ?_
        rotate_left
        · intro w hSw
          go_simp
          (try with_reducible rfl)
        (try simp only [Act.put, List.setIfInBounds_toArray, List.set_cons_zero, List.set_cons_succ])
        refine tk (v := ?_) 7 ?_ ?_
        rotate_left
        · intro w hSw
          have r9 := (cell_of_block (hSw.at_ 1 rfl) 9).trans (show (seenC s)[9]? = some (.bool s.W) from rfl)
          have r10 := (cell_of_block (hSw.at_ 1 rfl) 10).trans (show (seenC s)[10]? = some (.bool s.U) from rfl)
          have r11 := (cell_of_block (hSw.at_ 1 rfl) 11).trans (show (seenC s)[11]? = some (.bool s.Y) from rfl)
          go_simp
          (try with_reducible rfl)
        (try simp only [Act.put, List.setIfInBounds_toArray, List.set_cons_zero, List.set_cons_succ])
        refine tk (v := ?_) 8 ?_ ?_
        rotate_left
        · intro w hSw
          go_simp
          (try with_reducible rfl)
        (try simp only [Act.put, List.setIfInBounds_toArray, List.set_cons_zero, List.set_cons_succ])
        refine tk (v := ?_) 10 ?_ ?_
        rotate_left
        · intro w hSw
          go_simp
          (try with_reducible rfl)
        (try simp only [Act.put, List.setIfInBounds_toArray, List.set_cons_zero, List.set_cons_succ])
        refine tk (v := ?_) 11 ?_ ?_
        rotate_left
        · intro w hSw
          go_simp
          (try with_reducible rfl)
        (try simp only [Act.put, List.setIfInBounds_toArray, List.set_cons_zero, List.set_cons_succ])
        refine tk (v := ?_) 12 ?_ ?_
        rotate_left
        · intro w hSw
          go_simp
          (try with_reducible rfl)
        (try simp only [Act.put, List.setIfInBounds_toArray, List.set_cons_zero, List.set_cons_succ])
        refine wpAnyH_ready (rs := [1, 14]) (by kernel_rfl) (by simp) ?_
        refine anyH_one rfl (fun K hK => ?_) ?_
        · go_simp
          refine (callsB (table_any _ _ hx)).mono ?_
          rintro e w2 ⟨rfl, hB2⟩
          have H2 := Lib.hid (H1.out.quiet hB2)
          clear H1
          refine hK.out _ _ (H2.out.pick [0, 1] []) (fun hHeld => ?_)
          clear hK K
          (try simp only [Act.put, List.setIfInBounds_toArray, List.set_cons_zero, List.set_cons_succ])
          refine wpAnyH_ready (rs := [5, 14]) (by kernel_rfl) (by simp) ?_
          refine anyH_one rfl (fun K hK => ?_) ?_
          · go_simp
            refine (callsB (gframe_any _ _ _)).mono ?_
            rw [HF.out]
            rintro e w3 ⟨rfl, hB3⟩
            have H3 := Lib.hid (H2.out.quiet hB3)
            clear H2
            refine hK.out _ _ (H3.out.pick [0, 1] []) (fun hHeld => ?_)
            clear hK K
            (try simp only [Act.put, List.setIfInBounds_toArray, List.set_cons_zero, List.set_cons_succ])
            refine wpAnyH_ready (rs := [9, 14]) (by kernel_rfl) (by simp) ?_
            refine anyH_one rfl (fun K hK => ?_) ?_
            · go_simp
              refine (and_any _ _ _ _ _).mono ?_
              rintro e w4 ⟨rfl, hB4⟩
              have H4 := Lib.hid (H3.out.quiet hB4)
              clear H3
              refine hK.out _ _ (H4.out.pick [0, 1] []) (fun hHeld => ?_)
              clear hK K
              (try simp only [Act.put, List.setIfInBounds_toArray, List.set_cons_zero, List.set_cons_succ])
              refine tk (v := ?_) 13 ?_ ?_
              rotate_left
              · intro w hSw
                go_simp
                (try with_reducible rfl)
              (try simp only [Act.put, List.setIfInBounds_toArray, List.set_cons_zero, List.set_cons_succ])
              refine wpAnyH_ready (rs := [14]) (by kernel_rfl) (by simp) ?_
              refine anyH_one rfl (fun K hK => ?_) ?_
              · go_simp
                generalize hq5 : w4.alloc _ = w5
                have hB5 : Below w4.heap.size w4 w5 := by rw [← hq5]; exact below_alloc1 _ _
                have H5 := Lib.hid ((H4.out.new (b := w4.heap.size) rfl _ _).world hq5)
                clear H4 hq5 hB5
                generalize w4.heap.size = lb at H5 ⊢
                refine hK.out _ _ (H5.out.pick [1, 2] []) (fun hHeld => ?_)
                clear hK K
                (try simp only [Act.put, List.setIfInBounds_toArray, List.set_cons_zero, List.set_cons_succ])
                refine wpAnyH_ready (rs := [15]) (by kernel_rfl) (by simp) ?_
                refine anyH_one rfl (fun K hK => ?_) ?_
                · obtain ⟨r0, r1, r2, r3, r4, r5⟩ := (H5.out.at_ 0 rfl).line6
                  have s0 := (H5.out.at_ 0 rfl).fz 0; have s1 := (H5.out.at_ 0 rfl).fz 1; have s2 := (H5.out.at_ 0 rfl).fz 2; have s3 := (H5.out.at_ 0 rfl).fz 3; have s4 := (H5.out.at_ 0 rfl).fz 4; have s5 := (H5.out.at_ 0 rfl).fz 5
                  go_simp
                  generalize hq6 : (((((w5.setCell _ _).setCell _ _).setCell _ _).setCell _ _).setCell _ _).setCell _ _ = w6
                  have H6 := Lib.hid (H5.out.put6 0 rfl hq6)
                  clear H5 hq6 r0 s0 r1 s1 r2 s2 r3 s3 r4 s4 r5 s5
                  refine hK.out _ _ (H6.out.pick [1, 2] []) (fun hHeld => ?_)
                  clear hK K
                  (try simp only [Act.put, List.setIfInBounds_toArray, List.set_cons_zero, List.set_cons_succ])
                  refine wpAnyH_done (by kernel_rfl) ?_ _
                  clear hHeld
                  go_wp2
                  go_meet
                  case rel => exact ⟨lb, rfl, H6⟩
                exact AllReadyH.nil
              exact AllReadyH.nil
            refine anyH_one rfl (fun K hK => ?_) ?_
            · go_simp
              generalize hq4 : w3.alloc _ = w4
              have hB4 : Below w3.heap.size w3 w4 := by rw [← hq4]; exact below_alloc1 _ _
              have H4 := Lib.hid ((H3.out.new (b := w3.heap.size) rfl _ _).world hq4)
              clear H3 hq4 hB4
              generalize w3.heap.size = lb at H4 ⊢
              refine hK.out _ _ (H4.out.pick [1, 2] []) (fun hHeld => ?_)
              clear hK K
              (try simp only [Act.put, List.setIfInBounds_toArray, List.set_cons_zero, List.set_cons_succ])
              refine wpAnyH_ready (rs := [9]) (by kernel_rfl) (by simp) ?_
              refine anyH_one rfl (fun K hK => ?_) ?_
              · go_simp
                refine (and_any _ _ _ _ _).mono ?_
                rintro e w5 ⟨rfl, hB5⟩
                have H5 := Lib.hid (H4.out.quiet hB5)
                clear H4
                refine hK.out _ _ (H5.out.pick [1, 2] []) (fun hHeld => ?_)
                clear hK K
                (try simp only [Act.put, List.setIfInBounds_toArray, List.set_cons_zero, List.set_cons_succ])
                refine tk (v := ?_) 13 ?_ ?_
                rotate_left
                · intro w hSw
                  go_simp
                  (try with_reducible rfl)
                (try simp only [Act.put, List.setIfInBounds_toArray, List.set_cons_zero, List.set_cons_succ])
                refine wpAnyH_ready (rs := [15]) (by kernel_rfl) (by simp) ?_
                refine anyH_one rfl (fun K hK => ?_) ?_
                · obtain ⟨r0, r1, r2, r3, r4, r5⟩ := (H5.out.at_ 0 rfl).line6
                  have s0 := (H5.out.at_ 0 rfl).fz 0; have s1 := (H5.out.at_ 0 rfl).fz 1; have s2 := (H5.out.at_ 0 rfl).fz 2; have s3 := (H5.out.at_ 0 rfl).fz 3; have s4 := (H5.out.at_ 0 rfl).fz 4; have s5 := (H5.out.at_ 0 rfl).fz 5
                  go_simp
                  generalize hq6 : (((((w5.setCell _ _).setCell _ _).setCell _ _).setCell _ _).setCell _ _).setCell _ _ = w6
                  have H6 := Lib.hid (H5.out.put6 0 rfl hq6)
                  clear H5 hq6 r0 s0 r1 s1 r2 s2 r3 s3 r4 s4 r5 s5
                  refine hK.out _ _ (H6.out.pick [1, 2] []) (fun hHeld => ?_)
                  clear hK K
                  (try simp only [Act.put, List.setIfInBounds_toArray, List.set_cons_zero, List.set_cons_succ])
                  refine wpAnyH_done (by kernel_rfl) ?_ _
                  clear hHeld
                  go_wp2
                  go_meet
                  case rel => exact ⟨lb, rfl, H6⟩
                exact AllReadyH.nil
              exact AllReadyH.nil
            exact AllReadyH.nil
          refine anyH_one rfl (fun K hK => ?_) ?_
          · go_simp
            generalize hq3 : w2.alloc _ = w3
            have hB3 : Below w2.heap.size w2 w3 := by rw [← hq3]; exact below_alloc1 _ _
            have H3 := Lib.hid ((H2.out.new (b := w2.heap.size) rfl _ _).world hq3)
            clear H2 hq3 hB3
            generalize w2.heap.size = lb at H3 ⊢
            refine hK.out _ _ (H3.out.pick [1, 2] []) (fun hHeld => ?_)
            clear hK K
            (try simp only [Act.put, List.setIfInBounds_toArray, List.set_cons_zero, List.set_cons_succ])
            refine wpAnyH_ready (rs := [5]) (by kernel_rfl) (by simp) ?_
            refine anyH_one rfl (fun K hK => ?_) ?_
            · go_simp
              refine (callsB (gframe_any _ _ _)).mono ?_
              rw [HF.out]
              rintro e w4 ⟨rfl, hB4⟩
              have H4 := Lib.hid (H3.out.quiet hB4)
              clear H3
              refine hK.out _ _ (H4.out.pick [1, 2] []) (fun hHeld => ?_)
              clear hK K
              (try simp only [Act.put, List.setIfInBounds_toArray, List.set_cons_zero, List.set_cons_succ])
              refine wpAnyH_ready (rs := [9]) (by kernel_rfl) (by simp) ?_
              refine anyH_one rfl (fun K hK => ?_) ?_
              · go_simp
                refine (and_any _ _ _ _ _).mono ?_
                rintro e w5 ⟨rfl, hB5⟩
                have H5 := Lib.hid (H4.out.quiet hB5)
                clear H4
                refine hK.out _ _ (H5.out.pick [1, 2] []) (fun hHeld => ?_)
                clear hK K
                (try simp only [Act.put, List.setIfInBounds_toArray, List.set_cons_zero, List.set_cons_succ])
                refine tk (v := ?_) 13 ?_ ?_
                rotate_left
                · intro w hSw
                  go_simp
                  (try with_reducible rfl)
                (try simp only [Act.put, List.setIfInBounds_toArray, List.set_cons_zero, List.set_cons_succ])
                refine wpAnyH_ready (rs := [15]) (by kernel_rfl) (by simp) ?_
                refine anyH_one rfl (fun K hK => ?_) ?_
                · obtain ⟨r0, r1, r2, r3, r4, r5⟩ := (H5.out.at_ 0 rfl).line6
                  have s0 := (H5.out.at_ 0 rfl).fz 0; have s1 := (H5.out.at_ 0 rfl).fz 1; have s2 := (H5.out.at_ 0 rfl).fz 2; have s3 := (H5.out.at_ 0 rfl).fz 3; have s4 := (H5.out.at_ 0 rfl).fz 4; have s5 := (H5.out.at_ 0 rfl).fz 5
                  go_simp
                  generalize hq6 : (((((w5.setCell _ _).setCell _ _).setCell _ _).setCell _ _).setCell _ _).setCell _ _ = w6
                  have H6 := Lib.hid (H5.out.put6 0 rfl hq6)
                  clear H5 hq6 r0 s0 r1 s1 r2 s2 r3 s3 r4 s4 r5 s5
                  refine hK.out _ _ (H6.out.pick [1, 2] []) (fun hHeld => ?_)
                  clear hK K
                  (try simp only [Act.put, List.setIfInBounds_toArray, List.set_cons_zero, List.set_cons_succ])
                  refine wpAnyH_done (by kernel_rfl) ?_ _
                  clear hHeld
                  go_wp2
                  go_meet
                  case rel => exact ⟨lb, rfl, H6⟩
                exact AllReadyH.nil
              exact AllReadyH.nil
            exact AllReadyH.nil
          exact AllReadyH.nil
        refine anyH_one rfl (fun K hK => ?_) ?_
        · go_simp
          generalize hq2 : w1.alloc _ = w2
          have hB2 : Below w1.heap.size w1 w2 := by rw [← hq2]; exact below_alloc1 _ _
          have H2 := Lib.hid ((H1.out.new (b := w1.heap.size) rfl _ _).world hq2)
          clear H1 hq2 hB2
          generalize w1.heap.size = lb at H2 ⊢
          refine hK.out _ _ (H2.out.pick [1, 2] []) (fun hHeld => ?_)
          clear hK K
          (try simp only [Act.put, List.setIfInBounds_toArray, List.set_cons_zero, List.set_cons_succ])
          refine wpAnyH_ready (rs := [1]) (by kernel_rfl) (by simp) ?_
          refine anyH_one rfl (fun K hK => ?_) ?_
          · go_simp
            refine (callsB (table_any _ _ hx)).mono ?_
            rintro e w3 ⟨rfl, hB3⟩
            have H3 := Lib.hid (H2.out.quiet hB3)
            clear H2
            refine hK.out _ _ (H3.out.pick [1, 2] []) (fun hHeld => ?_)
            clear hK K
            (try simp only [Act.put, List.setIfInBounds_toArray, List.set_cons_zero, List.set_cons_succ])
            refine wpAnyH_ready (rs := [5]) (by kernel_rfl) (by simp) ?_
            refine anyH_one rfl (fun K hK => ?_) ?_
            · go_simp
              refine (callsB (gframe_any _ _ _)).mono ?_
              rw [HF.out]
              rintro e w4 ⟨rfl, hB4⟩
              have H4 := Lib.hid (H3.out.quiet hB4)
              clear H3
              refine hK.out _ _ (H4.out.pick [1, 2] []) (fun hHeld => ?_)
              clear hK K
              (try simp only [Act.put, List.setIfInBounds_toArray, List.set_cons_zero, List.set_cons_succ])
              refine wpAnyH_ready (rs := [9]) (by kernel_rfl) (by simp) ?_
              refine anyH_one rfl (fun K hK => ?_) ?_
              · go_simp
                refine (and_any _ _ _ _ _).mono ?_
                rintro e w5 ⟨rfl, hB5⟩
                have H5 := Lib.hid (H4.out.quiet hB5)
                clear H4
                refine hK.out _ _ (H5.out.pick [1, 2] []) (fun hHeld => ?_)
                clear hK K
                (try simp only [Act.put, List.setIfInBounds_toArray, List.set_cons_zero, List.set_cons_succ])
                refine tk (v := ?_) 13 ?_ ?_
                rotate_left
                · intro w hSw
                  go_simp
                  (try with_reducible rfl)
                (try simp only [Act.put, List.setIfInBounds_toArray, List.set_cons_zero, List.set_cons_succ])
                refine wpAnyH_ready (rs := [15]) (by kernel_rfl) (by simp) ?_
                refine anyH_one rfl (fun K hK => ?_) ?_
                · obtain ⟨r0, r1, r2, r3, r4, r5⟩ := (H5.out.at_ 0 rfl).line6
                  have s0 := (H5.out.at_ 0 rfl).fz 0; have s1 := (H5.out.at_ 0 rfl).fz 1; have s2 := (H5.out.at_ 0 rfl).fz 2; have s3 := (H5.out.at_ 0 rfl).fz 3; have s4 := (H5.out.at_ 0 rfl).fz 4; have s5 := (H5.out.at_ 0 rfl).fz 5
                  go_simp
                  generalize hq6 : (((((w5.setCell _ _).setCell _ _).setCell _ _).setCell _ _).setCell _ _).setCell _ _ = w6
                  have H6 := Lib.hid (H5.out.put6 0 rfl hq6)
                  clear H5 hq6 r0 s0 r1 s1 r2 s2 r3 s3 r4 s4 r5 s5
                  refine hK.out _ _ (H6.out.pick [1, 2] []) (fun hHeld => ?_)
                  clear hK K
                  (try simp only [Act.put, List.setIfInBounds_toArray, List.set_cons_zero, List.set_cons_succ])
                  refine wpAnyH_done (by kernel_rfl) ?_ _
                  clear hHeld
                  go_wp2
                  go_meet
                  case rel => exact ⟨lb, rfl, H6⟩
                exact AllReadyH.nil
              exact AllReadyH.nil
            exact AllReadyH.nil
          exact AllReadyH.nil
        exact AllReadyH.nil
      case rest =>
        obtain ⟨lb, rfl, H1⟩ := hcut
        clear H9
        go_wp2
        go_loopw [40] (fun i wr => ∃ k : Nat, k ≤ 8 ∧ i = .int .i64 k ∧ Hid (Mine w wr [⟨lb, #[.int .u64 f0x, .bool (s.W && bitF xa 1), .bool (s.U && bitF xa 2), .bool (s.Y && !bitF xa 63), .bool d6, .int .u8 (runM s.X s.a s.b s.n k)], 34⟩, ⟨w.heap.size + 1, zeroC, 34⟩, ⟨w.heap.size, seenC s, 27⟩] [])) (fun i _ => (8 - intOf i).toNat)
        case atStart => exact ⟨0, by omega, rfl, by rw [runM_0]; exact H1⟩
        case round =>
          obtain ⟨k, hk, rfl, HR⟩ := hrel
          clear H1
          by_cases hlt : k < 8
          · have k0 : (0 : Int) ≤ k := by omega
            have k7 : (k : Int) ≤ 7 := by omega
            obtain ⟨c0, c1, c2, c3, c4, c5, c6, c7, c8, c9, c10, c11, c12, c13⟩ := (HR.out.at_ 2 rfl).seen
            obtain ⟨l0, l1, l2, l3, l4, l5⟩ := (HR.out.at_ 0 rfl).line6
            have HTG := tog_any s k wr HS.out a0 a7 k0 k7
            rw [HX.out, HF.out] at HTG
            cases hg : togF s.X s.a s.b s.n k
            · rw [hg] at HTG
              have HN := Lib.hid (runM_no hg)
              clear hg
              go_wp2_with (go_at_call 29; refine HTG.mono ?_; rintro e w2 ⟨rfl, hb2⟩; have H2 := Lib.hid (HR.out.quiet hb2); clear hb2 HR)
              go_roundw
              case rel => exact ⟨k + 1, by omega, by go_num, by rw [HN.out]; exact H2⟩
              case measure => simp [intOf]; omega
            · rw [hg] at HTG
              have HN := Lib.hid (runM_or hlt hg)
              clear hg
              go_upto_region 9 with (go_at_call 29; refine HTG.mono ?_; rintro e w2 ⟨rfl, hb2⟩; have H2 := Lib.hid (HR.out.quiet hb2); clear hb2 HR c0 c1 c2 c3 c4 c5 c6 c7 c8 c9 c10 c11 c12 c13 l0 l1 l2 l3 l4 l5)
              have hp1 : PagesT w2.drew := pages_keep HT.out H2.out.below.drew (Nat.le_refl _)
              obtain ⟨p0, p1, p2, p3, p4, p5⟩ := (H2.out.at_ 0 rfl).line6
              refine wp_region_still_tail 6 (by kernel_rfl) (by kernel_rfl) ?_
              simp only [List.take_succ_cons, List.take_zero, List.drop_succ_cons, List.drop_zero]
              repeat (first | still_step | still_call (stillOf (gbit_any _ _ hp1)))
              refine wpStill_nil ?_
              change wpList _ _ _ _ _ w2.drew
              have H3 := Lib.hid (H2.out.quiet (Below.refl _ _).drew)
              clear H2 p0 p1 p2 p3 p4 p5 hp1
              generalize w2.drew = w3 at *
              obtain ⟨p0, p1, p2, p3, p4, p5⟩ := (H3.out.at_ 0 rfl).line6
              have f5 := (H3.out.at_ 0 rfl).fz 5
              rw [HN.out]
              go_wp2
              generalize hw4 : w3.setCell _ _ = w4
              have H4 := Lib.hid (H3.out.mask 0 rfl hw4)
              clear hw4 H3 p0 p1 p2 p3 p4 p5 f5
              go_roundw
              case rel => exact ⟨k + 1, by omega, by go_num, H4⟩
              case measure => simp [intOf]; omega
          · obtain rfl : k = 8 := by omega
            have f0 := (HR.out.at_ 1 rfl).fz 0; have f1 := (HR.out.at_ 1 rfl).fz 1; have f2 := (HR.out.at_ 1 rfl).fz 2; have f3 := (HR.out.at_ 1 rfl).fz 3; have f4 := (HR.out.at_ 1 rfl).fz 4; have f5 := (HR.out.at_ 1 rfl).fz 5
            obtain ⟨q0, q1, q2, q3, q4, q5⟩ := (HR.out.at_ 1 rfl).line6
            obtain ⟨l0, l1, l2, l3, l4, l5⟩ := (HR.out.at_ 0 rfl).line6
            go_wp2
            have H4 := HR.out.put6 1 rfl (y0 := .int .u64 f0x) (y1 := .bool (s.W && bitF xa 1)) (y2 := .bool (s.U && bitF xa 2)) (y3 := .bool (s.Y && !bitF xa 63)) (y4 := .bool d6) (y5 := .int .u8 (runM s.X s.a s.b s.n 8)) rfl
            exact bodyPost_ret (results_cell_row rfl _ _ (w.heap.size + 1) _ _ _ _ rfl (H4.at_ 1 rfl) Tryd.underlying34 rfl rfl) rfl ⟨ret_val (by rw [HX.out, HF.out, HD.out]), H4.below⟩
    exact AllReadyH.nil
  exact AllReadyH.nil

theorem grun_any (s : Sn) (w : World) (hs : OkS s) (hp : PagesT w) : Calls Tryd.prog 11 #[seenV s] w (RunPost s w) := by
  by_cases h : 0 ≤ s.a ∧ s.a ≤ 7
  · cases hm : mapW (thW s.X s.a) s.b s.n
    · exact run_bare s w hs hp h.1 h.2 hm
    · exact run_full s w hs hp h.1 h.2 hm
  · exact run_none s w hp h
end Go.Proofs.YtmglikmphddicaaDoor
