/- The walk of MemPlays. -/
import Derived.Test.YtfakfmefjfemhaaPl
import Derived.Deep.RegionHeld3
namespace Go.Proofs.Ytfakfmefjfemhaa
set_option linter.unusedVariables false
set_option linter.unusedSimpArgs false
open Go.ChangeShapes Go.WideShapes Go.ChangeAt Go.RowKit Go.Joins

theorem memPlays_no (A : Option Addr) (c n : Nat) (M : Int) (w : World) (hM : M < 14 ∨ 22 < M) :
    Calls Try.prog 3 #[.int .i64 M, .slice A n c] w fun e w' => e = .returned (.bool true) ∧ Below w.heap.size w w' := by
  by_cases h0 : M < 14
  · go_enter Try.func3, Try.ntmps3
    go_wp2_with (first | (go_at_call 9; refine (awake4_any _).mono ?_; rintro e w1 ⟨rfl, hB1⟩) | (go_at_call 10; refine (newMem_no M _ hM).mono ?_; rintro e w' ⟨rfl, rfl⟩))
    go_ret
    exact ⟨rfl, hB1⟩
  · have h1 : 22 < M := by omega
    have h2 : 14 ≤ M := by omega
    go_enter Try.func3, Try.ntmps3
    go_wp2_with (first | (go_at_call 9; refine (awake4_any _).mono ?_; rintro e w1 ⟨rfl, hB1⟩) | (go_at_call 10; refine (newMem_no M _ hM).mono ?_; rintro e w' ⟨rfl, rfl⟩))
    go_ret
    exact ⟨rfl, hB1⟩

/-- what the region keeps in which want is called -/
abbrev RegW (w3 w' : World) (bx : Nat) (M : Int) (vs vt : Value) (q : Addr) (kk aa xx : Int) : Prop :=
  w'.cell? ⟨bx, 0, none⟩ = some (.int .i64 M) ∧ w'.cell? ⟨bx, 1, none⟩ = some vs ∧ w'.cell? ⟨bx, 2, none⟩ = some vt ∧ w'.frozen? ⟨bx, 0, none⟩ = false ∧ w'.frozen? ⟨bx, 1, none⟩ = false ∧ w'.frozen? ⟨bx, 2, none⟩ = false ∧
    w'.cell? q = some (.int .i64 kk) ∧ w'.cell? ⟨q.block, q.off + 1, none⟩ = some (.int .u64 aa) ∧ w'.cell? ⟨q.block, q.off + 2, none⟩ = some (.int .u64 xx) ∧ Kept w3 w'

section
variable {w3 w1 w2 : World} {bx : Nat} {M : Int} {vs vt : Value} {q : Addr} {kk aa xx : Int}
theorem regw_step (h : RegW w3 w1 bx M vs vt q kk aa xx) (hb : Below w1.heap.size w1 w2) : RegW w3 w2 bx M vs vt q kk aa xx := by
  obtain ⟨c0, c1, c2, f0, f1, f2, d0, d1, d2, hk⟩ := h
  have l0 := cell_lt c0
  have l1 := cell_lt d0
  exact ⟨(hb.cell l0).trans c0, (hb.cell (p := ⟨bx, 1, none⟩) l0).trans c1, (hb.cell (p := ⟨bx, 2, none⟩) l0).trans c2, (hb.frozen l0).trans f0, (hb.frozen (p := ⟨bx, 1, none⟩) l0).trans f1, (hb.frozen (p := ⟨bx, 2, none⟩) l0).trans f2, (hb.cell l1).trans d0, (hb.cell (p := ⟨q.block, q.off + 1, none⟩) l1).trans d1, (hb.cell (p := ⟨q.block, q.off + 2, none⟩) l1).trans d2, Below.trans hk (Below.mono hb (Below.size hk))⟩
theorem regw_alloc (h : RegW w3 w1 bx M vs vt q kk aa xx) (o : Obj) : RegW w3 (w1.alloc o) bx M vs vt q kk aa xx := regw_step h ((Below.refl _ w1).alloc (Nat.le_refl _) o)
theorem regw_set (hbx : bx < w3.heap.size) (hq : q.block < w3.heap.size) (h : RegW w3 w1 bx M vs vt q kk aa xx) {y : Nat} (hy : w3.heap.size ≤ y) (u0 u1 u2 : Value) : RegW w3 (((w1.setCell ⟨y, 0, none⟩ u0).setCell ⟨y, 1, none⟩ u1).setCell ⟨y, 2, none⟩ u2) bx M vs vt q kk aa xx := by
  obtain ⟨c0, c1, c2, f0, f1, f2, d0, d1, d2, hk⟩ := h
  have hh : ∀ i, i ≠ y → (((w1.setCell ⟨y, 0, none⟩ u0).setCell ⟨y, 1, none⟩ u1).setCell ⟨y, 2, none⟩ u2).heap[i]? = w1.heap[i]? := fun i hi =>
    (Below.heap_setCell _ _ _ _ hi).trans ((Below.heap_setCell _ _ _ _ hi).trans (Below.heap_setCell _ _ _ _ hi))
  have e0 := hh bx (by omega)
  have e1 := hh q.block (by omega)
  exact ⟨(World.cell?_of_block (a := ⟨bx, 0, none⟩) e0).trans c0, (World.cell?_of_block (a := ⟨bx, 1, none⟩) e0).trans c1, (World.cell?_of_block (a := ⟨bx, 2, none⟩) e0).trans c2, (World.frozen?_of_block (a := ⟨bx, 0, none⟩) e0).trans f0, (World.frozen?_of_block (a := ⟨bx, 1, none⟩) e0).trans f1, (World.frozen?_of_block (a := ⟨bx, 2, none⟩) e0).trans f2,
    (World.cell?_of_block (a := q) e1).trans d0, (World.cell?_of_block (a := ⟨q.block, q.off + 1, none⟩) e1).trans d1, (World.cell?_of_block (a := ⟨q.block, q.off + 2, none⟩) e1).trans d2, ((Below.setCell hk hy _).setCell hy _).setCell hy _⟩
theorem regw_start {w : World} {m : Nat} {f : Int → Int} {tr : List Int} {n : Nat} {F : Nat → Prop} {L : List (Int × Int)} {tr2 : List Int} (h : Play w w3 bx m M f tr n F vs vt L tr2) (d0 : w3.cell? q = some (.int .i64 kk)) (d1 : w3.cell? ⟨q.block, q.off + 1, none⟩ = some (.int .u64 aa)) (d2 : w3.cell? ⟨q.block, q.off + 2, none⟩ = some (.int .u64 xx)) : RegW w3 w3.drew bx M vs vt q kk aa xx := by
  obtain ⟨c0, c1, c2, f0, f1, f2⟩ := h.three
  exact ⟨c0, c1, c2, f0, f1, f2, d0, d1, d2, Kept.drew0 _⟩

theorem y_three {w3 w4 : World} {x y z : Value} {t : TypeId} {B : Nat} (hB : Below B (w3.alloc (.cells #[x, y, z] t)).drew w4) (h : w3.heap.size < B) : Three w4 w3.heap.size x y z :=
  three_below (three_block (three_new w3 x y z t) (w' := (w3.alloc (.cells #[x, y, z] t)).drew) rfl) hB h

theorem want_reg {w : World} {m : Nat} {f' f : Int → Int} {tr : List Int} {n : Nat} {F : Nat → Prop} {L : List (Int × Int)} {tr2 : List Int} (h : Play w w3 bx m M f' tr n F vs vt L tr2) (hr : RegW w3 w1 bx M vs vt q kk aa xx)
    (hM : 14 ≤ M ∧ M ≤ 22) (hl : L.length < 100000) (ht : tr2.length < 1000000) (hf : Agree f L) (hw : ∀ s, W64 (f s)) (ha : W64 aa) (hx : W64 xx) :
    Calls Try.prog 12 #[.agg #[.int .i64 M, vs, vt], .agg #[.int .i64 kk, .int .u64 aa, .int .u64 xx]] w1 fun e w4 => ∃ A1 c1 A2 c2, e = .returned (.tuple #[.agg #[.int .i64 M, .slice A1 (pairL M f L kk aa xx).length c1, .slice A2 (pairT M tr2 kk aa).length c2], .int .u64 (pairV M f kk aa), .int .i64 (pairE M kk aa)]) ∧
      Hid (∀ (w5 : World) (y : Nat), Turn (fun i => i = y) w4 w5 → (y = w4.heap.size ∨ (y = w3.heap.size ∧ w3.heap.size < w1.heap.size)) → Play w (((w5.setCell ⟨bx, 0, none⟩ (.int .i64 M)).setCell ⟨bx, 1, none⟩ (.slice A1 (pairL M f L kk aa xx).length c1)).setCell ⟨bx, 2, none⟩ (.slice A2 (pairT M tr2 kk aa).length c2)) bx m M f' tr n F (.slice A1 (pairL M f L kk aa xx).length c1) (.slice A2 (pairT M tr2 kk aa).length c2) (pairL M f L kk aa xx) (pairT M tr2 kk aa)) ∧ RegW w3 w4 bx M vs vt q kk aa xx ∧ Below w1.heap.size w1 w4 := by
  have hk : Below w3.heap.size w3 w1 := hr.2.2.2.2.2.2.2.2.2
  have h1 := h.quiet hk
  refine (want_any M vs vt L tr2 f kk aa xx w1 hM h1.slots hl h1.words ht hf hw ha hx).mono fun _ w4 ⟨vs', vt', e, hs, hwd, ns, nt, hb⟩ => ?_
  obtain ⟨A1, c1, rfl, _⟩ := hs.form
  obtain ⟨A2, c2, rfl⟩ := own_len hwd
  refine ⟨A1, c1, A2, c2, e, fun w5 y hy hc => ?_, regw_step hr hb, hb⟩
  have l1 := lt_of_block h.blk
  have l2 := hb.size
  have l3 := Below.size hk
  have l4 := h.below.size
  have hF : F y → y < w3.heap.size := fun hF => (h.foot y hF).1
  refine h1.want hb hs hwd ns nt hy (fun hf => by have := hF hf; omega) (by omega) (fun e2 => ?_) (fun e2 => ?_) (by omega)
  · have := (World.ownsRow.lt hs _ e2).2
    rcases ns with e3 | ns
    · rw [e3] at e2
      have := (World.ownsRow.lt h.slots _ e2).2
      omega
    · have := ns _ e2
      omega
  · have := (World.ownsRow.lt hwd _ e2).2
    rcases nt with e3 | nt
    · rw [e3] at e2
      have := (World.ownsRow.lt h.words _ e2).2
      omega
    · have := nt _ e2
      omega

theorem trace_reg {w : World} {m : Nat} {f : Int → Int} {tr : List Int} {n : Nat} {F : Nat → Prop} {L : List (Int × Int)} {tr2 : List Int} (h : Play w w3 bx m M f tr n F vs vt L tr2) (hn : n < 1000000) (hr : w1.cell? ⟨bx, 2, none⟩ = some vt ∧ Kept w3 w1) :
    Calls Try.prog 14 #[.pointer (some ⟨m, 0, none⟩)] w1 fun e w4 => ∃ A1 c1, e = .returned (.slice A1 tr.length c1) ∧ Hid (WordsOwn w4 (.slice A1 tr.length c1) tr) ∧ w4.cell? ⟨bx, 2, none⟩ = some vt ∧ Kept w3 w4 := by
  have h1 := h.quiet hr.2
  refine (mtrace_any h1.mem hn).mono fun _ w4 ⟨v', e, ho, hb⟩ => ?_
  have ho' := row_zero ho
  obtain ⟨A1, c1, rfl⟩ := own_len ho'
  exact ⟨A1, c1, e, ho', (hb.cell (cell_lt hr.1)).trans hr.1, Below.trans hr.2 (Below.mono hb (Below.size hr.2))⟩

theorem same_reg {w : World} {m : Nat} {f : Int → Int} {tr : List Int} {n : Nat} {F : Nat → Prop} {L : List (Int × Int)} {v : Value} (h : Play w w3 bx m M f tr n F vs vt L tr) (hl : tr.length < 1000000) (ho : WordsOwn w1 v tr) (hr : w1.cell? ⟨bx, 2, none⟩ = some vt ∧ Kept w3 w1) :
    Calls Try.prog 13 #[v, vt] w1 fun e w4 => e = .returned (.bool true) ∧ w4.cell? ⟨bx, 2, none⟩ = some vt ∧ Kept w3 w4 := by
  have h1 := h.quiet hr.2
  refine (same_any w1 v vt tr ho h1.words hl).mono fun _ w4 ⟨e, k, hk⟩ => ?_
  subst hk
  exact ⟨e, hr.1, Below.trans hr.2 (Below.mono (drewN_below w1 k) (Below.size hr.2))⟩
end

set_option maxRecDepth 100000 in
set_option maxHeartbeats 8000000 in
theorem memPlays_yes (A : Option Addr) (c : Nat) (ds : List (Int × Int × Int)) (M : Int) (w : World) (hl : ds.length ≤ maxLen) (hd : DeedsIn w A ds) (hok : DeedsOk ds) (hM : 14 ≤ M ∧ M ≤ 22) :
    Calls Try.prog 3 #[.int .i64 M, .slice A ds.length c] w fun e w' => e = .returned (.bool true) ∧ Below w.heap.size w w' := by
  unfold maxLen at hl
  have HM := Lib.hid hM
  obtain ⟨m0, m1⟩ := hM
  have HD := Lib.hid hd
  have HOK := Lib.hid hok
  clear hd hok
  go_enter Try.func3, Try.ntmps3
  go_wp2_with (first | (go_at_call 9; refine (awake4_any _).mono ?_; rintro e w1 ⟨rfl, hB1⟩) | (go_at_call 10; refine (newMem_any M _ HM.out).mono ?_; rintro e w2 ⟨rfl, hM2, hB2⟩))
  obtain ⟨F0, hP0⟩ := play_start hM2 hB1.size (hB1.trans (hB2.mono hB1.size))
  obtain ⟨bx, hbx⟩ : ∃ bx, w2.heap.size = bx := ⟨_, rfl⟩
  obtain ⟨m, hm⟩ : ∃ m, w1.heap.size + 1 = m := ⟨_, rfl⟩
  rw [hbx, hm] at hP0
  rw [hbx, hm]
  clear hbx hm hM2
  go_loopw [8] (fun i wr => ∃ (k : Nat) (F : Nat → Prop) (vs vt : Value), k ≤ many ds ∧ i = .int .i64 k ∧ Play w wr bx m M (playF M ds k) (playT M ds k) k F vs vt (playL M ds k) (playT M ds k)) (fun i _ => (120 - intOf i).toNat)
  case atStart => exact ⟨0, F0, _, _, Nat.zero_le _, rfl, hP0⟩
  case round =>
    obtain ⟨k, F, vs, vt, hk, rfl, hP⟩ := hrel
    clear hP0 F0
    have hm0 : many ds ≤ 120 := by unfold many; omega
    have hm1 : many ds ≤ ds.length := by unfold many; omega
    by_cases hlt : k < many ds
    · have hks : k < ds.length := by omega
      have h120 : (k : Int) < 120 := by omega
      obtain ⟨ad, rfl, c0, c1', c2'⟩ := deeds_below HD.out hP.below k hks
      obtain ⟨ha, hx⟩ := HOK.out k hks
      have c1 : wr.cell? ⟨(ad.add (k * 3)).block, (ad.add (k * 3)).off + 1, none⟩ = some (.int .u64 (ds.getD k (0, 0, 0)).2.1) := c1'
      have c2 : wr.cell? ⟨(ad.add (k * 3)).block, (ad.add (k * 3)).off + 2, none⟩ = some (.int .u64 (ds.getD k (0, 0, 0)).2.2) := c2'
      have hF : playF M ds (k + 1) = pairF M (playF M ds k) (ds.getD k (0, 0, 0)).1 (ds.getD k (0, 0, 0)).2.1 (ds.getD k (0, 0, 0)).2.2 := rfl
      have hT : playT M ds (k + 1) = pairT M (playT M ds k) (ds.getD k (0, 0, 0)).1 (ds.getD k (0, 0, 0)).2.1 := rfl
      have hL : playL M ds (k + 1) = pairL M (playF M ds k) (playL M ds k) (ds.getD k (0, 0, 0)).1 (ds.getD k (0, 0, 0)).2.1 (ds.getD k (0, 0, 0)).2.2 := rfl
      have HQ := Lib.hid (fun (w3 : World) (hb : Below w.heap.size w w3) => deeds_below HD.out hb k hks)
      generalize (ds.getD k (0, 0, 0)).1 = kk at *
      generalize (ds.getD k (0, 0, 0)).2.1 = aa at *
      generalize (ds.getD k (0, 0, 0)).2.2 = xx at *
      have HF := Lib.hid hF
      have HT := Lib.hid hT
      have HL := Lib.hid hL
      have hw := Lib.hid hP.mem.words
      have HA := Lib.hid (agree_play M ds k)
      have hl1 := playL_len M ds k
      have hl2 := playT_len M ds k
      have hl3 : Hid ((pairT M (playT M ds k) kk aa).length < 1000000) := Lib.hid (by rw [← hT]; have := playT_len M ds (k + 1); omega)
      clear hF hT hL c1' c2'
      go_wp2_with (go_at_call 11; refine (pair_any hP.mem (by omega) _ _ _ ha hx).mono ?_; rintro e w3 ⟨rfl, hM3, hT3⟩; obtain ⟨F3, hP3⟩ := hP.pair hM3 hT3; clear hM3 hT3)
      obtain ⟨ad', e', b0, b1, b2⟩ := HQ.out w3 hP3.below
      obtain rfl : ad' = ad := (Option.some.inj e').symm
      have HR := regw_start hP3 b0 (show w3.cell? ⟨(ad'.add (k * 3)).block, (ad'.add (k * 3)).off + 1, none⟩ = some (.int .u64 aa) from b1) (show w3.cell? ⟨(ad'.add (k * 3)).block, (ad'.add (k * 3)).off + 2, none⟩ = some (.int .u64 xx) from b2)
      have hbx := lt_of_block hP3.blk
      have hq : (ad'.add (k * 3)).block < w3.heap.size := cell_lt b0
      clear b0 b1 b2 c0 c1 c2
      go_region_held3 (fun w' => w'.cell? ⟨bx, 0, none⟩ = some (.int .i64 M) ∧ w'.cell? ⟨bx, 1, none⟩ = some vs ∧ w'.cell? ⟨bx, 2, none⟩ = some vt ∧ w'.frozen? ⟨bx, 0, none⟩ = false ∧ w'.frozen? ⟨bx, 1, none⟩ = false ∧ w'.frozen? ⟨bx, 2, none⟩ = false ∧ w'.cell? (ad'.add (k * 3)) = some (.int .i64 kk) ∧ w'.cell? ⟨(ad'.add (k * 3)).block, (ad'.add (k * 3)).off + 1, none⟩ = some (.int .u64 aa) ∧ w'.cell? ⟨(ad'.add (k * 3)).block, (ad'.add (k * 3)).off + 2, none⟩ = some (.int .u64 xx) ∧ Kept w3 w')
        (first | assumption | exact HR | exact regw_alloc (by assumption) _ | exact regw_set hbx hq (by assumption) (Nat.le_refl _) _ _ _)
        (first | (go_at_call 12; refine (want_reg hP3 (by assumption) HM.out (by omega) (by omega) HA.out hw.out ha hx).mono ?_; rintro e w4 ⟨A1, c1, A2, c2, rfl, HP5, hR4, hB4⟩; first | (obtain ⟨y0, y1, y2, y3, y4, y5⟩ := y_three hB4 (by simp)) | skip))
      · have hP5 := HP5.out _ _ (turn_alloc w4 (.cells #[.int .i64 M, .slice A1 (pairL M (playF M ds k) (playL M ds k) kk aa xx).length c1, .slice A2 (pairT M (playT M ds k) kk aa).length c2] 29)) (Or.inl rfl)
        obtain ⟨w5, hw5, hP6⟩ := hP5.name
        go_wp2
        try rw [hw5]
        clear hw5 hP5
        have HR5 : w5.drew.cell? ⟨bx, 2, none⟩ = some (.slice A2 (pairT M (playT M ds k) kk aa).length c2) ∧ Kept w5 w5.drew := ⟨hP6.three.c2, Kept.drew0 _⟩
        go_region_held3 (fun w' => w'.cell? ⟨bx, 2, none⟩ = some (.slice A2 (pairT M (playT M ds k) kk aa).length c2) ∧ Kept w5 w')
          (first | assumption | exact HR5)
          (first | (go_at_call 14; refine (trace_reg hP6 (by omega) (by assumption)).mono ?_; rintro e w6 ⟨A6, c6, rfl, HO6, hR6⟩) | (go_at_call 13; refine (same_reg hP6 hl3.out HO6.out (by assumption)).mono ?_; rintro e w7 ⟨rfl, hR7⟩))
        rename_i hH
        go_wp2
        go_roundw
        case rel => exact ⟨k + 1, F3, _, _, by omega, by go_num, by rw [HF.out, HT.out, HL.out]; exact hP6.quiet hH.2⟩
        case measure => simp [intOf]; omega
      · have hP5 := HP5.out _ _ (turn_set3 w4 w3.heap.size (.int .i64 M) (.slice A1 (pairL M (playF M ds k) (playL M ds k) kk aa xx).length c1) (.slice A2 (pairT M (playT M ds k) kk aa).length c2)) (Or.inr ⟨rfl, by simp⟩)
        obtain ⟨w5, hw5, hP6⟩ := hP5.name
        go_wp2
        try rw [hw5]
        clear hw5 hP5
        have HR5 : w5.drew.cell? ⟨bx, 2, none⟩ = some (.slice A2 (pairT M (playT M ds k) kk aa).length c2) ∧ Kept w5 w5.drew := ⟨hP6.three.c2, Kept.drew0 _⟩
        go_region_held3 (fun w' => w'.cell? ⟨bx, 2, none⟩ = some (.slice A2 (pairT M (playT M ds k) kk aa).length c2) ∧ Kept w5 w')
          (first | assumption | exact HR5)
          (first | (go_at_call 14; refine (trace_reg hP6 (by omega) (by assumption)).mono ?_; rintro e w6 ⟨A6, c6, rfl, HO6, hR6⟩) | (go_at_call 13; refine (same_reg hP6 hl3.out HO6.out (by assumption)).mono ?_; rintro e w7 ⟨rfl, hR7⟩))
        rename_i hH
        go_wp2
        go_roundw
        case rel => exact ⟨k + 1, F3, _, _, by omega, by go_num, by rw [HF.out, HT.out, HL.out]; exact hP6.quiet hH.2⟩
        case measure => simp [intOf]; omega
    · have e : k = many ds := by omega
      by_cases h1 : k < ds.length
      · have h2 : k = 120 := by unfold many at e; omega
        subst h2
        go_wp2_with (go_at_call 15; refine (mbits_any hP.mem).mono ?_; rintro e w' ⟨rfl, rfl⟩)
        go_ret
        exact ⟨rfl, hP.below⟩
      · have h2 : ds.length ≤ k := by omega
        go_wp2_with (go_at_call 15; refine (mbits_any hP.mem).mono ?_; rintro e w' ⟨rfl, rfl⟩)
        go_ret
        exact ⟨rfl, hP.below⟩

theorem memPlays_walk (A : Option Addr) (c : Nat) (ds : List (Int × Int × Int)) (M : Int) (w : World) (hl : ds.length ≤ maxLen) (hd : DeedsIn w A ds) (hok : DeedsOk ds) :
    Calls Try.prog 3 #[.int .i64 M, .slice A ds.length c] w fun e w' => e = .returned (.bool true) ∧ Below w.heap.size w w' := by
  by_cases h : 14 ≤ M ∧ M ≤ 22
  · exact memPlays_yes A c ds M w hl hd hok h
  · exact memPlays_no A c ds.length M w (by omega)

end Go.Proofs.Ytfakfmefjfemhaa
