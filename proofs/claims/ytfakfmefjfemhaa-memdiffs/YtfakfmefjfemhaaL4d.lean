/- The walk of MemDiffs (laid by tools/gen_l4d.py). -/
import Derived.Test.YtfakfmefjfemhaaDf
import Derived.Deep.CutRange
import Derived.Deep.CutBlock
import Derived.Deep.Cut
namespace Go.Proofs.Ytfakfmefjfemhaa
set_option linter.unusedVariables false
set_option linter.unusedSimpArgs false
open Go.ChangeShapes Go.WideShapes Go.ChangeAt Go.RowKit Go.Joins

/-- what there is behind the deeds: both memories, both of the document's, and where they differ -/
structure Fin4 (w wr : World) (F F' : Nat → Prop) (m m' bx : Nat) (f g : Int → Int) (tr tr' : List Int) (vs vt vs' vt' : Value) (L K : List (Int × Int)) : Prop where
  ma : Mem wr F m 16 f tr 120
  mb : Mem wr F' m' 16 g tr' 120
  tx : Three wr bx (.int .i64 16) vs vt
  ty : Three wr (bx + 1) (.int .i64 16) vs' vt'
  sx : SlotsOwn wr vs L
  wx : WordsOwn wr vt tr
  sy : SlotsOwn wr vs' K
  wy : WordsOwn wr vt' tr'
  below : Below w.heap.size w wr

theorem Fin4.kept {w wr w' : World} {F F' : Nat → Prop} {m m' bx : Nat} {f g : Int → Int} {tr tr' : List Int} {vs vt vs' vt' : Value} {L K : List (Int × Int)} (h : Fin4 w wr F F' m m' bx f g tr tr' vs vt vs' vt' L K) (hb : Below wr.heap.size wr w') : Fin4 w w' F F' m m' bx f g tr tr' vs vt vs' vt' L K :=
  ⟨h.ma.kept hb, h.mb.kept hb, three_below h.tx hb (cell_lt h.tx.c0), three_below h.ty hb (cell_lt h.ty.c0), own_below h.sx hb, own_below h.wx hb, own_below h.sy hb, own_below h.wy hb, h.below.trans (hb.mono h.below.size)⟩

theorem same_kept (w : World) (v1 v2 : Value) (zs : List Int) (h1 : WordsOwn w v1 zs) (h2 : WordsOwn w v2 zs) (hl : zs.length < 1000000) :
    Calls Try.prog 13 #[v1, v2] w fun e w' => e = .returned (.bool true) ∧ Below w.heap.size w w' :=
  (same_any w v1 v2 zs h1 h2 hl).mono fun _ _ ⟨e, n, hn⟩ => ⟨e, by rw [hn]; exact drewN_below _ _⟩

theorem words_keep {w w' : World} {v : Value} {zs : List Int} (h : WordsOwn w v zs) (hb : Below w.heap.size w w') : WordsOwn w' v zs := own_below h hb
theorem lst_words {w : World} {B : Nat} {v : Value} {zs : List Int} (h : Lst w B v zs) : WordsOwn w v zs := row_zero h

set_option maxRecDepth 100000 in
set_option maxHeartbeats 16000000 in
theorem memDiffs_walk (A A' : Option Addr) (c c' : Nat) (ds ks : List (Int × Int × Int)) (w : World) (hl : ds.length ≤ maxLen) (hd : DeedsIn w A ds) (hok : DeedsOk ds) (hl' : ks.length ≤ maxLen) (hd' : DeedsIn w A' ks) (hok' : DeedsOk ks) :
    Calls Try.prog 6 #[.slice A ds.length c, .slice A' ks.length c'] w fun e w' => e = .returned (.bool true) ∧ Below w.heap.size w w' := by
  have HRa := Lib.hid (fun w' hb => run_any w' A c ds hl (deeds_below hd hb) hok)
  have HRb := Lib.hid (fun w' hb => run_any w' A' c' ks hl' (deeds_below hd' hb) hok')
  have m0 : many ds ≤ 120 := by unfold many; omega
  have m1 : many ds ≤ ds.length := by unfold many; omega
  have m2 : many ks ≤ 120 := by unfold many; omega
  have m3 : many ks ≤ ks.length := by unfold many; omega
  unfold maxLen at hl hl'
  have HD := Lib.hid hd
  have HOK := Lib.hid hok
  have HD' := Lib.hid hd'
  have HOK' := Lib.hid hok'
  have HI := Lib.hid (And.intro (inside_play 16 ds hok _ m1) (inside_play 16 ks hok' _ m3))
  have HA := Lib.hid (And.intro (agree_play 16 ds (many ds)) (agree_play 16 ks (many ks)))
  have HRI := Lib.hid (And.intro (ris_play 16 ds hok _ m1) (ris_play 16 ks hok' _ m3))
  have n0 := playL_len 16 ds (many ds)
  have n1 := playL_len 16 ks (many ks)
  clear hd hok hd' hok'
  obtain ⟨f, hf⟩ : ∃ f, playF 16 ds (many ds) = f := ⟨_, rfl⟩
  obtain ⟨g, hg⟩ : ∃ g, playF 16 ks (many ks) = g := ⟨_, rfl⟩
  obtain ⟨tr, ht⟩ : ∃ tr, playT 16 ds (many ds) = tr := ⟨_, rfl⟩
  obtain ⟨tr', ht'⟩ : ∃ tr', playT 16 ks (many ks) = tr' := ⟨_, rfl⟩
  obtain ⟨L, hL⟩ : ∃ L, playL 16 ds (many ds) = L := ⟨_, rfl⟩
  obtain ⟨K, hK⟩ : ∃ K, playL 16 ks (many ks) = K := ⟨_, rfl⟩
  rw [hf, ht] at HRa
  rw [hg, ht'] at HRb
  rw [hf, hg] at HI HA
  rw [hL, hK] at HA HRI
  rw [hL] at n0
  rw [hK] at n1
  have HEq := Lib.hid (And.intro hL ht)
  have HEq' := Lib.hid (And.intro hK ht')
  clear hf hg ht ht' hL hK
  go_enter Try.func6, Try.ntmps6
  go_upto_block 0 with (first | (go_at_call 9; refine (awake4_any _).mono ?_; rintro e w1 ⟨rfl, hB1⟩; have HB1 := Lib.hid hB1; clear hB1) | (go_at_call 16; (with_reducible refine (HRa.out _ HB1.out).mono ?_); rintro e w2 ⟨rfl, hM2, hB2⟩; have HM2 := Lib.hid hM2.foot; have HB2 := Lib.hid (HB1.out.trans (hB2.mono HB1.out.size)); have hs1 : w1.heap.size ≤ w2.heap.size := hB2.size; clear hB2 hM2) | (go_at_call 16; (with_reducible refine (HRb.out _ HB2.out).mono ?_); rintro e w3 ⟨rfl, hM3, hB3⟩; have HM3 := Lib.hid (HM2.out.kept hB3); have HN3 := Lib.hid hM3.foot; have HB3 := Lib.hid (HB2.out.trans (hB3.mono HB2.out.size)); have hs2 : w2.heap.size ≤ w3.heap.size := hB3.size; clear hB3 hM3))
  obtain ⟨tb1, tb2, tb3, tb4⟩ := two_docs w3 (.cells #[.int .i64 16, .slice none 0 0, .slice none 0 0] 29) (.cells #[.int .i64 16, .slice none 0 0, .slice none 0 0] 29)
  obtain ⟨w5, hw5⟩ : ∃ w5, (w3.alloc (.cells #[.int .i64 16, .slice none 0 0, .slice none 0 0] 29)).alloc (.cells #[.int .i64 16, .slice none 0 0, .slice none 0 0] 29) = w5 := ⟨_, rfl⟩
  rw [hw5] at tb1 tb2 tb3 tb4 ⊢
  have HM5 := Lib.hid (HM3.out.kept tb3)
  have HN5 := Lib.hid (HN3.out.kept tb3)
  have HB5 := Lib.hid (HB3.out.trans (tb3.mono HB3.out.size))
  have hw1 : w.heap.size ≤ w1.heap.size := HB1.out.size
  obtain ⟨m, hm⟩ : ∃ m, w1.heap.size + 1 = m := ⟨_, rfl⟩
  obtain ⟨m', hm'⟩ : ∃ m', w2.heap.size + 1 = m' := ⟨_, rfl⟩
  obtain ⟨B1, hb1⟩ : ∃ B1, w1.heap.size = B1 := ⟨_, rfl⟩
  obtain ⟨B2, hb2⟩ : ∃ B2, w2.heap.size = B2 := ⟨_, rfl⟩
  obtain ⟨bx, hbx⟩ : ∃ bx, w3.heap.size = bx := ⟨_, rfl⟩
  rw [hm, hb1, hb2] at HM5
  rw [hm', hb2, hbx] at HN5
  rw [hbx] at tb1 tb2 tb4 hs2
  rw [hb2] at hs1 hs2
  rw [hb1] at hs1 hw1
  rw [hm, hm', hbx]
  have hbx0 : w.heap.size ≤ bx := by omega
  have HT1 := Lib.hid (DocAt.start tb1)
  have HT2 := Lib.hid tb2
  have hs5 : bx + 1 < w5.heap.size := by omega
  clear hm hm' hb1 hb2 hbx hw5 tb1 tb2 tb3 tb4 HM2 HM3 HN3 HB1 HB2 HB3 HRa HRb
  go_cut [10, 11, 12, 13] from 37 (fun _ _ _ _ wc => ∃ vs vt : Value, Hid (DocAt w5 wc bx 16 vs vt L tr))
  case first =>
    go_wp2
    go_loopw [10] (fun i wr => ∃ (k : Nat) (vs vt : Value), k ≤ many ds ∧ i = .int .i64 k ∧ Hid (DocAt w5 wr bx 16 vs vt (playL 16 ds k) (playT 16 ds k))) (fun i _ => (120 - intOf i).toNat)
    case atStart => exact ⟨0, _, _, Nat.zero_le _, rfl, HT1⟩
    case round =>
      obtain ⟨k, vs, vt, hk, rfl, HP⟩ := hrel
      by_cases hlt : k < many ds
      · have hks : k < ds.length := by omega
        have h120 : (k : Int) < 120 := by omega
        have hkI : (k : Int) < (ds.length : Int) := by omega
        obtain ⟨ad, hA, b0, b1, b2⟩ := deeds_below HD.out (HP.out.below HB5.out hbx0) k hks
        subst hA
        obtain ⟨ha, hx⟩ := HOK.out k hks
        have hL : playL 16 ds (k + 1) = pairL 16 (playF 16 ds k) (playL 16 ds k) (ds.getD k (0, 0, 0)).1 (ds.getD k (0, 0, 0)).2.1 (ds.getD k (0, 0, 0)).2.2 := rfl
        have hT : playT 16 ds (k + 1) = pairT 16 (playT 16 ds k) (ds.getD k (0, 0, 0)).1 (ds.getD k (0, 0, 0)).2.1 := rfl
        generalize (ds.getD k (0, 0, 0)).1 = kk at *
        generalize (ds.getD k (0, 0, 0)).2.1 = aa at *
        generalize (ds.getD k (0, 0, 0)).2.2 = xx at *
        have HLT := Lib.hid (And.intro hL hT)
        have HAX := Lib.hid (And.intro ha hx)
        have HAg := Lib.hid (agree_play 16 ds k)
        have HWs := Lib.hid (play_words 16 ds HOK.out k (by omega))
        have hl1 := playL_len 16 ds k
        have hl2 := playT_len 16 ds k
        clear hL hT ha hx
        have HR := regd2_start HP.out b0 (show wr.cell? ⟨(ad.add (k * 3)).block, (ad.add (k * 3)).off + 1, none⟩ = some (.int .u64 aa) from b1) (show wr.cell? ⟨(ad.add (k * 3)).block, (ad.add (k * 3)).off + 2, none⟩ = some (.int .u64 xx) from b2)
        have hbxl := lt_of_block HP.out.blk
        have hq : (ad.add (k * 3)).block < wr.heap.size := cell_lt b0
        clear b0 b1 b2
        go_wp2
        go_region_held3 (fun w' => w'.cell? ⟨bx, 0, none⟩ = some (.int .i64 16) ∧ w'.cell? ⟨bx, 1, none⟩ = some vs ∧ w'.cell? ⟨bx, 2, none⟩ = some vt ∧ w'.frozen? ⟨bx, 0, none⟩ = false ∧ w'.frozen? ⟨bx, 1, none⟩ = false ∧ w'.frozen? ⟨bx, 2, none⟩ = false ∧ w'.cell? (ad.add (k * 3)) = some (.int .i64 kk) ∧ w'.cell? ⟨(ad.add (k * 3)).block, (ad.add (k * 3)).off + 1, none⟩ = some (.int .u64 aa) ∧ w'.cell? ⟨(ad.add (k * 3)).block, (ad.add (k * 3)).off + 2, none⟩ = some (.int .u64 xx) ∧ Kept wr w')
          (first | assumption | exact HR | exact regw_alloc (by assumption) _ | exact regw_set hbxl hq (by assumption) (Nat.le_refl _) _ _ _)
          (first | (go_at_call 12; refine (want_doc HP.out (by assumption) ⟨by decide, by decide⟩ (by omega) (by omega) HAg.out HWs.out HAX.out.1 HAX.out.2).mono ?_; rintro e w4 ⟨A1, c1, A2, c2, rfl, HP5, hR4, hB4⟩; first | (obtain ⟨y0, y1, y2, y3, y4, y5⟩ := y_three hB4 (by simp)) | skip))
        · have hP5 := Lib.hid (HP5.out _ _ (turn_alloc w4 (.cells #[.int .i64 16, .slice A1 (pairL 16 (playF 16 ds k) (playL 16 ds k) kk aa xx).length c1, .slice A2 (pairT 16 (playT 16 ds k) kk aa).length c2] 29)) (Or.inl rfl))
          go_wp2
          go_roundw
          case rel => exact ⟨k + 1, _, _, by omega, by go_num, by rw [HLT.out.1, HLT.out.2]; exact hP5⟩
          case measure => simp [intOf]; omega
        · have hP5 := Lib.hid (HP5.out _ _ (turn_set3 w4 wr.heap.size (.int .i64 16) (.slice A1 (pairL 16 (playF 16 ds k) (playL 16 ds k) kk aa xx).length c1) (.slice A2 (pairT 16 (playT 16 ds k) kk aa).length c2)) (Or.inr ⟨rfl, by simp⟩))
          go_wp2
          go_roundw
          case rel => exact ⟨k + 1, _, _, by omega, by go_num, by rw [HLT.out.1, HLT.out.2]; exact hP5⟩
          case measure => simp [intOf]; omega
      · have e : k = many ds := by omega
        have HP2 : Hid (DocAt w5 wr bx 16 vs vt L tr) := Lib.hid (by rw [← HEq.out.1, ← HEq.out.2, ← e]; exact HP.out)
        by_cases h1 : k < ds.length
        · have h2 : k = 120 := by unfold many at e; omega
          clear e hlt
          subst h2
          go_wp2
          go_meet
          case rel => exact ⟨vs, vt, HP2⟩
        · have h2 : ds.length ≤ k := by omega
          clear e hlt
          go_wp2
          go_meet
          case rel => exact ⟨vs, vt, HP2⟩
  case rest =>
    obtain ⟨wA, rfl⟩ : ∃ wA, wA = wc := ⟨_, rfl⟩
    obtain ⟨vs, vt, HX⟩ := hcut
    have HM6 := Lib.hid (HM5.out.turned HX.out.turn (fun i _ hi e => by have h1 := hi.2; omega))
    have HN6 := Lib.hid (HN5.out.turned HX.out.turn (fun i _ hi e => by have h1 := hi.2; omega))
    have HB6 := Lib.hid (HX.out.below HB5.out hbx0)
    have hs6 : bx + 1 < wA.heap.size := Nat.lt_of_lt_of_le hs5 HX.out.turn.size
    have HT3 := Lib.hid ((HX.out.turn.block (bx + 1) hs5 (by omega)).trans HT2.out)
    have HT4 := Lib.hid (DocAt.start HT3.out)
    have hbx1 : w.heap.size ≤ bx + 1 := by omega
    go_upto_block 2 with fail
    go_cut [14, 15, 16, 17] from 37 (fun _ _ _ _ wc => ∃ vs vt : Value, Hid (DocAt wA wc (bx + 1) 16 vs vt K tr'))
    case first =>
      go_wp2
      go_loopw [14] (fun i wr => ∃ (k : Nat) (vs vt : Value), k ≤ many ks ∧ i = .int .i64 k ∧ Hid (DocAt wA wr (bx + 1) 16 vs vt (playL 16 ks k) (playT 16 ks k))) (fun i _ => (120 - intOf i).toNat)
      case atStart => exact ⟨0, _, _, Nat.zero_le _, rfl, HT4⟩
      case round =>
        obtain ⟨k, vs, vt, hk, rfl, HP⟩ := hrel
        by_cases hlt : k < many ks
        · have hks : k < ks.length := by omega
          have h120 : (k : Int) < 120 := by omega
          have hkI : (k : Int) < (ks.length : Int) := by omega
          obtain ⟨ad, hA, b0, b1, b2⟩ := deeds_below HD'.out (HP.out.below HB6.out hbx1) k hks
          subst hA
          obtain ⟨ha, hx⟩ := HOK'.out k hks
          have hL : playL 16 ks (k + 1) = pairL 16 (playF 16 ks k) (playL 16 ks k) (ks.getD k (0, 0, 0)).1 (ks.getD k (0, 0, 0)).2.1 (ks.getD k (0, 0, 0)).2.2 := rfl
          have hT : playT 16 ks (k + 1) = pairT 16 (playT 16 ks k) (ks.getD k (0, 0, 0)).1 (ks.getD k (0, 0, 0)).2.1 := rfl
          generalize (ks.getD k (0, 0, 0)).1 = kk at *
          generalize (ks.getD k (0, 0, 0)).2.1 = aa at *
          generalize (ks.getD k (0, 0, 0)).2.2 = xx at *
          have HLT := Lib.hid (And.intro hL hT)
          have HAX := Lib.hid (And.intro ha hx)
          have HAg := Lib.hid (agree_play 16 ks k)
          have HWs := Lib.hid (play_words 16 ks HOK'.out k (by omega))
          have hl1 := playL_len 16 ks k
          have hl2 := playT_len 16 ks k
          clear hL hT ha hx
          have HR := regd2_start HP.out b0 (show wr.cell? ⟨(ad.add (k * 3)).block, (ad.add (k * 3)).off + 1, none⟩ = some (.int .u64 aa) from b1) (show wr.cell? ⟨(ad.add (k * 3)).block, (ad.add (k * 3)).off + 2, none⟩ = some (.int .u64 xx) from b2)
          have hbxl := lt_of_block HP.out.blk
          have hq : (ad.add (k * 3)).block < wr.heap.size := cell_lt b0
          clear b0 b1 b2
          go_wp2
          go_region_held3 (fun w' => w'.cell? ⟨(bx + 1), 0, none⟩ = some (.int .i64 16) ∧ w'.cell? ⟨(bx + 1), 1, none⟩ = some vs ∧ w'.cell? ⟨(bx + 1), 2, none⟩ = some vt ∧ w'.frozen? ⟨(bx + 1), 0, none⟩ = false ∧ w'.frozen? ⟨(bx + 1), 1, none⟩ = false ∧ w'.frozen? ⟨(bx + 1), 2, none⟩ = false ∧ w'.cell? (ad.add (k * 3)) = some (.int .i64 kk) ∧ w'.cell? ⟨(ad.add (k * 3)).block, (ad.add (k * 3)).off + 1, none⟩ = some (.int .u64 aa) ∧ w'.cell? ⟨(ad.add (k * 3)).block, (ad.add (k * 3)).off + 2, none⟩ = some (.int .u64 xx) ∧ Kept wr w')
            (first | assumption | exact HR | exact regw_alloc (by assumption) _ | exact regw_set hbxl hq (by assumption) (Nat.le_refl _) _ _ _)
            (first | (go_at_call 12; refine (want_doc HP.out (by assumption) ⟨by decide, by decide⟩ (by omega) (by omega) HAg.out HWs.out HAX.out.1 HAX.out.2).mono ?_; rintro e w4 ⟨A1, c1, A2, c2, rfl, HP5, hR4, hB4⟩; first | (obtain ⟨y0, y1, y2, y3, y4, y5⟩ := y_three hB4 (by simp)) | skip))
          · have hP5 := Lib.hid (HP5.out _ _ (turn_alloc w4 (.cells #[.int .i64 16, .slice A1 (pairL 16 (playF 16 ks k) (playL 16 ks k) kk aa xx).length c1, .slice A2 (pairT 16 (playT 16 ks k) kk aa).length c2] 29)) (Or.inl rfl))
            go_wp2
            go_roundw
            case rel => exact ⟨k + 1, _, _, by omega, by go_num, by rw [HLT.out.1, HLT.out.2]; exact hP5⟩
            case measure => simp [intOf]; omega
          · have hP5 := Lib.hid (HP5.out _ _ (turn_set3 w4 wr.heap.size (.int .i64 16) (.slice A1 (pairL 16 (playF 16 ks k) (playL 16 ks k) kk aa xx).length c1) (.slice A2 (pairT 16 (playT 16 ks k) kk aa).length c2)) (Or.inr ⟨rfl, by simp⟩))
            go_wp2
            go_roundw
            case rel => exact ⟨k + 1, _, _, by omega, by go_num, by rw [HLT.out.1, HLT.out.2]; exact hP5⟩
            case measure => simp [intOf]; omega
        · have e : k = many ks := by omega
          have HP2 : Hid (DocAt wA wr (bx + 1) 16 vs vt K tr') := Lib.hid (by rw [← HEq'.out.1, ← HEq'.out.2, ← e]; exact HP.out)
          by_cases h1 : k < ks.length
          · have h2 : k = 120 := by unfold many at e; omega
            clear e hlt
            subst h2
            go_wp2
            go_meet
            case rel => exact ⟨vs, vt, HP2⟩
          · have h2 : ks.length ≤ k := by omega
            clear e hlt
            go_wp2
            go_meet
            case rel => exact ⟨vs, vt, HP2⟩
    case rest =>
      obtain ⟨vs', vt', HY⟩ := hcut
      have hne : ∀ i, i = bx → ¬ i = bx + 1 := fun i h => by omega
      have HF0 : Hid (Fin4 w wc (Foot B1 B2) (Foot B2 bx) m m' bx f g tr tr' vs vt vs' vt' L K) := Lib.hid
        ⟨HM6.out.turned HY.out.turn (fun i _ hi e => by have h1 := hi.2; omega), HN6.out.turned HY.out.turn (fun i _ hi e => by have h1 := hi.2; omega),
          three_of ((HY.out.turn.block bx (by omega) (by omega)).trans HX.out.blk), HY.out.three, own_turn HX.out.slots HY.out.turn (not_box HX.out.slots HT3.out (by decide)), own_turn HX.out.words HY.out.turn (not_box HX.out.words HT3.out (by decide)), HY.out.slots, HY.out.words, HY.out.below HB6.out hbx1⟩
      clear hne HM5 HN5 HB5 HM6 HN6 HB6 HT1 HT2 HT3 HT4 HX HY HD HOK HD' HOK' HEq HEq'
      go_upto_block 4 with (go_at_call 24; (with_reducible refine (diff_mem HF0.out.ma HF0.out.mb (by decide) (by decide)).mono ?_); rintro e w6 ⟨A6, c6, d, rfl, hL6, hI6, hB6⟩; have HF := Lib.hid (HF0.out.kept hB6); have HL := Lib.hid (lst_words hL6); have HId := Lib.hid hI6; clear hL6 hI6 hB6 HF0)
      have hin : ∀ x ∈ d, 0 ≤ x ∧ x < 65536 ∧ errS 16 x = 0 := fun x hx => dif_inside HI.out.1 HI.out.2 ((HId.out.2 x).1 hx)
      have hdl : d.length ≤ 65536 := nodup_len 65536 d (HId.out.1.imp (fun h => by omega)) (fun x hx => ⟨(hin x hx).1, (hin x hx).2.1⟩)
      have HIN := Lib.hid hin
      clear hin
      obtain ⟨A7, c7, hv7, hcd⟩ := WordsOwn.form HL.out
      obtain ⟨rfl, rfl⟩ : A6 = A7 ∧ c6 = c7 := by simpa using hv7
      have HCD := Lib.hid hcd
      clear hv7 hcd
      go_wp2
      go_loopw [19] (fun i wr => ∃ k : Nat, k ≤ d.length ∧ i = .int .i64 k ∧ wr = w6) (fun i _ => (d.length - intOf i).toNat)
      case atStart => exact ⟨0, Nat.zero_le _, rfl, rfl⟩
      case round =>
        obtain ⟨k, hk, rfl, rfl⟩ := hrel
        by_cases hlt : k < d.length
        · obtain ⟨gd, rfl, cd⟩ := HCD.out k hlt
          have hmem : d.getD k 0 ∈ d := by simp [List.getD, List.getElem?_eq_getElem hlt]
          obtain ⟨h0, h1, h2⟩ := HIN.out _ hmem
          have hne := ((HId.out.2 _).1 hmem).2
          generalize d.getD k 0 = z at *
          have hp : peekV 16 f z = f (z / 8) := if_pos h2
          have hq : peekV 16 g z = g (z / 8) := if_pos h2
          generalize f (z / 8) = p at *
          generalize g (z / 8) = q at *
          have epq : (p == q) = false := by simpa using hne
          have HZ := Lib.hid (w64_16 h0 h1)
          have klt : (k : Int) < (d.length : Int) := by omega
          clear hne hmem
          go_wp2_with (first | (go_at_call 17; (with_reducible refine (mpeek_any HF.out.ma _ HZ.out).mono ?_); rintro e w' ⟨rfl, rfl⟩) | (go_at_call 17; (with_reducible refine (mpeek_any HF.out.mb _ HZ.out).mono ?_); rintro e w' ⟨rfl, rfl⟩))
          go_roundw
          case rel => exact ⟨k + 1, by omega, by go_num, by first | rfl | trivial⟩
          case measure => simp [intOf]; omega
        · have hge : d.length ≤ k := by omega
          clear HCD
          obtain ⟨⟨p0, p1, p2, _, _, _⟩, ⟨q0, q1, q2, _, _, _⟩⟩ := And.intro HF.out.tx HF.out.ty
          go_wp2_with (first
            | (go_at_call 25; (with_reducible refine (rDiff_any _ _ _ _ _ L K tr tr' f g _ HF.out.sx HF.out.sy HF.out.wx HF.out.wy (by omega) (by omega) HRI.out.1 HRI.out.2 HA.out.1 HA.out.2).mono ?_); rintro e w7 ⟨A8, c8, d8, rfl, hL8, hI8, hB8⟩; obtain rfl := hI8.same HId.out; have HL8 := Lib.hid (lst_words hL8); have HF1 := Lib.hid (HF.out.kept hB8); have HL1 := Lib.hid (words_keep HL.out hB8); clear hL8 hI8 hB8 p0 p1 p2 q0 q1 q2)
            | (go_at_call 13; (with_reducible refine (same_kept _ _ _ _ HL1.out HL8.out (by omega)).mono ?_); rintro e w8 ⟨rfl, hB8⟩; have HF2 := Lib.hid (HF1.out.kept hB8); have HL2 := Lib.hid (words_keep HL1.out hB8); clear hB8 HL8 HL1)
            | (go_at_call 24; (with_reducible refine (diff_mem HF2.out.ma HF2.out.ma (by decide) (by decide)).mono ?_); rintro e w9 ⟨A9, c9, d9, rfl, hL9, hI9, hB9⟩; obtain rfl := hI9.none; have HF3 := Lib.hid (HF2.out.kept hB9); have HL3 := Lib.hid (words_keep HL2.out hB9); clear hL9 hI9 hB9)
            | (go_at_call 24; (with_reducible refine (diff_mem HF3.out.mb HF3.out.ma (by decide) (by decide)).mono ?_); rintro e w10 ⟨A10, c10, d10, rfl, hL10, hI10, hB10⟩; obtain rfl := hI10.same HId.out.comm; have HF4 := Lib.hid (HF3.out.kept hB10); have HL4 := Lib.hid (words_keep HL3.out hB10); have HL10 := Lib.hid (lst_words hL10); clear hL10 hI10 hB10)
            | (go_at_call 13; (with_reducible refine (same_kept _ _ _ _ HL10.out HL4.out (by omega)).mono ?_); rintro e w11 ⟨rfl, hB11⟩; have HF5 := Lib.hid (HF4.out.kept hB11); clear hB11)
            | (go_at_call 24; (with_reducible refine (diff_nil _ _).mono ?_); rintro e w12 ⟨rfl, hB12⟩; have HF6 := Lib.hid (HF5.out.kept hB12); clear hB12)
            | (go_at_call 10; (with_reducible refine (newMem_any 17 _ ⟨by decide, by decide⟩).mono ?_); rintro e w13 ⟨rfl, hM13, hB13⟩; have HF7 := Lib.hid (HF6.out.kept hB13); have HM13 := Lib.hid hM13; clear hB13 hM13)
            | (go_at_call 24; (with_reducible refine (diff_bitsM HF7.out.ma HM13.out (by decide)).mono ?_); rintro e w14 ⟨rfl, hB14⟩; have HF8 := Lib.hid (HF7.out.kept hB14); clear hB14))
          go_ret
          exact ⟨rfl, HF8.out.below⟩

end Go.Proofs.Ytfakfmefjfemhaa
