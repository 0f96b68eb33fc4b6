/- Several texts of ours in one: L10e, Cy, L10u. -/
import Derived.Test.YtefllfoilkbboaaGCwOzCx
import Derived.BigQuiet
/- The walk of CacheEvicts. -/
namespace Go.Proofs.Ytefllfoilkbboaa
set_option linter.unusedVariables false
set_option linter.unusedSimpArgs false
open Go.ChangeShapes Go.WideShapes Go.ChangeAt Go.RowKit Go.Joins

theorem evK_gone {L : List Pr} (hn : (keysK L).Nodup) {a : Int} (h : 0 < L.length) : getK (evK L a) (L.getD (pickF a L.length) zP).1 = none := by
  unfold evK
  rw [if_neg (by omega), getK_erase hn (pickF_lt a h)]
  unfold updG
  exact if_pos rfl
theorem okK_at {w : World} {F : Nat → Prop} {c R : Nat} {L : List Pr} (h : Cac w F c R L) {i : Nat} (hi : i < L.length) : OkK (L.getD i zP).1 := by
  refine h.ok _ ?_
  have hki : i < (keysK L).length := by rw [keysK_len]; exact hi
  rw [← keysK_getD, List.getD, List.getElem?_eq_getElem hki]
  exact List.getElem_mem _

set_option maxRecDepth 100000 in
set_option maxHeartbeats 3200000 in
theorem cacheEvicts_walk (A : Option Addr) (cp : Nat) (ds : List Dd) (a a2 : Int) (w : World) (hl : ds.length ≤ maxLen) (hd : DeedsC w A ds) (hok : DeedsOkC ds) (h0 : 0 ≤ a) (h1 : a ≤ 255) (ha2 : I64 a2) :
    Calls Try.prog 7 #[.int .u8 a, .slice A ds.length cp, .int .i64 a2] w fun e w' => e = .returned (.bool true) ∧ Below w.heap.size w w' := by
  have HRUN : Hid (∀ w1, Below w.heap.size w w1 → _) := Lib.hid fun w1 (hb : Below w.heap.size w w1) => runC_any A cp ds a w1 hl (fun k hk => by
    obtain ⟨ad, e, h⟩ := hd k hk
    exact ⟨ad, e, DeedAt.below h hb (Nat.le_refl _)⟩) hok h0 h1
  have HA := Lib.hid ha2
  generalize ds.length = N at *
  clear hd hok hl h0 h1 ha2
  go_enter Try.func7, Try.ntmps7
  go_upto_region 5 with (first | (go_at_call 9; refine (awake10_any _).mono ?_; rintro e w1 ⟨rfl, hb1⟩; have HB1 := Lib.hid hb1; clear hb1) | (go_at_call 18; refine (HRUN.out _ HB1.out).mono ?_; rintro e w2 ⟨c, G2, rfl, hL2⟩; have H2 := Lib.hid hL2; clear hL2))
  obtain ⟨R, hR⟩ : ∃ R, roomR a = R := ⟨_, rfl⟩
  rw [hR] at H2
  generalize playC R ds (manyC ds) = L at H2
  clear HRUN hR
  have hn0 := H2.out.wk.cac.len
  have hn1 := H2.out.wk.cac.room
  have HND := Lib.hid H2.out.wk.cac.nodup
  obtain ⟨n, hn⟩ : ∃ n, L.length = n := ⟨_, rfl⟩
  have HN := Lib.hid hn
  rw [hn] at hn0
  clear hn
  go_upto_region 6 with (go_at_call 13; refine (keysC_any H2.out.wk.cac).mono ?_; rw [HN.out]; rintro e w3 ⟨A3, c3, rfl, hk3, hb3⟩; have H3 := Lib.hid (H2.out.made hb3 hk3 (Nat.le_refl _)); clear hk3 hb3 H2)
  by_cases hz : n = 0
  · subst hz
    have hE : evK L a2 = L := by unfold evK; rw [if_pos HN.out]
    have HE := Lib.hid hE
    clear hE
    go_wp2_with (first | (go_at_call 22; refine (evictC_any H3.out.wk.cac a2 HA.out).mono ?_; rw [HE.out]; rintro e w4 ⟨rfl, hc4, ht4⟩; have H4 := Lib.hid (H3.out.did hc4 ht4); clear hc4 ht4 H3) | (go_at_call 13; refine (keysC_any H4.out.wk.cac).mono ?_; rw [HN.out]; rintro e w5 ⟨A5, c5, rfl, hk5, hb5⟩; have H5 := Lib.hid (H4.out.quiet hb5); clear hk5 hb5 H4))
    go_ret
    exact ⟨rfl, HB1.out.trans (H5.out.below.mono HB1.out.size)⟩
  · have hi := pickF_lt a2 (n := n) (by omega)
    have HE : Hid ((evK L a2).length = n - 1) := Lib.hid (by rw [evK_len, HN.out])
    have HG : Hid (getK (evK L a2) (L.getD (pickF a2 n) zP).1 = none) := Lib.hid (by have := evK_gone HND.out (a := a2) (by rw [HN.out]; omega); rwa [HN.out] at this)
    have HQ := Lib.hid (fun w' => rpicked_any a2 n w' HA.out (by omega) (by omega))
    generalize pickF a2 n = i at hi HG HQ
    have HK := Lib.hid (okK_at H3.out.wk.cac (i := i) (by rw [HN.out]; exact hi))
    obtain ⟨⟨p, q, t⟩, hkk⟩ : ∃ x : Ky, (L.getD i zP).1 = x := ⟨_, rfl⟩
    rw [hkk] at HG HK
    have HKK : Hid ((keysK L).getD i zK = (p, q, t)) := Lib.hid (by rw [keysK_getD, hkk])
    obtain ⟨n1, hn1'⟩ : ∃ n1, n - 1 = n1 := ⟨_, rfl⟩
    rw [hn1'] at HE
    have b0 : ((n : Int) == 0) = false := by simp; omega
    have b1 : IntKind.i64.wrap ((n : Int) - 1) = (n : Int) - 1 := by rw [IntKind.wrap_i64]; omega
    have b2 : ((n1 : Int) == (n : Int) - 1) = true := by simp; omega
    have b3 : ((n : Int) - 1) = (n1 : Int) := by omega
    clear hkk hz hn1'
    go_upto_region 11 with (first | (go_at_call 22; refine (evictC_any H3.out.wk.cac a2 HA.out).mono ?_; rintro e w4 ⟨rfl, hc4, ht4⟩; have H4 := Lib.hid (H3.out.did hc4 ht4); clear hc4 ht4 H3) | (go_at_call 13; refine (keysC_any H4.out.wk.cac).mono ?_; rw [HE.out]; rintro e w5 ⟨A5, c5, rfl, hk5, hb5⟩; have H5 := Lib.hid (H4.out.quiet hb5); clear hk5 hb5 H4) | (go_at_call 23; refine (HQ.out _).mono ?_; rintro e w' ⟨rfl, rfl⟩))
    have hrow : KeysOwn w5 0 (.slice A3 n c3) (keysK L) := by
      have := H5.out.of_ 0 rfl
      unfold KeysOwn
      rw [keysK_len, HN.out]
      rw [keysK_len, HN.out] at this
      exact this
    obtain ⟨g, cap, hv, hg, k0, k1, k2⟩ := hrow.at_ (k := i) (by rw [keysK_len, HN.out]; exact hi) HKK.out
    rw [keysK_len, HN.out] at hv
    obtain ⟨rfl, rfl⟩ : A3 = some ⟨g, 0, none⟩ ∧ c3 = cap := by simpa using hv
    clear hv hrow
    go_wp2_with (first | (go_at_call 14; refine (getC_any H5.out.wk.cac p q t 0 0 false false false false HK.out (by rw [HG.out]; rfl) false (by rw [HG.out]; rfl)).mono ?_; rintro e w6 ⟨rfl, hb6⟩; have H6 := Lib.hid ((H5.out.quiet hb6).quiet (below_alloc1 _ (.cells #[.int .u64 0, .bool false, .bool false, .bool false, .bool false, .int .u8 0] 38))); clear hb6 H5) | (go_at_call 24; refine (clearC_any H6.out.wk.cac).mono ?_; rintro e w7 ⟨rfl, hc7, ht7⟩; have H7 := Lib.hid (H6.out.did hc7 ht7); clear hc7 ht7 H6) | (go_at_call 13; refine (keysC_any H7.out.wk.cac).mono ?_; rw [show ([] : List Pr).length = 0 from rfl]; rintro e w8 ⟨A8, c8, rfl, hk8, hb8⟩; have H8 := Lib.hid (H7.out.quiet hb8); clear hk8 hb8 H7))
    go_ret
    exact ⟨rfl, HB1.out.trans (H8.out.below.mono HB1.out.size)⟩
end Go.Proofs.Ytefllfoilkbboaa
/- Layer 10: a cache that run made, beside what the law holds; what a Put loses. -/
namespace Go.Proofs.Ytefllfoilkbboaa
set_option linter.unusedVariables false
set_option linter.unusedSimpArgs false
open Go.ChangeShapes Go.WideShapes Go.ChangeAt Go.RowKit Go.Joins

theorem LawC.ofRun {w w1 w2 : World} {c R : Nat} {L : List Pr} {G : Nat → Prop} {bs : List BoxD} {rs : List RowD} (h : Mine w w1 bs rs) (k : LawC w1 w2 (From w1.heap.size) c R L G [] []) : LawC w w2 (From w.heap.size) c R L G bs rs := by
  have hb := k.below
  have hq := h.quiet hb
  have hs := h.size
  have hG : ∀ i, G i → w1.heap.size ≤ i := fun i hi => by
    rcases (k.wk.foot i hi).2 with h | h
    · exact h
    · exact h
  refine ⟨⟨k.wk.cac, fun i hi => ⟨(k.wk.foot i hi).1, Or.inr (Nat.le_trans hs (hG i hi))⟩, Turn.of_below hq.below⟩, ⟨fun z hz => ⟨(hq.hold.box z hz).1, fun hg => ?_⟩, fun r hr => ⟨(hq.hold.row r hr).1, fun i hi hg => ?_⟩, hq.hold.once, k.hold.lt⟩, fun z hz => Nat.le_of_not_lt (h.hold.box z hz).2⟩
  · have h1 := (h.hold.box z hz).1.lt
    have h2 := hG _ hg
    omega
  · have h1 := (own_lt (h.hold.row r hr).1 hi).2
    have h2 := hG _ hg
    omega
theorem deedsC_move {w w' : World} {A : Option Addr} {ds : List Dd} (h : DeedsC w A ds) (hb : Below w.heap.size w w') : DeedsC w' A ds := fun k hk => by
  obtain ⟨ad, e, hd⟩ := h k hk
  exact ⟨ad, e, DeedAt.below hd hb (Nat.le_refl _)⟩

/-- how many of the first j keys of L are lost in L' -/
def lossN (L L' : List Pr) : Nat → Nat
  | 0 => 0
  | j + 1 => lossN L L' j + (if (getK L' ((keysK L).getD j zK)).isSome then 0 else 1)
theorem lossN_le (L L' : List Pr) : ∀ j, lossN L L' j ≤ j
  | 0 => Nat.le_refl _
  | j + 1 => by
    have := lossN_le L L' j
    unfold lossN
    split <;> omega
theorem lossN_none {L L' : List Pr} : ∀ (j : Nat), (∀ i, i < j → (getK L' ((keysK L).getD i zK)).isSome = true) → lossN L L' j = 0
  | 0, _ => rfl
  | j + 1, h => by
    unfold lossN
    rw [h j (by omega), if_pos rfl, lossN_none j fun i hi => h i (by omega)]
theorem lossN_one {L L' : List Pr} {i0 : Nat} : ∀ (j : Nat), (∀ i, i < j → (getK L' ((keysK L).getD i zK)).isSome = decide (i ≠ i0)) → lossN L L' j = if i0 < j then 1 else 0
  | 0, _ => by simp [lossN]
  | j + 1, h => by
    unfold lossN
    rw [h j (by omega), lossN_one j fun i hi => h i (by omega)]
    by_cases e : j = i0
    · subst e; simp
    · by_cases h1 : i0 < j
      · have h2 : i0 < j + 1 := by omega
        simp [e, h1, h2]
      · have h2 : ¬ (i0 < j + 1) := by omega
        simp [e, h1, h2]
theorem isSome_keys {L L' : List Pr} {i : Nat} (hi : i < L.length) (h : ∀ k, k ∈ keysK L → k ∈ keysK L') : (getK L' ((keysK L).getD i zK)).isSome = true := by
  rw [getK_isSome]
  have hk : i < (keysK L).length := by rw [keysK_len]; exact hi
  rw [List.getD, List.getElem?_eq_getElem hk]
  exact decide_eq_true (h _ (List.getElem_mem _))

theorem keysK_last (L : List Pr) (k : Ky) (l : Ln) : (keysK (L ++ [(k, l)])).getD L.length zK = k := by
  rw [keysK_append]
  simp [List.getD, keysK]

/-- what a Put of a key that there is room for makes -/
structure PutsIs (R n : Nat) (L L' : List Pr) (k : Ky) (l : Ln) (th fb : Bool) (n' wt : Nat) : Prop where
  len : L'.length = n'
  got : getK L' k = some l
  loss : lossN L L' n = wt
  ways : (th = true ∧ n' = n ∧ wt = 0) ∨ (th = false ∧ fb = false ∧ n' = n + 1 ∧ wt = 0 ∧ (keysK L').getD n zK = k) ∨ (th = false ∧ fb = true ∧ n' = n ∧ 0 < n ∧ wt = 1 ∧ (keysK L').getD (n - 1) zK = k)
theorem putsIs {R : Nat} {L : List Pr} (hn : (keysK L).Nodup) (hl : L.length ≤ R) (hR : 0 < R) (k : Ky) (l : Ln) (a : Int) : ∃ n' wt, PutsIs R L.length L (putK R L k l a) k l (getK L k).isSome (decide (L.length = R)) n' wt := by
  cases hx : idxF (keysK L) k with
  | some i =>
    have hi := idxF_of hx
    have hil : i < L.length := by have := hi.1; rwa [keysK_len] at this
    have hp : putK R L k l a = L.set i (k, l) := by unfold putK; rw [hx]
    rw [hp]
    refine ⟨L.length, 0, by simp, ?_, lossN_none _ fun j hj => isSome_keys hj (fun k' hk' => by rw [keysK_set hi.2]; exact hk'), Or.inl ⟨by rw [getK_idx, hx]; rfl, rfl, rfl⟩⟩
    rw [getK_set hn hil hi.2]
    exact if_pos rfl
  | none =>
    have hk := idxF_no hx
    have hth : (getK L k).isSome = false := by rw [getK_idx, hx]; rfl
    by_cases hr : L.length = R
    · have hp : putK R L k l a = evK L a ++ [(k, l)] := by unfold putK; rw [hx]; show (if R = 0 then L else _) = _; rw [if_neg (by omega), if_pos (by omega)]
      have hke : k ∉ keysK (evK L a) := fun h => hk (((evK_sub L a).map (·.1)).subset h)
      have hlp : 0 < L.length := by omega
      have hpl := pickF_lt a hlp
      rw [hp, hth, decide_eq_true hr]
      refine ⟨L.length, 1, by rw [List.length_append, evK_len]; simp; omega, ?_, ?_, Or.inr (Or.inr ⟨rfl, rfl, rfl, hlp, rfl, ?_⟩)⟩
      · rw [getK_push hke]; exact if_pos rfl
      · rw [lossN_one (i0 := pickF a L.length), if_pos hpl]
        intro i hi
        have hev : evK L a = L.eraseIdx (pickF a L.length) := by unfold evK; rw [if_neg (by omega)]
        have hki : i < (keysK L).length := by rw [keysK_len]; exact hi
        have hkp : pickF a L.length < (keysK L).length := by rw [keysK_len]; exact hpl
        have hne : (keysK L).getD i zK ≠ k := fun e => hk (by
          rw [← e, List.getD, List.getElem?_eq_getElem hki]
          exact List.getElem_mem _)
        rw [getK_push hke, hev, getK_erase hn hpl]
        unfold updG
        rw [if_neg hne]
        by_cases e : i = pickF a L.length
        · rw [if_pos (by rw [e, keysK_getD])]
          simp [e]
        · rw [if_neg, decide_eq_true e]
          · exact isSome_keys hi fun _ h => h
          · rw [← keysK_getD]
            intro e2
            rw [List.getD, List.getD, List.getElem?_eq_getElem hki, List.getElem?_eq_getElem hkp] at e2
            exact e ((List.getElem_inj (xs := keysK L) (h₀ := hki) (h₁ := hkp) hn).1 (by simpa using e2))
      · have := keysK_last (evK L a) k l
        rwa [evK_len] at this
    · have hp : putK R L k l a = L ++ [(k, l)] := by unfold putK; rw [hx]; show (if R = 0 then L else _) = _; rw [if_neg (by omega), if_neg (by omega)]
      rw [hp, hth, decide_eq_false hr]
      refine ⟨L.length + 1, 0, by simp, ?_, lossN_none _ fun j hj => isSome_keys hj (fun k' hk' => by rw [keysK_append]; exact List.mem_append.2 (Or.inl hk')), Or.inr (Or.inl ⟨rfl, rfl, rfl, rfl, keysK_last L k l⟩)⟩
      rw [getK_push hk]; exact if_pos rfl
theorem eqlCL (f1 m1 : Int) (y1 y2 y3 y4 : Bool) (w : World) : (binOp .eql 38 (.agg #[.int .u64 f1, .bool y1, .bool y2, .bool y3, .bool y4, .int .u8 m1]) (.agg #[.int .u64 f1, .bool y1, .bool y2, .bool y3, .bool y4, .int .u8 m1])).run Try.prog w = .ok (.bool true) w := by
  have hs : Try.prog.stoodInHeld 38 = false := by kernel_rfl
  have hs2 : Try.prog.stoodInHeld 36 = false := by kernel_rfl
  simp only [binOp]
  simp [Op.equal, Op.maxDepth, run_equalIn_struct w 9999 38 _ _ (by simp [Program.fieldsOf, Try.underlying38]) hs, Program.fieldsOf, Try.underlying38, Op.eqFields, go_sem]
end Go.Proofs.Ytefllfoilkbboaa
/- The walk of CachePuts. -/
namespace Go.Proofs.Ytefllfoilkbboaa
set_option linter.unusedVariables false
set_option linter.unusedSimpArgs false
open Go.ChangeShapes Go.WideShapes Go.ChangeAt Go.RowKit Go.Joins

theorem keysOwn_row {w : World} {v : Value} {L : List Pr} {n : Nat} (h : w.ownsRow 0 34 3 v n (kcs (keysK L))) (hn : L.length = n) : KeysOwn w 0 v (keysK L) := by
  unfold KeysOwn
  rw [keysK_len, hn]; exact h

set_option maxRecDepth 100000 in
set_option maxHeartbeats 8000000 in
theorem cachePuts_walk (A : Option Addr) (cp : Nat) (ds : List Dd) (a kd pk p q t f m : Int) (x1 x2 x3 x4 : Bool) (w : World) (hl : ds.length ≤ maxLen) (hd : DeedsC w A ds) (hok : DeedsOkC ds) (h0 : 0 ≤ a) (h1 : a ≤ 255) (hk : OkK (p, q, t)) (hpk : I64 pk) :
    Calls Try.prog 5 #[.int .u8 a, .slice A ds.length cp, .agg #[.int .i64 kd, .int .i64 pk, .int .i64 p, .int .i64 q, .int .u64 t, .int .u64 f, .bool x1, .bool x2, .bool x3, .bool x4, .int .u8 m]] w fun e w' => e = .returned (.bool true) ∧ Below w.heap.size w w' := by
  have HRUN : Hid (∀ w1, Below w.heap.size w w1 → _) := Lib.hid fun w1 (hb : Below w.heap.size w w1) => runC_any A cp ds a w1 hl (deedsC_move hd hb) hok h0 h1
  have HBD := Lib.hid (roomR_bd h0)
  have HK := Lib.hid hk
  have HPK := Lib.hid hpk
  have H0 := Lib.hid ((Mine.start w).new (b := w.heap.size) rfl #[.int .i64 kd, .int .i64 pk, .int .i64 p, .int .i64 q, .int .u64 t, .int .u64 f, .bool x1, .bool x2, .bool x3, .bool x4, .int .u8 m] 40)
  generalize ds.length = N at *
  clear hd hok hl h0 h1 hk hpk
  go_enter Try.func5, Try.ntmps5
  go_upto_region 1 with fail
  generalize hw0 : w.alloc _ = w0
  have H1 := Lib.hid (H0.out.world hw0)
  clear hw0 H0
  go_upto_region 5 with (first | (go_at_call 9; refine (awake10_any _).mono ?_; rintro e w1 ⟨rfl, hb1⟩; have H2 := Lib.hid (H1.out.quiet hb1); clear hb1 H1) | (go_at_call 18; refine (HRUN.out _ H2.out.below).mono ?_; rintro e w2 ⟨c, G2, rfl, hL2⟩; have H3 := Lib.hid (LawC.ofRun H2.out hL2); clear hL2 H2))
  obtain ⟨R, hR⟩ : ∃ R, roomR a = R := ⟨_, rfl⟩
  rw [hR] at H3 HBD
  generalize playC R ds (manyC ds) = L at H3
  clear HRUN hR
  have hn1 := H3.out.wk.cac.room
  have hn2 := H3.out.wk.cac.len
  have hR0 := HBD.out.1
  have hR8 := HBD.out.2
  obtain ⟨n', wt, hP⟩ := putsIs H3.out.wk.cac.nodup hn2 (by omega) (p, q, t) (f, x1, x2, x3, x4, m) pk
  obtain ⟨th, hth⟩ : ∃ b, (getK L (p, q, t)).isSome = b := ⟨_, rfl⟩
  obtain ⟨fb, hfb⟩ : ∃ b, decide (L.length = R) = b := ⟨_, rfl⟩
  rw [hth, hfb] at hP
  obtain ⟨n, hn⟩ : ∃ n, L.length = n := ⟨_, rfl⟩
  rw [hn] at hP hfb hn2
  have HN := Lib.hid hn
  have HP := Lib.hid hP
  have HTH := Lib.hid hth
  have hfb2 : ((n : Int) == (R : Int)) = fb := by rw [← hfb]; by_cases e : n = R <;> simp [e] <;> omega
  obtain ⟨⟨f1, y1, y2, y3, y4, m1⟩, hv1⟩ : ∃ y : Ln, (getK L (p, q, t)).getD zL = y := ⟨_, rfl⟩
  have HV1 := Lib.hid hv1
  have HPU : Hid (∀ (w1 : World) (G : Nat → Prop), Cac w1 G c R L → _) := Lib.hid fun (w1 : World) (G : Nat → Prop) (hc : Cac w1 G c R L) => putC_any hc p q t f m pk x1 x2 x3 x4 HK.out HPK.out
  obtain ⟨L', hL'⟩ : ∃ L', putK R L (p, q, t) (f, x1, x2, x3, x4, m) pk = L' := ⟨_, rfl⟩
  rw [hL'] at HPU HP
  have hn' : n' ≤ 64 := by
    have h1 := putK_len (R := R) (L := L) (by omega) (p, q, t) (f, x1, x2, x3, x4, m) pk
    rw [hL', HP.out.len] at h1
    omega
  have HOK : Hid (∀ i, i < n → OkK (L.getD i zP).1) := Lib.hid fun i hi => okK_at H3.out.wk.cac (by rw [HN.out]; exact hi)
  clear hP hth hfb hn hv1 hL'
  go_upto_region 6 with (go_at_call 13; refine (keysC_any H3.out.wk.cac).mono ?_; rw [HN.out]; rintro e w3 ⟨A3, c3, rfl, hk3, hb3⟩; have hk3' := hk3; unfold KeysOwn at hk3'; rw [keysK_len, HN.out] at hk3'; have H4 := Lib.hid (H3.out.made hb3 hk3' (Nat.le_refl _)); clear hk3 hk3' hb3 H3)
  obtain ⟨d0, d1, d2, d3, d4, d5, d6, d7, d8, d9, d10⟩ := (H4.out.at_ 0 rfl).c11
  go_upto_region 7 with (go_at_call 14; refine (getC_any H4.out.wk.cac p q t f1 m1 y1 y2 y3 y4 HK.out HV1.out th HTH.out).mono ?_; rintro e w4 ⟨rfl, hb4⟩; have H5 := Lib.hid ((H4.out.quiet hb4).quiet (below_alloc1 _ (.cells #[.int .u64 f1, .bool y1, .bool y2, .bool y3, .bool y4, .int .u8 m1] 38))); clear hb4 H4 d0 d1 d2 d3 d4 d5 d6 d7 d8 d9 d10)
  generalize hw5 : w4.alloc _ = w5 at H5 ⊢
  clear hw5
  obtain ⟨d0, d1, d2, d3, d4, d5, d6, d7, d8, d9, d10⟩ := (H5.out.at_ 0 rfl).c11
  go_upto_region 8 with (go_at_call 19; refine (HPU.out _ _ H5.out.wk.cac).mono ?_; rintro e w6 ⟨rfl, hc6, ht6⟩; have H6 := Lib.hid (H5.out.did hc6 ht6); clear hc6 ht6 H5 d0 d1 d2 d3 d4 d5 d6 d7 d8 d9 d10)
  go_upto_region 9 with (go_at_call 13; refine (keysC_any H6.out.wk.cac).mono ?_; rw [HP.out.len]; rintro e w7 ⟨A7, c7, rfl, hk7, hb7⟩; have hk7' := hk7; unfold KeysOwn at hk7'; rw [keysK_len, HP.out.len] at hk7'; have H7 := Lib.hid (H6.out.made hb7 hk7' (Nat.le_refl _)); clear hk7 hk7' hb7 H6)
  obtain ⟨d0, d1, d2, d3, d4, d5, d6, d7, d8, d9, d10⟩ := (H7.out.at_ 0 rfl).c11
  go_upto_region 10 with (go_at_call 14; refine (getC_any H7.out.wk.cac p q t f m x1 x2 x3 x4 HK.out (by rw [HP.out.got]; rfl) true (by rw [HP.out.got]; rfl)).mono ?_; rintro e w8 ⟨rfl, hb8⟩; have H8 := Lib.hid ((H7.out.quiet hb8).new (b := w8.heap.size) rfl #[.int .u64 f, .bool x1, .bool x2, .bool x3, .bool x4, .int .u8 m] 38); clear hb8 H7 d0 d1 d2 d3 d4 d5 d6 d7 d8 d9 d10)
  generalize hw9 : w8.alloc _ = w9 at H8 ⊢
  generalize w8.heap.size = bx at *
  clear hw9
  go_wp2
  go_loopw [15, 16] (fun u i wr => ∃ (j : Nat) (G : Nat → Prop), j ≤ n ∧ i = .int .i64 j ∧ u = .int .i64 (lossN L L' j) ∧ Hid (LawC w wr (From w.heap.size) c R L' G [⟨bx, #[.int .u64 f, .bool x1, .bool x2, .bool x3, .bool x4, .int .u8 m], 38⟩, ⟨w.heap.size, #[.int .i64 kd, .int .i64 pk, .int .i64 p, .int .i64 q, .int .u64 t, .int .u64 f, .bool x1, .bool x2, .bool x3, .bool x4, .int .u8 m], 40⟩] [⟨34, 3, .slice A7 n' c7, n', kcs (keysK L')⟩, ⟨34, 3, .slice A3 n c3, n, kcs (keysK L)⟩])) (fun _ i _ => (n - intOf i).toNat)
  case atStart => exact ⟨0, _, by omega, rfl, rfl, H8⟩
  case round =>
    obtain ⟨j, G, hj, rfl, rfl, HR⟩ := hrel
    clear H8
    by_cases hlt : j < n
    · obtain ⟨⟨p', q', t'⟩, hkk⟩ : ∃ x : Ky, (L.getD j zP).1 = x := ⟨_, rfl⟩
      have hok := HOK.out j hlt
      rw [hkk] at hok
      have HOK2 := Lib.hid hok
      have hkk2 : (keysK L).getD j zK = (p', q', t') := by rw [keysK_getD, hkk]
      obtain ⟨g, cap, hv, hg, k0, k1, k2⟩ := (keysOwn_row (HR.out.of_ 1 rfl) HN.out).at_ (k := j) (by rw [keysK_len, HN.out]; exact hlt) hkk2
      rw [keysK_len, HN.out] at hv
      obtain ⟨rfl, rfl⟩ : A3 = some ⟨g, 0, none⟩ ∧ c3 = cap := by simpa using hv
      obtain ⟨⟨f', z1, z2, z3, z4, m'⟩, hv2⟩ : ∃ y : Ln, (getK L' (p', q', t')).getD zL = y := ⟨_, rfl⟩
      have HV2 := Lib.hid hv2
      have hle := lossN_le L L' j
      have hls : lossN L L' (j + 1) = lossN L L' j + (if (getK L' (p', q', t')).isSome then 0 else 1) := by rw [← hkk2]; rfl
      have HLS := Lib.hid hls
      clear hv hkk hkk2 hok hv2 hls
      generalize lossN L L' j = lo at *
      cases his : (getK L' (p', q', t')).isSome with
      | true =>
        have HIS := Lib.hid his
        have HL2 : Hid (lossN L L' (j + 1) = lo) := Lib.hid (by rw [HLS.out, his]; rfl)
        clear his
        go_wp2_with (go_at_call 14; refine (getC_any HR.out.wk.cac p' q' t' f' m' z1 z2 z3 z4 HOK2.out HV2.out true HIS.out).mono ?_; rintro e w10 ⟨rfl, hb10⟩; have H10 := Lib.hid ((HR.out.quiet hb10).quiet (below_alloc1 _ (.cells #[.int .u64 f', .bool z1, .bool z2, .bool z3, .bool z4, .int .u8 m'] 38))); clear hb10)
        go_roundw
        case rel => exact ⟨j + 1, G, by omega, by go_num, by rw [HL2.out], H10⟩
        case measure => simp [intOf]; omega
      | false =>
        have HIS := Lib.hid his
        have HL2 : Hid (lossN L L' (j + 1) = lo + 1) := Lib.hid (by rw [HLS.out, his]; rfl)
        clear his
        go_wp2_with (go_at_call 14; refine (getC_any HR.out.wk.cac p' q' t' f' m' z1 z2 z3 z4 HOK2.out HV2.out false HIS.out).mono ?_; rintro e w10 ⟨rfl, hb10⟩; have H10 := Lib.hid ((HR.out.quiet hb10).quiet (below_alloc1 _ (.cells #[.int .u64 f', .bool z1, .bool z2, .bool z3, .bool z4, .int .u8 m'] 38))); clear hb10)
        go_roundw
        case rel => exact ⟨j + 1, G, by omega, by go_num, by rw [HL2.out]; go_num, H10⟩
        case measure => simp [intOf]; omega
    · obtain rfl : j = n := by omega
      rw [HP.out.loss]
      have hq1 := eqlCL f m x1 x2 x3 x4
      have hq2 : ∀ w, (binOp .eql 34 (.agg #[.int .i64 p, .int .i64 q, .int .u64 t]) (.agg #[.int .i64 p, .int .i64 q, .int .u64 t])).run Try.prog w = .ok (.bool true) w := fun w => (eqlK p q t p q t w).trans (by rw [decide_eq_true rfl])
      obtain ⟨l0, l1, l2, l3, l4, l5⟩ := (HR.out.at_ 0 rfl).c6
      obtain ⟨d0, d1, d2, d3, d4, d5, d6, d7, d8, d9, d10⟩ := (HR.out.at_ 1 rfl).c11
      have hj1 : IntKind.i64.wrap ((j : Int) + 1) = (j : Int) + 1 := by rw [IntKind.wrap_i64]; omega
      have hw := HP.out.ways
      have HWAY := Lib.hid hw
      clear hw hlt hj
      rcases HWAY.out with ⟨rfl, rfl, rfl⟩ | ⟨rfl, rfl, hn3, rfl, hlast⟩ | ⟨rfl, rfl, rfl, hpos, rfl, hlast⟩
      · cases fb
        all_goals
          go_upto_region 21 with (go_at_call 17; refine (roomC_any HR.out.wk.cac).mono ?_; rintro e w' ⟨rfl, rfl⟩)
          go_quiet (fail)
          go_wp2
          go_ret
          exact ⟨rfl, (HR.out.quiet (below_drewN (Below.refl _ _) _)).below⟩
      · have g1 : ((n' : Int) == (j : Int) + 1) = true := by simp; omega
        have g2 : IntKind.i64.wrap ((n' : Int) - 1) = (j : Int) := by rw [IntKind.wrap_i64]; omega
        have g3 : j < n' := by omega
        have g4 : (n' : Int) = (j : Int) + 1 := by omega
        obtain ⟨g, cap, hv, hg, k0, k1, k2⟩ := (keysOwn_row (HR.out.of_ 0 rfl) HP.out.len).at_ (k := j) (by rw [keysK_len, HP.out.len]; exact g3) hlast
        rw [keysK_len, HP.out.len] at hv
        obtain ⟨rfl, rfl⟩ : A7 = some ⟨g, 0, none⟩ ∧ c7 = cap := by simpa using hv
        clear hv hn3 hlast g4
        go_upto_region 21 with (go_at_call 17; refine (roomC_any HR.out.wk.cac).mono ?_; rintro e w' ⟨rfl, rfl⟩)
        go_quiet (fail)
        go_wp2
        go_ret
        exact ⟨rfl, (HR.out.quiet (below_drewN (Below.refl _ _) _)).below⟩
      · obtain ⟨i1, hi1⟩ : ∃ i1, n' - 1 = i1 := ⟨_, rfl⟩
        rw [hi1] at hlast
        have hj0 : IntKind.i64.wrap (n' : Int) = (n' : Int) := by rw [IntKind.wrap_i64]; omega
        have g2 : IntKind.i64.wrap ((n' : Int) - 1) = (i1 : Int) := by rw [IntKind.wrap_i64]; omega
        have g3 : i1 < n' := by omega
        obtain ⟨g, cap, hv, hg, k0, k1, k2⟩ := (keysOwn_row (HR.out.of_ 0 rfl) HP.out.len).at_ (k := i1) (by rw [keysK_len, HP.out.len]; exact g3) hlast
        rw [keysK_len, HP.out.len] at hv
        obtain ⟨rfl, rfl⟩ : A7 = some ⟨g, 0, none⟩ ∧ c7 = cap := by simpa using hv
        clear hv hi1 hlast hpos
        go_upto_region 21 with (go_at_call 17; refine (roomC_any HR.out.wk.cac).mono ?_; rintro e w' ⟨rfl, rfl⟩)
        go_quiet (fail)
        go_wp2
        go_ret
        exact ⟨rfl, (HR.out.quiet (below_drewN (Below.refl _ _) _)).below⟩
end Go.Proofs.Ytefllfoilkbboaa
