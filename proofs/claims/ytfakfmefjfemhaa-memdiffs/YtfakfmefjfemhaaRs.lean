/- Contracts of package dormerref04: set. -/
import Derived.Test.YtfakfmefjfemhaaRl
namespace Go.Proofs.Ytfakfmefjfemhaa
set_option linter.unusedVariables false
set_option linter.unusedSimpArgs false
open Go.ChangeShapes Go.WideShapes Go.ChangeAt Go.RowKit Go.Joins

def stepL (a x : Int) (s : List (Int × Int) × Bool) (p : Int × Int) : List (Int × Int) × Bool :=
  if p.1 = a then s else if s.2 = false ∧ a < p.1 then ((s.1 ++ [(a, x)]) ++ [p], true) else (s.1 ++ [p], s.2)
def stL (L : List (Int × Int)) (a x : Int) (k : Nat) : List (Int × Int) × Bool := (L.take k).foldl (stepL a x) ([], false)
/-- the slots with x at a -/
def setL (L : List (Int × Int)) (a x : Int) : List (Int × Int) := if (stL L a x L.length).2 then (stL L a x L.length).1 else (stL L a x L.length).1 ++ [(a, x)]

theorem stL_succ (L : List (Int × Int)) (a x : Int) {k : Nat} (hk : k < L.length) : stL L a x (k + 1) = stepL a x (stL L a x k) (L.getD k (0, 0)) := by
  unfold stL
  rw [List.take_add_one, List.foldl_append]
  simp [List.getD, List.getElem?_eq_getElem hk]

def hasL (L : List (Int × Int)) (a : Int) : Bool := L.any fun p => p.1 == a
theorem wordL_append (L K : List (Int × Int)) (a : Int) : wordL (L ++ K) a = if hasL L a then wordL L a else wordL K a := by
  induction L with
  | nil => rfl
  | cons p L ih =>
    by_cases h : p.1 = a
    · simp [wordL, hasL, h]
    · have hb : (p.1 == a) = false := by simpa using h
      have hh : hasL (p :: L) a = hasL L a := by unfold hasL; rw [List.any_cons, hb, Bool.false_or]
      simp only [List.cons_append, wordL, if_neg h, ih, hh]
theorem hasL_append (L K : List (Int × Int)) (a : Int) : hasL (L ++ K) a = (hasL L a || hasL K a) := by simp [hasL]
theorem hasL_one (p : Int × Int) (a : Int) : hasL [p] a = (p.1 == a) := by simp [hasL]

/-- what the loop has made of the slots P: all of them but a; a with x, if it is done -/
structure Made (P : List (Int × Int)) (a x : Int) (s : List (Int × Int) × Bool) : Prop where
  has : ∀ b, b ≠ a → hasL s.1 b = hasL P b
  word : ∀ b, b ≠ a → wordL s.1 b = wordL P b
  done : s.2 = true → hasL s.1 a = true ∧ wordL s.1 a = x
  open_ : s.2 = false → hasL s.1 a = false
  len : s.1.length ≤ P.length + (if s.2 then 1 else 0)

theorem Made.step {P : List (Int × Int)} {a x : Int} {s : List (Int × Int) × Bool} (h : Made P a x s) (p : Int × Int) : Made (P ++ [p]) a x (stepL a x s p) := by
  unfold stepL
  by_cases h1 : p.1 = a
  · rw [if_pos h1]
    refine ⟨fun b hb => ?_, fun b hb => ?_, h.done, h.open_, by have := h.len; simp; omega⟩
    · rw [h.has b hb, hasL_append, hasL_one]; simp [h1, Ne.symm hb]
    · rw [h.word b hb, wordL_append]
      split
      · rfl
      · rename_i hn
        have : wordL P b = 0 := by
          apply wordL_miss
          intro j hj e
          apply hn
          unfold hasL
          rw [List.any_eq_true]
          exact ⟨P.getD j (0, 0), by simp [List.getD, List.getElem?_eq_getElem hj], by simpa using e⟩
        rw [this]; simp [wordL, h1, Ne.symm hb]
  · rw [if_neg h1]
    by_cases h2 : s.2 = false ∧ a < p.1
    · rw [if_pos h2]
      have ho := h.open_ h2.1
      refine ⟨fun b hb => ?_, fun b hb => ?_, fun _ => ⟨?_, ?_⟩, fun e => by simp at e, by have := h.len; simp [h2.1] at this ⊢; omega⟩
      · have hab : (a == b) = false := by simpa using Ne.symm hb
        simp only [hasL_append, hasL_one, h.has b hb, hab, Bool.or_false]
      · have hab : (a == b) = false := by simpa using Ne.symm hb
        simp only [wordL_append, hasL_append, hasL_one, h.has b hb, h.word b hb, hab, Bool.or_false]
        by_cases hp : hasL P b = true
        · rw [if_pos hp, if_pos hp, if_pos hp]
        · rw [if_neg hp, if_neg hp]
      · simp only [hasL_append, hasL_one]
        simp
      · simp only [wordL_append, hasL_append, hasL_one, ho]
        simp [wordL]
    · rw [if_neg h2]
      refine ⟨fun b hb => ?_, fun b hb => ?_, fun e => ?_, fun e => ?_, by have := h.len; simp at this ⊢; omega⟩
      · simp [hasL_append, h.has b hb]
      · simp only [wordL_append, h.has b hb, h.word b hb]
      · have := h.done e
        simp only [wordL_append, hasL_append, this.1]
        simp [this.2]
      · simp [hasL_append, hasL_one, h.open_ e, h1]

theorem made_take (L : List (Int × Int)) (a x : Int) : ∀ k, k ≤ L.length → Made (L.take k) a x (stL L a x k)
  | 0, _ => by
    refine ⟨fun b _ => rfl, fun b _ => rfl, fun e => by simp [stL] at e, fun _ => rfl, by simp [stL]⟩
  | k + 1, hk => by
    have := (made_take L a x k (by omega)).step (L.getD k (0, 0))
    rw [stL_succ L a x (by omega), List.take_add_one]
    simpa [List.getD, List.getElem?_eq_getElem (show k < L.length by omega)] using this

theorem made_all (L : List (Int × Int)) (a x : Int) : Made L a x (stL L a x L.length) := by
  have := made_take L a x L.length (Nat.le_refl _)
  rwa [List.take_length] at this

theorem setL_word (L : List (Int × Int)) (a x b : Int) : wordL (setL L a x) b = if b = a then x else wordL L b := by
  have h := made_all L a x
  unfold setL
  by_cases hd : (stL L a x L.length).2 = true
  · rw [if_pos hd]
    by_cases e : b = a
    · rw [if_pos e, e]; exact (h.done hd).2
    · rw [if_neg e]; exact h.word b e
  · rw [if_neg hd, wordL_append]
    have hd' : (stL L a x L.length).2 = false := by simpa using hd
    by_cases e : b = a
    · rw [if_pos e, e, h.open_ hd']; simp [wordL]
    · rw [if_neg e, h.has b e, h.word b e]
      split
      · rfl
      · rename_i hn
        have : wordL L b = 0 := by
          apply wordL_miss
          intro j hj e'
          apply hn
          unfold hasL
          rw [List.any_eq_true]
          exact ⟨L.getD j (0, 0), by simp [List.getD, List.getElem?_eq_getElem hj], by simpa using e'⟩
        rw [this]; simp [wordL, Ne.symm e]

theorem setL_len (L : List (Int × Int)) (a x : Int) : (setL L a x).length ≤ L.length + 1 := by
  have h := (made_all L a x).len
  unfold setL
  split
  · rename_i hd; simp [hd] at h; exact h
  · rename_i hd; simp [hd] at h; simp; omega

theorem stL_len (L : List (Int × Int)) (a x : Int) {k : Nat} (hk : k ≤ L.length) : (stL L a x k).1.length ≤ L.length + 1 := by
  have h := (made_take L a x k hk).len
  simp at h
  split at h <;> omega

theorem agree_set {f : Int → Int} {L : List (Int × Int)} (h : Agree f L) (s x : Int) : Agree (updF f s x) (setL L (s * 8) x) := by
  intro j
  rw [setL_word]
  unfold updF
  by_cases e : j = s
  · rw [if_pos e, if_pos (by rw [e])]
  · rw [if_neg e, if_neg (by omega)]; exact h j

theorem infoSlot : (Try.prog.info? 86).map (fun i => (i.zero, i.size, i.bytes)) = some (some (.agg #[.int .u64 0, .int .u64 0]), 2, 16) := by kernel_rfl

theorem two_new (w : World) (x y : Value) (t : TypeId) : ∀ j u, [x, y][j]? = some u → (w.alloc (.cells #[x, y] t)).cell? ((⟨w.heap.size, 0, none⟩ : Addr).add j) = some u := by
  intro j u hj
  match j, hj with
  | 0, hj => simp at hj; subst hj; simp [Addr.add]
  | 1, hj => simp at hj; subst hj; simp [Addr.add]

theorem two_one (a x : Int) : ∀ u ∈ [Value.int .u64 a, Value.int .u64 x], u.oneCell' = true := by
  intro u hu
  simp at hu
  rcases hu with rfl | rfl <;> rfl

theorem own_more {w : World} {base : Nat} {v : Value} {K : List (Int × Int)} {a x : Int} (h : w.ownsRow base 86 2 v (K.length + 1) (slotCells K ++ [.int .u64 a, .int .u64 x])) : w.ownsRow base 86 2 v (K ++ [(a, x)]).length (slotCells (K ++ [(a, x)])) := by
  rw [slotCells_append]
  simpa [slotCells] using h

/-- the slots' slice that set builds -/
def OwnK (w : World) (base : Nat) (v : Value) (K : List (Int × Int)) : Prop := w.ownsRow base 86 2 v K.length (slotCells K)

theorem OwnK.form {w : World} {base : Nat} {v : Value} {K : List (Int × Int)} (h : OwnK w base v K) : ∃ A c, v = .slice A K.length c := by
  rcases h.2 with ⟨rfl, hn⟩ | ⟨g, cap, cur, rfl, _⟩
  · exact ⟨none, 0, by rw [hn]⟩
  · exact ⟨_, _, rfl⟩

/-- what set's loop keeps: the boxed memory, the result's variable, all that was there -/
def SetRel (w wr : World) (M : Int) (A : Option Addr) (n c : Nat) (A' : Option Addr) (n' c' : Nat) : Prop :=
  Hid (Three wr w.heap.size (.int .i64 M) (.slice A n c) (.slice A' n' c')) ∧ Hid (Three wr (w.heap.size + 1) (.int .i64 0) (.slice none 0 0) (.slice none 0 0)) ∧ Hid (Below w.heap.size w wr) ∧ Hid (w.heap.size + 2 ≤ wr.heap.size)

theorem setRel_start (w : World) (M : Int) (A : Option Addr) (n c : Nat) (A' : Option Addr) (n' c' : Nat) : SetRel w ((w.alloc (.cells #[.int .i64 M, .slice A n c, .slice A' n' c'] 29)).alloc (.cells #[.int .i64 0, .slice none 0 0, .slice none 0 0] 29)) M A n c A' n' c' := by
  have e1 : (w.alloc (.cells #[.int .i64 M, .slice A n c, .slice A' n' c'] 29)).heap.size = w.heap.size + 1 := by simp
  have h2 := three_new (w.alloc (.cells #[.int .i64 M, .slice A n c, .slice A' n' c'] 29)) (.int .i64 0) (.slice none 0 0) (.slice none 0 0) 29
  rw [e1] at h2
  exact ⟨three_alloc (three_new _ _ _ _ _) (by simp) _, h2, ((Below.refl _ w).alloc (Nat.le_refl _) _).alloc (by simp) _, show _ ≤ _ by simp⟩

theorem SetRel.step {w wr w1 : World} {M : Int} {A : Option Addr} {n c : Nat} {A' : Option Addr} {n' c' : Nat} (h : SetRel w wr M A n c A' n' c') (hb : Below (w.heap.size + 2) wr w1) : SetRel w w1 M A n c A' n' c' :=
  ⟨three_below h.1.out hb (by omega), three_below h.2.1.out hb (by omega), h.2.2.1.out.trans (hb.mono (by omega)), Nat.le_trans h.2.2.2.out hb.size⟩

set_option maxRecDepth 100000 in
set_option maxHeartbeats 4000000 in
theorem rsetS_any (M : Int) (vs vt : Value) (L : List (Int × Int)) (tr : List Int) (a x : Int) (w : World) (hS : SlotsOwn w vs L) (hl : L.length < 100000) (hT : WordsOwn w vt tr) :
    Calls Try.prog 45 #[.agg #[.int .i64 M, vs, vt], .int .u64 a, .int .u64 x] w fun e w' => ∃ vs', e = .returned (.agg #[.int .i64 M, vs', vt]) ∧ SlotsOwn w' vs' (setL L a x) ∧ (∀ i, vs'.ownBlock = some i → w.heap.size ≤ i) ∧ Below w.heap.size w w' := by
  obtain ⟨A, c, rfl, hcs⟩ := hS.form
  obtain ⟨A', c', rfl⟩ := own_len hT
  obtain ⟨i0, hi, hz0, hz1, hz2⟩ := info_parts infoSlot
  have HC := Lib.hid hcs
  have HT0 := Lib.hid hT
  clear hcs hS hT
  go_enter Try.func45, Try.ntmps45
  go_wp2
  go_loopw [7, 8, 9] (fun v d i wr => ∃ k : Nat, k ≤ L.length ∧ i = .int .i64 k ∧ d = .bool (stL L a x k).2 ∧ OwnK wr (w.heap.size + 2) v (stL L a x k).1 ∧ SetRel w wr M A L.length c A' tr.length c') (fun _ _ i _ => (L.length - intOf i).toNat)
  case atStart => exact ⟨0, by omega, rfl, rfl, World.ownsRow_nil _ _ _ _, setRel_start _ _ _ _ _ _ _ _⟩
  case round =>
    obtain ⟨k, hk, rfl, rfl, ho, hR⟩ := hrel
    have HO := Lib.hid ho
    have HR := Lib.hid hR
    obtain ⟨HT1, HT2, HB, HZ⟩ : Hid _ ∧ Hid _ ∧ Hid _ ∧ Hid _ := hR
    obtain ⟨p0, p1, p2, p3, p4, p5⟩ := HT1.out
    have HL := Lib.hid (stL_len L a x hk)
    clear ho
    by_cases hlt : k < L.length
    · obtain ⟨g, rfl, b0, b1⟩ := HC.out k hlt
      have HSt := Lib.hid (stL_succ L a x hlt)
      have c0 := (HB.out.cell (cell_lt b0)).trans b0
      have c1 := (HB.out.cell (cell_lt b1)).trans b1
      have HG : Hid (g < w.heap.size + 2) := (by have := cell_lt b0; simp at this; omega : g < w.heap.size + 2)
      clear b0 b1
      generalize L.getD k (0, 0) = pq at *
      by_cases hpa : pq.1 = a
      · have hb : (pq.1 == a) = true := by simpa using hpa
        have E := Lib.hid (show stepL a x (stL L a x k) pq = stL L a x k from if_pos hpa)
        clear hpa
        go_wp2
        go_roundw
        case rel => exact ⟨k + 1, by omega, by go_num, by rw [HSt.out, E.out], by rw [HSt.out, E.out]; exact HO.out, HR.out⟩
        case measure => simp [intOf]; omega
      · have hb : (pq.1 == a) = false := by simpa using hpa
        by_cases hd : (stL L a x k).2 = false
        · by_cases hap : a < pq.1
          · have E := Lib.hid (show stepL a x (stL L a x k) pq = (((stL L a x k).1 ++ [(a, x)]) ++ [pq], true) by unfold stepL; rw [if_neg hpa, if_pos ⟨hd, hap⟩])
            clear hpa
            go_wp2_with (first | (at_builtin; refine wpList_append_own _ rfl (.tmp 37) (.tmp 41) 26 rfl (w.heap.size + 2) 86 i0 _ 2 16 Try.underlying26 hi hz0 hz1 hz2 rfl (by decide) _ _ _ rfl (World.ownsRow.alloc HO.out _) ⟨wr.heap.size, 0, none⟩ 1 1 [.int .u64 a, .int .u64 x] rfl rfl (two_new _ _ _ _) (two_one a x) (by have := HL.out; unfold maxLen; omega) (by have := HL.out; omega) (by have := HZ.out; simp; omega) ?_; intro v1 w1 hown1 hgrow1 hnil1; have HO1 := Lib.hid (own_more hown1); have HB1 := Lib.hid (app_step HZ.out hgrow1 (fun k hk => (World.ownsRow.lt HO.out k hk).1)); clear hown1 hgrow1 hnil1; obtain ⟨q0, q1, q2, _, _, _⟩ := three_below HT1.out HB1.out (by omega); have e0 := (HB1.out.cell (p := ⟨g, k * 2, none⟩) HG.out).trans c0; have e1 := (HB1.out.cell (p := ⟨g, k * 2 + 1, none⟩) HG.out).trans c1) | (at_builtin; refine wpList_append_own _ rfl (.tmp 43) (.tmp 49) 26 rfl (w.heap.size + 2) 86 i0 _ 2 16 Try.underlying26 hi hz0 hz1 hz2 rfl (by decide) _ _ _ rfl (World.ownsRow.alloc HO1.out _) ⟨w1.heap.size, 0, none⟩ 1 1 [.int .u64 pq.1, .int .u64 pq.2] rfl rfl (two_new _ _ _ _) (two_one _ _) (by have := HL.out; unfold maxLen; simp; omega) (by have := HL.out; simp; omega) (by have := HZ.out; have := HB1.out.size; simp; omega) ?_; intro v2 w2 hown2 hgrow2 hnil2; have HO2 := Lib.hid (own_more hown2); have HB2 := Lib.hid (app_step (Nat.le_trans HZ.out HB1.out.size) hgrow2 (fun k hk => (World.ownsRow.lt HO1.out k hk).1)); clear hown2 hgrow2 hnil2))
            go_roundw
            case rel => exact ⟨k + 1, by omega, by go_num, by rw [HSt.out, E.out], by rw [HSt.out, E.out]; exact HO2.out, HR.out.step (HB1.out.trans HB2.out)⟩
            case measure => simp [intOf]; omega
          · have E := Lib.hid (show stepL a x (stL L a x k) pq = ((stL L a x k).1 ++ [pq], (stL L a x k).2) by unfold stepL; rw [if_neg hpa, if_neg (fun h => hap h.2)])
            have hap' : pq.1 ≤ a := by omega
            clear hpa hap
            go_wp2_with (first | (at_builtin; refine wpList_append_own _ rfl (.tmp 43) (.tmp 49) 26 rfl (w.heap.size + 2) 86 i0 _ 2 16 Try.underlying26 hi hz0 hz1 hz2 rfl (by decide) _ _ _ rfl (World.ownsRow.alloc HO.out _) ⟨wr.heap.size, 0, none⟩ 1 1 [.int .u64 pq.1, .int .u64 pq.2] rfl rfl (two_new _ _ _ _) (two_one _ _) (by have := HL.out; unfold maxLen; simp; omega) (by have := HL.out; simp; omega) (by have := HZ.out;  simp; omega) ?_; intro v2 w2 hown2 hgrow2 hnil2; have HO2 := Lib.hid (own_more hown2); have HB2 := Lib.hid (app_step (HZ.out) hgrow2 (fun k hk => (World.ownsRow.lt HO.out k hk).1)); clear hown2 hgrow2 hnil2))
            go_roundw
            case rel => exact ⟨k + 1, by omega, by go_num, by rw [HSt.out, E.out, hd], by rw [HSt.out, E.out]; exact HO2.out, HR.out.step HB2.out⟩
            case measure => simp [intOf]; omega
        · have hd' : (stL L a x k).2 = true := by simpa using hd
          have E := Lib.hid (show stepL a x (stL L a x k) pq = ((stL L a x k).1 ++ [pq], (stL L a x k).2) by unfold stepL; rw [if_neg hpa, if_neg (fun h => hd h.1)])
          clear hpa hd
          go_wp2_with (first | (at_builtin; refine wpList_append_own _ rfl (.tmp 43) (.tmp 49) 26 rfl (w.heap.size + 2) 86 i0 _ 2 16 Try.underlying26 hi hz0 hz1 hz2 rfl (by decide) _ _ _ rfl (World.ownsRow.alloc HO.out _) ⟨wr.heap.size, 0, none⟩ 1 1 [.int .u64 pq.1, .int .u64 pq.2] rfl rfl (two_new _ _ _ _) (two_one _ _) (by have := HL.out; unfold maxLen; simp; omega) (by have := HL.out; simp; omega) (by have := HZ.out;  simp; omega) ?_; intro v2 w2 hown2 hgrow2 hnil2; have HO2 := Lib.hid (own_more hown2); have HB2 := Lib.hid (app_step (HZ.out) hgrow2 (fun k hk => (World.ownsRow.lt HO.out k hk).1)); clear hown2 hgrow2 hnil2))
          go_roundw
          case rel => exact ⟨k + 1, by omega, by go_num, by rw [HSt.out, E.out, hd'], by rw [HSt.out, E.out]; exact HO2.out, HR.out.step HB2.out⟩
          case measure => simp [intOf]; omega
    · have e : k = L.length := by omega
      subst e
      obtain ⟨t0, t1, t2, t3, t4, t5⟩ := HT2.out
      by_cases hd : (stL L a x L.length).2 = true
      · have E := Lib.hid (show setL L a x = (stL L a x L.length).1 from if_pos hd)
        obtain ⟨A1, cc, rfl⟩ := OwnK.form HO.out
        go_wp2
        refine bodyPost_ret (v := .agg #[.int .i64 M, .slice A1 (stL L a x L.length).1.length cc, .slice A' tr.length c']) ?_ rfl ⟨_, rfl, ?_, ?_, ?_⟩
        · rw [results_cell1 rfl]; go_simp
        · rw [E.out]; exact row_zero (row_set (row_set (row_set (row_set HO.out (by omega) _ _) (by omega) _ _) (by omega) _ _) (by omega) _ _)
        · intro i hi; have := (World.ownsRow.lt HO.out i hi).1; omega
        · exact (((HB.out.setCell (by simp) _).setCell (by simp) _).setCell (by simp) _).setCell (by simp) _
      · have hd' : (stL L a x L.length).2 = false := by simpa using hd
        have E := Lib.hid (show setL L a x = (stL L a x L.length).1 ++ [(a, x)] from if_neg hd)
        clear hd
        go_wp2_with (first | (at_builtin; refine wpList_append_own _ rfl (.tmp 53) (.tmp 57) 26 rfl (w.heap.size + 2) 86 i0 _ 2 16 Try.underlying26 hi hz0 hz1 hz2 rfl (by decide) _ _ _ rfl (World.ownsRow.alloc HO.out _) ⟨wr.heap.size, 0, none⟩ 1 1 [.int .u64 a, .int .u64 x] rfl rfl (two_new _ _ _ _) (two_one a x) (by have := HL.out; unfold maxLen; omega) (by have := HL.out; omega) (by have := HZ.out; simp; omega) ?_; intro v1 w1 hown1 hgrow1 hnil1; have HO1 := Lib.hid (own_more hown1); have HB1 := Lib.hid (app_step HZ.out hgrow1 (fun k hk => (World.ownsRow.lt HO.out k hk).1)); clear hown1 hgrow1 hnil1; obtain ⟨A1, c1, rfl⟩ := OwnK.form HO1.out; obtain ⟨q0, q1, q2, q3, q4, q5⟩ := three_below HT1.out HB1.out (by omega); obtain ⟨r0, r1, r2, r3, r4, r5⟩ := three_below HT2.out HB1.out (by omega)))
        refine bodyPost_ret (v := .agg #[.int .i64 M, .slice A1 ((stL L a x L.length).1 ++ [(a, x)]).length c1, .slice A' tr.length c']) ?_ rfl ⟨_, rfl, ?_, ?_, ?_⟩
        · rw [results_cell1 rfl]; go_simp
        · rw [E.out]; exact row_zero (row_set (row_set (row_set (row_set HO1.out (by omega) _ _) (by omega) _ _) (by omega) _ _) (by omega) _ _)
        · intro i hi; have := (World.ownsRow.lt HO1.out i hi).1; omega
        · exact ((((HB.out.trans (HB1.out.mono (by omega))).setCell (by simp) _).setCell (by simp) _).setCell (by simp) _).setCell (by simp) _

end Go.Proofs.Ytfakfmefjfemhaa
