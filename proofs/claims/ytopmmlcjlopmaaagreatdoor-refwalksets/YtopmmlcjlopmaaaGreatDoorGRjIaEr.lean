/- Several texts of ours in one: Rj, Ia, Er. -/
import Derived.Test.YtopmmlcjlopmaaaGreatDoorGRlRsRp
import Derived.Test.YtopmmlcjlopmaaaGreatDoorGHpHqHu
import Derived.Test.YtopmmlcjlopmaaaGreatDoorGMeEmEa
import Derived.Test.YtopmmlcjlopmaaaGreatDoorGVaVrFr
/- The document's slots: each once, rising; rows beside what is turned. -/
namespace Go.Proofs.YtopmmlcjlopmaaaGreatDoor
set_option linter.unusedVariables false
set_option linter.unusedSimpArgs false
open Go.ChangeShapes Go.WideShapes Go.ChangeAt Go.RowKit Go.Joins

/-- each once, rising, each at a slot -/
structure Ris (L : List (Int × Int)) : Prop where
  up : L.Pairwise fun p q => p.1 < q.1
  al : ∀ p ∈ L, p.1 % 8 = 0 ∧ 0 ≤ p.1

theorem Ris.nil : Ris [] := ⟨List.Pairwise.nil, fun _ h => by simp at h⟩

structure RisTo (P : List (Int × Int)) (a : Int) (s : List (Int × Int) × Bool) : Prop where
  r1 : s.1.Pairwise fun p q => p.1 < q.1
  r2 : ∀ q ∈ s.1, q.1 = a ∨ ∃ p ∈ P, p.1 = q.1
  r3 : s.2 = false → ∀ q ∈ s.1, q.1 < a
  r4 : s.2 = true → ∃ p ∈ P, a < p.1

theorem RisTo.step {P : List (Int × Int)} {a x : Int} {s : List (Int × Int) × Bool} (h : RisTo P a s) (p : Int × Int) (hp : ∀ q ∈ P, q.1 < p.1) : RisTo (P ++ [p]) a (stepL a x s p) := by
  have sup : ∀ q : Int × Int, (∃ p ∈ P, p.1 = q.1) → ∃ p' ∈ P ++ [p], p'.1 = q.1 := fun q ⟨p', h1, h2⟩ => ⟨p', by simp [h1], h2⟩
  unfold stepL
  by_cases h1 : p.1 = a
  · rw [if_pos h1]
    exact ⟨h.r1, fun q hq => (h.r2 q hq).imp id (sup q), h.r3, fun e => by obtain ⟨p', h2, h3⟩ := h.r4 e; exact ⟨p', by simp [h2], h3⟩⟩
  · rw [if_neg h1]
    by_cases h2 : s.2 = false ∧ a < p.1
    · rw [if_pos h2]
      refine ⟨?_, fun q hq => ?_, fun e => by simp at e, fun _ => ⟨p, by simp, h2.2⟩⟩
      · refine List.pairwise_append.2 ⟨List.pairwise_append.2 ⟨h.r1, by simp, fun q hq r hr => ?_⟩, by simp, fun q hq r hr => ?_⟩
        · simp at hr; subst hr; exact h.r3 h2.1 q hq
        · simp at hr; subst hr
          rcases List.mem_append.1 hq with hq | hq
          · exact Int.lt_trans (h.r3 h2.1 q hq) h2.2
          · simp at hq; subst hq; exact h2.2
      · rcases List.mem_append.1 hq with hq | hq
        · rcases List.mem_append.1 hq with hq | hq
          · exact (h.r2 q hq).imp id (sup q)
          · simp at hq; subst hq; exact Or.inl rfl
        · simp at hq; subst hq; exact Or.inr ⟨q, by simp, rfl⟩
    · rw [if_neg h2]
      have hlt : ∀ q ∈ s.1, q.1 < p.1 := fun q hq => by
        rcases h.r2 q hq with e | ⟨p', hp', e⟩
        · cases hs : s.2 with
          | false => have := h.r3 hs q hq; omega
          | true => obtain ⟨p', h3, h4⟩ := h.r4 hs; have := hp p' h3; omega
        · have := hp p' hp'; omega
      refine ⟨List.pairwise_append.2 ⟨h.r1, by simp, fun q hq r hr => ?_⟩, fun q hq => ?_, fun e q hq => ?_, fun e => ?_⟩
      · simp at hr; subst hr; exact hlt q hq
      · rcases List.mem_append.1 hq with hq | hq
        · exact (h.r2 q hq).imp id (sup q)
        · simp at hq; subst hq; exact Or.inr ⟨q, by simp, rfl⟩
      · rcases List.mem_append.1 hq with hq | hq
        · exact h.r3 e q hq
        · simp at hq; subst hq
          have : ¬ a < q.1 := fun h3 => h2 ⟨e, h3⟩
          omega
      · obtain ⟨p', h3, h4⟩ := h.r4 e
        exact ⟨p', by simp [h3], h4⟩

theorem risTo_fold (a x : Int) : ∀ (Q P : List (Int × Int)) (s : List (Int × Int) × Bool), RisTo P a s → (P ++ Q).Pairwise (fun p q => p.1 < q.1) → RisTo (P ++ Q) a (Q.foldl (stepL a x) s)
  | [], P, s, h, _ => by simpa using h
  | q :: Q, P, s, h, hp => by
    have h1 : ∀ p ∈ P, p.1 < q.1 := fun p hpm => (List.pairwise_append.1 hp).2.2 p hpm q (by simp)
    have h2 := risTo_fold a x Q (P ++ [q]) (stepL a x s q) (h.step q h1) (by simpa using hp)
    simpa using h2

theorem Ris.set {L : List (Int × Int)} (h : Ris L) {a : Int} (ha : a % 8 = 0) (h0 : 0 ≤ a) (x : Int) : Ris (setL L a x) := by
  have h1 := risTo_fold a x L [] ([], false) ⟨List.Pairwise.nil, fun _ h => by simp at h, fun _ _ h => by simp at h, fun h => by simp at h⟩ (by simpa using h.up)
  have e : stL L a x L.length = L.foldl (stepL a x) ([], false) := by unfold stL; rw [List.take_length]
  rw [List.nil_append, ← e] at h1
  unfold setL
  have al : ∀ q ∈ (stL L a x L.length).1, q.1 % 8 = 0 ∧ 0 ≤ q.1 := fun q hq => by
    rcases h1.r2 q hq with e | ⟨p, hp, e⟩
    · rw [e]; exact ⟨ha, h0⟩
    · rw [← e]; exact h.al p hp
  by_cases hd : (stL L a x L.length).2 = true
  · rw [if_pos hd]; exact ⟨h1.r1, al⟩
  · rw [if_neg hd]
    have hd' : (stL L a x L.length).2 = false := by simpa using hd
    refine ⟨List.pairwise_append.2 ⟨h1.r1, by simp, fun q hq r hr => ?_⟩, fun q hq => ?_⟩
    · simp at hr; subst hr; exact h1.r3 hd' q hq
    · rcases List.mem_append.1 hq with hq | hq
      · exact al q hq
      · simp at hq; subst hq; exact ⟨ha, h0⟩

section
variable {wr w3 : World} {bx : Nat} {F : Nat → Prop}
theorem own_turn {base : Nat} {e : TypeId} {sz : Nat} {v : Value} {k : Nat} {xs : List Value} (h : wr.ownsRow base e sz v k xs) (ht : Turn F wr w3) (hn : ∀ i, v.ownBlock = some i → ¬ F i) : w3.ownsRow base e sz v k xs := by
  refine ⟨h.1, ?_⟩
  rcases h.2 with h2 | ⟨g, cap, cur, hv, hb, hg, r⟩
  · exact Or.inl h2
  · refine Or.inr ⟨g, cap, cur, hv, hb, ?_, r⟩
    rw [ht.block g (lt_of_block hg) (hn g (by rw [hv]; rfl))]; exact hg
theorem not_box {base : Nat} {e : TypeId} {sz : Nat} {v : Value} {k : Nat} {xs : List Value} {t : TypeId} {ys : Array Value} (h : wr.ownsRow base e sz v k xs) (hb : wr.heap[bx]? = some (.cells ys t (0, 0))) (hne : e ≠ t) (i : Nat) (hi : v.ownBlock = some i) : ¬ i = bx := by
  intro e1
  rcases h.2 with ⟨rfl, _⟩ | ⟨g, cap, cur, rfl, _, hg, _⟩
  · simp [Value.ownBlock] at hi
  · simp [Value.ownBlock] at hi
    rw [hi, e1, hb] at hg; simp at hg
    exact hne hg.2.symm
end
end Go.Proofs.YtopmmlcjlopmaaaGreatDoor
/- The document's memory as a value; the document's Built, and its set. -/
namespace Go.Proofs.YtopmmlcjlopmaaaGreatDoor
set_option linter.unusedVariables false
set_option linter.unusedSimpArgs false
open Go.ChangeShapes Go.WideShapes Go.ChangeAt Go.RowKit Go.Joins

section
variable {w w' : World} {b : Nat} {t : TypeId} {x0 x1 x2 y0 y1 y2 : Value} {cs : Array Value}
theorem Blk.three (h : Blk w b #[x0, x1, x2] t) : w.cell? ⟨b, 0, none⟩ = some x0 ∧ w.cell? ⟨b, 1, none⟩ = some x1 ∧ w.cell? ⟨b, 2, none⟩ = some x2 := by
  unfold Blk at h; simp [World.cell?, h]
theorem Blk.set3 (h : Blk w b #[x0, x1, x2] t) (y0 y1 y2 : Value) : Blk (((w.setCell ⟨b, 0, none⟩ y0).setCell ⟨b, 1, none⟩ y1).setCell ⟨b, 2, none⟩ y2) b #[y0, y1, y2] t := by
  unfold Blk at *; simp [World.setCell, Array.getElem?_modify, h]
theorem turn3 (w : World) (b : Nat) (y0 y1 y2 : Value) : Turn (fun i => i = b) w (((w.setCell ⟨b, 0, none⟩ y0).setCell ⟨b, 1, none⟩ y1).setCell ⟨b, 2, none⟩ y2) :=
  ((turn1 _ _ _ _).and (turn1 _ _ _ _)).and (turn1 _ _ _ _)
end

/-- the document's memory: its slots, and its trace -/
structure Doc (w : World) (M : Int) (vs vt : Value) (f : Int → Int) (tr : List Int) (L : List (Int × Int)) : Prop where
  slots : SlotsOwn w vs L
  words : WordsOwn w vt tr
  agree : Agree f L
  ris : Ris L
  ins : ∀ p ∈ L, errS M p.1 = 0

abbrev docCells (M : Int) (vs vt : Value) : Array Value := #[.int .i64 M, vs, vt]

section
variable {w wr w3 : World} {M : Int} {vs vt vs' vt' : Value} {f : Int → Int} {tr tr' : List Int} {L : List (Int × Int)} {b : Nat} {cs : Array Value} {t : TypeId}
theorem Doc.quiet (h : Doc w M vs vt f tr L) (hb : Below w.heap.size w w3) : Doc w3 M vs vt f tr L := ⟨own_below h.slots hb, own_below h.words hb, h.agree, h.ris, h.ins⟩
/-- a box of structs is turned -/
theorem Doc.box (h : Doc w M vs vt f tr L) (hb : Blk w b cs t) (h1 : 103 ≠ t) (h2 : 23 ≠ t) (ht : Turn (fun i => i = b) w w3) : Doc w3 M vs vt f tr L :=
  ⟨own_turn h.slots ht (not_box h.slots hb h1), own_turn h.words ht (not_box h.words hb h2), h.agree, h.ris, h.ins⟩
theorem Doc.start (w : World) (M : Int) : Doc w M (.slice none 0 0) (.slice none 0 0) (fun _ => 0) [] [] :=
  ⟨World.ownsRow_nil _ _ _ _, World.ownsRow_nil _ _ _ _, fun _ => rfl, Ris.nil, fun _ h => by simp at h⟩
theorem mem_setL {L : List (Int × Int)} (h : Ris L) {a x : Int} {p : Int × Int} (hp : p ∈ setL L a x) : p.1 = a ∨ ∃ q ∈ L, q.1 = p.1 := by
  have h1 := risTo_fold a x L [] ([], false) ⟨List.Pairwise.nil, fun _ h => by simp at h, fun _ _ h => by simp at h, fun h => by simp at h⟩ (by simpa using h.up)
  have e : stL L a x L.length = L.foldl (stepL a x) ([], false) := by unfold stL; rw [List.take_length]
  rw [List.nil_append, ← e] at h1
  unfold setL at hp
  split at hp
  · exact h1.r2 p hp
  · rcases List.mem_append.1 hp with hq | hq
    · exact h1.r2 p hq
    · simp at hq; subst hq; exact Or.inl rfl
theorem Doc.store (h : Doc w M vs vt f tr L) (hw : WordsOwn w3 vt tr) (a x : Int) (ha : W64 a) (hs : SlotsOwn w3 vs' (storeL M L a x)) : Doc w3 M vs' vt (storeS M f a x) tr (storeL M L a x) := by
  refine ⟨hs, hw, agree_store h.agree a x, ?_, ?_⟩
  · unfold storeL
    split
    · rename_i e; exact h.ris.set (errS_in e).2 ha.1 x
    · exact h.ris
  · intro p hp
    unfold storeL at hp
    split at hp
    · rename_i e
      rcases mem_setL h.ris hp with h1 | ⟨q, hq, h1⟩
      · rw [h1]; exact e
      · rw [← h1]; exact h.ins q hq
    · exact h.ins p hp
end

theorem Doc.form {w : World} {M : Int} {vs vt : Value} {f : Int → Int} {tr : List Int} {L : List (Int × Int)} (h : Doc w M vs vt f tr L) : ∃ A c A' c', vs = .slice A L.length c ∧ vt = .slice A' tr.length c' := by
  obtain ⟨A, c, e, _⟩ := h.slots.form
  obtain ⟨A', c', e'⟩ := own_len h.words
  exact ⟨A, c, A', c', e, e'⟩
set_option maxRecDepth 100000 in
set_option maxHeartbeats 1600000 in
theorem rset8_any {w : World} {M : Int} {vs vt : Value} {f : Int → Int} {tr : List Int} {L : List (Int × Int)} (h : Doc w M vs vt f tr L) (hM : 14 ≤ M ∧ M ≤ 22) (hl : L.length < 90000) (hw : ∀ j, W64 (f j)) (s y : Int) (hs : W64 s) (hy : W64 y) :
    Calls Tryz.prog 80 #[.agg (docCells M vs vt), .int .u64 s, .int .u64 y] w fun e w' => ∃ vs' L', e = .returned (.agg (docCells M vs' vt)) ∧ Doc w' M vs' vt (orS M f s y) tr L' ∧ L'.length ≤ L.length + 1 ∧ Below w.heap.size w w' := by
  obtain ⟨A, c, A', c', rfl, rfl⟩ := h.form
  have H0 : Hid (Blk ((w.alloc (.cells (docCells M (.slice A L.length c) (.slice A' tr.length c')) 45)).alloc (.cells (docCells 0 (.slice none 0 0) (.slice none 0 0)) 45)) w.heap.size (docCells M (.slice A L.length c) (.slice A' tr.length c')) 45 ∧
      Blk ((w.alloc (.cells (docCells M (.slice A L.length c) (.slice A' tr.length c')) 45)).alloc (.cells (docCells 0 (.slice none 0 0) (.slice none 0 0)) 45)) (w.heap.size + 1) (docCells 0 (.slice none 0 0) (.slice none 0 0)) 45 ∧
      Below w.heap.size w ((w.alloc (.cells (docCells M (.slice A L.length c) (.slice A' tr.length c')) 45)).alloc (.cells (docCells 0 (.slice none 0 0) (.slice none 0 0)) 45))) := Lib.hid ⟨(Blk.new w _ _).alloc _, last_obj2 w _ _, below2 w _ _⟩
  have HD := Lib.hid h
  have HWd := Lib.hid hw
  clear h hw
  go_enter Tryz.func80, Tryz.ntmps80
  go_upto_region 1 with fail
  generalize hw0 : (w.alloc _).alloc _ = w0
  have H1 : Hid (Blk w0 w.heap.size (docCells M (.slice A L.length c) (.slice A' tr.length c')) 45 ∧ Blk w0 (w.heap.size + 1) (docCells 0 (.slice none 0 0) (.slice none 0 0)) 45 ∧ Below w.heap.size w w0) := Lib.hid (by rw [← hw0]; exact H0.out)
  have HD1 := Lib.hid (HD.out.quiet H1.out.2.2)
  clear hw0 H0 HD
  obtain ⟨p0, p1, p2⟩ := H1.out.1.three
  have CP := rPeek_any M _ (.slice A' tr.length c') L f s w0 hM HD1.out.slots (by omega) HD1.out.agree hs
  go_upto_region 2 with (first | (go_at_call 81; ((with_reducible refine CP.mono ?_)); rintro e w1 ⟨rfl, hB1⟩; have HD2 := Lib.hid (HD1.out.quiet hB1); have H2 : Hid (Blk w1 w.heap.size (docCells M (.slice A L.length c) (.slice A' tr.length c')) 45 ∧ Blk w1 (w.heap.size + 1) (docCells 0 (.slice none 0 0) (.slice none 0 0)) 45 ∧ Below w.heap.size w w1) := Lib.hid ⟨H1.out.1.below hB1, H1.out.2.1.below hB1, H1.out.2.2.trans (hB1.mono H1.out.2.2.size)⟩; clear hB1 H1 HD1 CP p0 p1 p2))
  have fin : ∀ (f' : Int → Int) (vs' : Value) (L' : List (Int × Int)) (w3 : World), Blk w3 (w.heap.size + 1) (docCells 0 (.slice none 0 0) (.slice none 0 0)) 45 → Below w.heap.size w w3 → Doc w3 M vs' (.slice A' tr.length c') f' tr L' → f' = orS M f s y →
      Doc (((w3.setCell ⟨w.heap.size + 1, 0, none⟩ (.int .i64 M)).setCell ⟨w.heap.size + 1, 1, none⟩ vs').setCell ⟨w.heap.size + 1, 2, none⟩ (.slice A' tr.length c')) M vs' (.slice A' tr.length c') (orS M f s y) tr L' ∧ Below w.heap.size w (((w3.setCell ⟨w.heap.size + 1, 0, none⟩ (.int .i64 M)).setCell ⟨w.heap.size + 1, 1, none⟩ vs').setCell ⟨w.heap.size + 1, 2, none⟩ (.slice A' tr.length c')) := by
    intro f' vs' L' w3 hb hB hD e
    subst e
    exact ⟨hD.box hb (by decide) (by decide) (turn3 _ _ _ _ _), turn_below hB (turn3 _ _ _ _ _) (by omega) hB.size⟩
  obtain ⟨p0, p1, p2⟩ := H2.out.1.three
  obtain ⟨q0, q1, q2⟩ := H2.out.2.1.three
  have f0 := H2.out.2.1.fz 0; have f1 := H2.out.2.1.fz 1; have f2 := H2.out.2.1.fz 2
  by_cases he : errS M s = 0
  · rw [he, show peekV M f s = f (s / 8) from if_pos he]
    have hww := HWd.out (s / 8)
    by_cases hb : bits .and .u64 (f (s / 8)) y = y
    · have hb2 : (bits .and .u64 (f (s / 8)) y == y) = true := by simpa using hb
      have HE : Hid (f = orS M f s y) := Lib.hid (by unfold orS; rw [if_pos he, or_same hww hy hb, upd_same])
      have HF := Lib.hid (fin f _ L w1 H2.out.2.1 H2.out.2.2 HD2.out HE.out)
      clear he hb hww fin
      generalize f (s / 8) = x at *
      go_wp2
      refine bodyPost_ret (results_cell_row rfl _ _ (w.heap.size + 1) _ _ _ _ rfl (H2.out.2.1.set3 _ _ _) Tryz.underlying45 rfl rfl) rfl ⟨_, L, rfl, HF.out.1, by omega, HF.out.2⟩
    · have hb2 : (bits .and .u64 (f (s / 8)) y == y) = false := by simpa using hb
      have CS := rStore_any M _ _ L tr f s (bits .or .u64 (f (s / 8)) y) w1 hM HD2.out.slots (by omega) HD2.out.words HD2.out.agree hs
      have HE : Hid (storeS M f s (bits .or .u64 (f (s / 8)) y) = orS M f s y) := Lib.hid (by unfold orS storeS; simp only [if_pos he])
      have HLn := Lib.hid (storeL_len M L s (bits .or .u64 (f (s / 8)) y))
      have HSt : Hid (∀ w3 vs', WordsOwn w3 (.slice A' tr.length c') tr → SlotsOwn w3 vs' (storeL M L s (bits .or .u64 (f (s / 8)) y)) → Doc w3 M vs' (.slice A' tr.length c') (storeS M f s (bits .or .u64 (f (s / 8)) y)) tr (storeL M L s (bits .or .u64 (f (s / 8)) y))) := Lib.hid (fun w3 vs' h1 h2 => HD2.out.store h1 s _ hs h2)
      rw [he] at CS
      clear he hb hww
      generalize storeL M L s (bits .or .u64 (f (s / 8)) y) = L' at *
      generalize hg : storeS M f s (bits .or .u64 (f (s / 8)) y) = g at *
      clear hg
      generalize f (s / 8) = x at *
      go_upto_region 5 with (first | (go_at_call 36; ((with_reducible refine CS.mono ?_)); rintro e w2 ⟨vs', rfl, hS2, _, hB2⟩; have HD3 := Lib.hid (HSt.out w2 vs' (own_below HD2.out.words hB2) hS2); have H3 : Hid (Blk w2 (w.heap.size + 1) (docCells 0 (.slice none 0 0) (.slice none 0 0)) 45 ∧ Below w.heap.size w w2) := Lib.hid ⟨H2.out.2.1.below hB2, H2.out.2.2.trans (hB2.mono H2.out.2.2.size)⟩; obtain ⟨A2, c2, _, _, rfl, _⟩ := HD3.out.form; clear hS2 hB2 HSt CS H2 HD2 p0 p1 p2 q0 q1 q2 f0 f1 f2))
      generalize hw3 : w2.alloc _ = w3
      have HK3 : Hid (Below w2.heap.size w2 w3) := Lib.hid (by rw [← hw3]; exact below_alloc1 _ _)
      have HN3 : Hid (Blk w3 w2.heap.size (docCells M (.slice A2 L'.length c2) (.slice A' tr.length c')) 45) := Lib.hid (by rw [← hw3]; exact Blk.new _ _ _)
      have HF := Lib.hid (fin g _ L' w3 (H3.out.1.below HK3.out) (H3.out.2.trans (HK3.out.mono H3.out.2.size)) (HD3.out.quiet HK3.out) HE.out)
      have HR := Lib.hid (H3.out.1.below HK3.out)
      clear hw3 HK3 H3 HD3 fin
      obtain ⟨p0, p1, p2⟩ := HN3.out.three
      obtain ⟨q0, q1, q2⟩ := HR.out.three
      have f0 := HR.out.fz 0; have f1 := HR.out.fz 1; have f2 := HR.out.fz 2
      go_wp2
      refine bodyPost_ret (results_cell_row rfl _ _ (w.heap.size + 1) _ _ _ _ rfl (HR.out.set3 _ _ _) Tryz.underlying45 rfl rfl) rfl ⟨_, L', rfl, HF.out.1, HLn.out, HF.out.2⟩
  · have hb2 : (errS M s != 0) = true := by simpa using he
    have HE : Hid (f = orS M f s y) := Lib.hid (by unfold orS; rw [if_neg he])
    have HF := Lib.hid (fin f _ L w1 H2.out.2.1 H2.out.2.2 HD2.out HE.out)
    clear he fin
    go_wp2
    refine bodyPost_ret (results_cell_row rfl _ _ (w.heap.size + 1) _ _ _ _ rfl (H2.out.2.1.set3 _ _ _) Tryz.underlying45 rfl rfl) rfl ⟨_, L, rfl, HF.out.1, by omega, HF.out.2⟩
end Go.Proofs.YtopmmlcjlopmaaaGreatDoor
/- Contracts of dormerref05: what each call of the document's own answer returns. -/
namespace Go.Proofs.YtopmmlcjlopmaaaGreatDoor
set_option linter.unusedVariables false
set_option linter.unusedSimpArgs false
open Go.ChangeShapes Go.WideShapes Go.ChangeAt Go.RowKit Go.Joins

theorem rtable_any (x : Int) (w : World) (hx : W64 x) :
    Calls Tryz.prog 76 #[.int .u64 x] w fun e w' => e = .returned (.int .u64 (tableF x)) ∧ w = w' := by
  have e := Lib.hid (table_get hx)
  go_enter Tryz.func76, Tryz.ntmps76
  go_wp2_with (go_at_call 112; refine (rget_any _ _ _ _ hx).mono ?_; rintro e w' ⟨rfl, rfl⟩)
  go_ret
  exact ⟨ret_int e.out, rfl⟩

theorem rleaf_any (x l : Int) (w : World) (hx : W64 x) :
    Calls Tryz.prog 74 #[.int .u64 x, .int .i64 l] w fun e w' => e = .returned (.bool (leafF x l)) ∧ w = w' := by
  by_cases h1 : l = 1
  · subst h1
    go_enter Tryz.func74, Tryz.ntmps74
    go_wp2
    go_ret
    exact ⟨rfl, rfl⟩
  · by_cases h2 : l = 2
    · subst h2
      rw [leaf_two]
      go_enter Tryz.func74, Tryz.ntmps74
      go_wp2_with (go_at_call 71; refine (rbit_any _ _ _ hx).mono ?_; rintro e w' ⟨rfl, rfl⟩)
      go_ret
      exact ⟨rfl, rfl⟩
    · by_cases h3 : l = 3
      · subst h3
        rw [leaf_three]
        go_enter Tryz.func74, Tryz.ntmps74
        go_wp2_with (go_at_call 71; refine (rbit_any _ _ _ hx).mono ?_; rintro e w' ⟨rfl, rfl⟩)
        go_ret
        exact ⟨rfl, rfl⟩
      · rw [leaf_else x h1 h2 h3]
        have c1 : (l == 1) = false := by simp [h1]
        have c2 : (l == 2) = false := by simp [h2]
        have c3 : (l == 3) = false := by simp [h3]
        clear h1 h2 h3
        go_enter Tryz.func74, Tryz.ntmps74
        go_wp2_with (go_at_call 71; refine (rbit_any _ _ _ hx).mono ?_; rintro e w' ⟨rfl, rfl⟩)
        go_ret
        exact ⟨rfl, rfl⟩

theorem some_any (x : Int) (lo hi : Nat) (w : World) (hx : W64 x) (h : lo ≤ hi + 1) (h63 : hi ≤ 63) :
    Calls Tryz.prog 110 #[.int .u64 x, .int .i64 lo, .int .i64 hi] w fun e w' => e = .returned (.bool (hasF x (maskF lo (hi + 1 - lo)))) ∧ w = w' := by
  obtain ⟨r, hr0⟩ : ∃ r, hasF x (maskF lo (hi + 1 - lo)) = r := ⟨_, rfl⟩
  rw [hr0]
  have hr := Lib.hid hr0
  clear hr0
  go_enter Tryz.func110, Tryz.ntmps110
  go_wp2
  go_loop [7] (fun i => ∃ k : Nat, lo ≤ k ∧ k ≤ hi + 1 ∧ i = .int .i64 k ∧ ∀ j, lo ≤ j → j < k → tb x j = false) (fun i => (hi + 1 - intOf i).toNat)
  case atStart => exact ⟨lo, by omega, h, rfl, fun j h1 h2 => absurd h2 (by omega)⟩
  case round =>
    obtain ⟨k, hk1, hk2, rfl, hall⟩ := hrel
    have hA := Lib.hid hall
    clear hall
    by_cases hlt : k ≤ hi
    · have hB := Lib.hid (bit_nat hx (show k < 64 by omega))
      cases hb : bitF x k
      · go_wp2_with (go_at_call 71; refine (rbit_any _ _ _ hx).mono ?_; rintro e w' ⟨rfl, rfl⟩)
        go_round
        case rel =>
          refine ⟨k + 1, by omega, by omega, by go_num, fun j h1 h2 => ?_⟩
          by_cases c : j = k
          · subst c; exact hB.out.symm.trans hb
          · exact hA.out j h1 (by omega)
        case measure => simp [intOf]; omega
      · go_wp2_with (go_at_call 71; refine (rbit_any _ _ _ hx).mono ?_; rintro e w' ⟨rfl, rfl⟩)
        go_ret
        exact ⟨ret_bool (by rw [← hr.out, has_some hx h h63 hk1 hlt (hB.out.symm.trans hb)]), rfl⟩
    · go_wp2
      go_ret
      exact ⟨ret_bool (by rw [← hr.out, has_none hx (fun j h1 h2 => hA.out j h1 (by omega))]), rfl⟩

theorem rslot_any (t a l : Int) (w : World) (ht : W64 t) (ha : W64 a) :
    Calls Tryz.prog 69 #[.int .u64 t, .int .u64 a, .int .i64 l] w fun e w' => e = .returned (.int .u64 (slotF t a l)) ∧ w = w' := by
  have e := Lib.hid (slot_wrap t a l)
  go_enter Tryz.func69, Tryz.ntmps69
  go_wp2_with (first | (go_at_call 76; refine (rtable_any _ _ ht).mono ?_; rintro e w' ⟨rfl, rfl⟩) | (go_at_call 108; refine (rindex_any _ _ _ ha).mono ?_; rintro e w' ⟨rfl, rfl⟩))
  go_ret
  exact ⟨ret_int e.out, rfl⟩

theorem rframe_any (x l : Int) (w : World) (hx : W64 x) :
    Calls Tryz.prog 75 #[.int .u64 x, .int .i64 l] w fun e w' => e = .returned (.int .u64 (frameF x l)) ∧ w = w' := by
  obtain ⟨t0, t1⟩ := table_bd x
  cases h : leafF x l
  · rw [frame_else h]
    go_enter Tryz.func75, Tryz.ntmps75
    go_wp2_with (first | (go_at_call 76; refine (rtable_any _ _ hx).mono ?_; rintro e w' ⟨rfl, rfl⟩) | (go_at_call 74; refine (rleaf_any _ _ _ hx).mono ?_; rintro e w' ⟨rfl, rfl⟩))
    go_ret
    exact ⟨rfl, rfl⟩
  · rw [frame_leaf h]
    have hz := leaf_size h
    have e := Lib.hid (frame_wrap x l hz)
    obtain ⟨b0, b1⟩ := size_bd l
    have b2 : 1 ≤ sizeF l := by omega
    go_enter Tryz.func75, Tryz.ntmps75
    go_wp2_with (first | (go_at_call 76; refine (rtable_any _ _ hx).mono ?_; rintro e w' ⟨rfl, rfl⟩) | (go_at_call 74; refine (rleaf_any _ _ _ hx).mono ?_; rintro e w' ⟨rfl, rfl⟩) | (go_at_call 111; refine (rsize_any _ _).mono ?_; rintro e w' ⟨rfl, rfl⟩))
    go_ret
    exact ⟨ret_int e.out, rfl⟩

end Go.Proofs.YtopmmlcjlopmaaaGreatDoor
