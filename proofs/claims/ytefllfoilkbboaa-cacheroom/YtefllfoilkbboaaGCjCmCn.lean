/- Several texts of ours in one: Cj, Cm, Cn. -/
import Derived.Test.YtefllfoilkbboaaGCgChCi
import Derived.Deep.AppendLies
/- Package cache: DropOf. -/
namespace Go.Proofs.Ytefllfoilkbboaa
set_option linter.unusedVariables false
set_option linter.unusedSimpArgs false
open Go.ChangeShapes Go.WideShapes Go.ChangeAt Go.RowKit Go.Joins

/-- of the first k lines those that aren't of p, and all others -/
def midK (L : List Pr) (k : Nat) (p : Int) : List Pr := ofK (L.take k) p ++ L.drop k
theorem midK_zero (L : List Pr) (p : Int) : midK L 0 p = L := by simp [midK, ofK]
theorem midK_all (L : List Pr) (p : Int) {n : Nat} (h : L.length = n) : midK L n p = ofK L p := by
  unfold midK
  rw [List.take_of_length_le (by omega), List.drop_of_length_le (by omega), List.append_nil]
theorem midK_step {L : List Pr} {k : Nat} (hk : k < L.length) (p : Int) : midK L (k + 1) p = (if (L.getD k zP).1.1 = p then ofK (L.take k) p else ofK (L.take k) p ++ [L.getD k zP]) ++ L.drop (k + 1) := by
  unfold midK
  have hg : L.getD k zP = L[k] := by rw [List.getD, List.getElem?_eq_getElem hk]; rfl
  rw [List.take_add_one, List.getElem?_eq_getElem hk, hg]
  unfold ofK
  rw [List.filter_append]
  by_cases e : L[k].1.1 = p
  · simp [e]
  · simp [e]
theorem midK_here {L : List Pr} {k : Nat} (hk : k < L.length) (p : Int) : midK L k p = ofK (L.take k) p ++ L.getD k zP :: L.drop (k + 1) := by
  unfold midK
  have hg : L.getD k zP = L[k] := by rw [List.getD, List.getElem?_eq_getElem hk]; rfl
  rw [hg, List.drop_eq_getElem_cons hk]
theorem midK_keep {L : List Pr} {k : Nat} (hk : k < L.length) {p : Int} (e : (L.getD k zP).1.1 ≠ p) : midK L (k + 1) p = midK L k p := by
  rw [midK_step hk, if_neg e, midK_here hk]
  simp
theorem idxF_middle (A B : List Ky) (k : Ky) (h : k ∉ A) : idxF (A ++ k :: B) k = some A.length := by
  refine idxF_some (by simp) (by simp [List.getD]) fun j hj e => h ?_
  rw [List.getD, List.getElem?_append_left hj, List.getElem?_eq_getElem hj] at e
  rw [← show A[j] = k from e]
  exact List.getElem_mem _
theorem midK_drop {L : List Pr} (hn : (keysK L).Nodup) {k : Nat} (hk : k < L.length) {p : Int} (e : (L.getD k zP).1.1 = p) : dropK (midK L k p) (L.getD k zP).1 = midK L (k + 1) p := by
  rw [midK_step hk, if_pos e, midK_here hk]
  have hnot : (L.getD k zP).1 ∉ keysK (ofK (L.take k) p) := fun h => by
    unfold keysK at h
    obtain ⟨x, hx, he⟩ := List.mem_map.1 h
    have hx2 := (List.mem_filter.1 hx).2
    simp at hx2
    rw [he] at hx2
    exact hx2 e
  unfold dropK cutO
  rw [keysK_append, show keysK (L.getD k zP :: L.drop (k + 1)) = (L.getD k zP).1 :: keysK (L.drop (k + 1)) from rfl, idxF_middle _ _ _ hnot, keysK_len]
  show (ofK (L.take k) p ++ L.getD k zP :: L.drop (k + 1)).eraseIdx (ofK (L.take k) p).length = _
  rw [List.eraseIdx_append_of_length_le (Nat.le_refl _), Nat.sub_self, List.eraseIdx_cons_zero]

section
variable {w : World} {F : Nat → Prop} {c R : Nat} {L : List Pr}
theorem dropOfC_nil (p : Int) (w : World) : Calls Try.prog 21 #[.pointer none, .int .i64 p] w fun e w' => e = .returned (.tuple #[]) ∧ w = w' := by
  go_enter Try.func21, Try.ntmps21
  go_wp2
  refine bodyPost_ret (results_none rfl _ _ _) rfl ?_
  exact ⟨rfl, rfl⟩

/-- DropOf, in its loop: the lines of the first k places are done; the order that it goes through is v -/
structure Dof (w wr : World) (F : Nat → Prop) (c R : Nat) (L : List Pr) (p : Int) (k : Nat) (v : Value) : Prop where
  law : ∃ G, LawC w wr F c R (midK L k p) G [] []
  ord : OrdIs wr v (keysK L)
theorem Dof.quiet {wr w3 : World} {p : Int} {k : Nat} {v : Value} (h : Dof w wr F c R L p k v) (hb : Below wr.heap.size wr w3) : Dof w w3 F c R L p k v := by
  obtain ⟨G, hL⟩ := h.law
  exact ⟨⟨G, hL.quiet hb⟩, (KeyKept.below hb).ord h.ord⟩
theorem Dof.cac {wr : World} {p : Int} {k : Nat} {v : Value} (h : Dof w wr F c R L p k v) : ∃ G, Cac wr G c R (midK L k p) ∧ ∀ w4 L', Cac w4 (Since G wr) c R L' → Turn G wr w4 → KeyKept wr w4 → L' = midK L (k + 1) p → Dof w w4 F c R L p (k + 1) v := by
  obtain ⟨G, hL⟩ := h.law
  refine ⟨G, hL.wk.cac, fun w4 L' hc ht hk e => ?_⟩
  subst e
  exact ⟨⟨_, hL.did hc ht⟩, hk.ord h.ord⟩

set_option maxRecDepth 100000 in
set_option maxHeartbeats 1600000 in
theorem dropOfC_any (h : Cac w F c R L) (p : Int) :
    Calls Try.prog 21 #[.pointer (some ⟨c, 0, none⟩), .int .i64 p] w fun e w' => e = .returned (.tuple #[]) ∧ Cac w' (Since F w) c R (ofK L p) ∧ Turn F w w' := by
  have hroom := h.room
  have hlen := h.len
  have HN := Lib.hid h.nodup
  have H0 := LawC.start h
  obtain ⟨mb, v, hC, _⟩ := h
  obtain ⟨d0, d1, d2, _⟩ := hC.cells
  have HD : Hid (Dof w w F c R L p 0 v) := Lib.hid ⟨⟨_, by rw [midK_zero]; exact H0⟩, hC.ord⟩
  obtain ⟨A, cap, rfl⟩ := hC.ord.form
  rw [keysK_len] at HD d2
  obtain ⟨n, hn⟩ : ∃ n, L.length = n := ⟨_, rfl⟩
  rw [hn] at HD d2 hlen
  have HL := Lib.hid hn
  clear hC H0 hn
  go_enter Try.func21, Try.ntmps21
  go_wp2
  go_loopw [13] (fun i wr => ∃ k : Nat, k ≤ n ∧ i = .int .i64 k ∧ Dof w wr F c R L p k (.slice A n cap)) (fun i _ => (n - intOf i).toNat)
  case atStart => exact ⟨0, by omega, rfl, HD.out⟩
  case round =>
    obtain ⟨k, hk, rfl, hR⟩ := hrel
    have HR := Lib.hid hR
    clear HD d0 d1 d2 hR
    by_cases hlt : k < n
    · obtain ⟨g, cap', e', c0, c1, c2⟩ := HR.out.ord.at_ (k := k) (by rw [keysK_len, HL.out]; exact hlt)
      rw [keysK_len, HL.out] at e'
      obtain ⟨rfl, rfl⟩ : A = some ⟨g, 0, none⟩ ∧ cap = cap' := by simpa using e'
      clear e'
      rw [keysK_getD] at c0 c1 c2
      obtain ⟨⟨p', q', t'⟩, hkk⟩ : ∃ x : Ky, (L.getD k zP).1 = x := ⟨_, rfl⟩
      rw [hkk] at c0 c1 c2
      have HKK := Lib.hid hkk
      clear hkk
      have hg : g < wr.heap.size := World.block_lt_of_cell? _ _ c0
      have HR1 := Lib.hid (HR.out.quiet (below_alloc1 wr (.cells #[.int .i64 p', .int .i64 q', .int .u64 t'] 34)))
      by_cases he : p' = p
      · subst he
        obtain ⟨G, hcac, hgo⟩ := HR1.out.cac
        have HC := Lib.hid hcac
        have HG := Lib.hid hgo
        clear hcac hgo
        go_wp2_with (go_at_call 20; refine (dropC_all HC.out p' q' t').mono ?_; rintro e w4 ⟨rfl, hc4, ht4, hk4⟩; have H4 := Lib.hid (HG.out w4 _ hc4 ht4 hk4 (by rw [← HKK.out]; exact midK_drop HN.out (by rw [HL.out]; exact hlt) (by rw [HKK.out]))); clear hc4 ht4 hk4)
        go_roundw
        case rel => exact ⟨k + 1, by omega, by go_num, H4.out⟩
        case measure => simp [intOf]; omega
      · have he2 : (p' == p) = false := by simpa using he
        have HM : Hid (midK L (k + 1) p = midK L k p) := Lib.hid (midK_keep (by rw [HL.out]; exact hlt) (by rw [HKK.out]; exact he))
        clear he
        go_wp2
        go_roundw
        case rel =>
          refine ⟨k + 1, by omega, by go_num, ?_⟩
          obtain ⟨G, hL⟩ := HR1.out.law
          exact ⟨⟨G, by rw [HM.out]; exact hL⟩, HR1.out.ord⟩
        case measure => simp [intOf]; omega
    · obtain rfl : k = n := by omega
      obtain ⟨G, hL⟩ := HR.out.law
      rw [midK_all L p HL.out] at hL
      have HE := Lib.hid hL.out
      clear hL
      go_wp2
      go_end0
      exact ⟨rfl, HE.out⟩
end
end Go.Proofs.Ytefllfoilkbboaa
/- The document's cache (dormerref10): find, without. -/
namespace Go.Proofs.Ytefllfoilkbboaa
set_option linter.unusedVariables false
set_option linter.unusedSimpArgs false
open Go.ChangeShapes Go.WideShapes Go.ChangeAt Go.RowKit Go.Joins

theorem infoPair : (Try.prog.info? 51).map (fun i => (i.zero, i.size, i.bytes)) = some (some (.agg #[.int .i64 0, .int .i64 0, .int .u64 0, .int .u64 0, .bool false, .bool false, .bool false, .bool false, .int .u8 0]), 9, 40) := by kernel_rfl

/-- v owns the pairs M, in a block from B on -/
def PairsOwn (w : World) (B : Nat) (v : Value) (M : List Pr) : Prop := w.ownsRow B 51 9 v M.length (pcs M)

/-- the cells of a pair at an address -/
structure PairAt (w : World) (g o : Nat) (p q t f : Int) (x1 x2 x3 x4 : Bool) (m : Int) : Prop where
  k : w.cell? ⟨g, o, none⟩ = some (.int .i64 p) ∧ w.cell? ⟨g, o + 1, none⟩ = some (.int .i64 q) ∧ w.cell? ⟨g, o + 2, none⟩ = some (.int .u64 t)
  l : w.cell? ⟨g, o + 3, none⟩ = some (.int .u64 f) ∧ w.cell? ⟨g, o + 4, none⟩ = some (.bool x1) ∧ w.cell? ⟨g, o + 5, none⟩ = some (.bool x2) ∧ w.cell? ⟨g, o + 6, none⟩ = some (.bool x3) ∧ w.cell? ⟨g, o + 7, none⟩ = some (.bool x4) ∧ w.cell? ⟨g, o + 8, none⟩ = some (.int .u8 m)

section
variable {w w' : World} {B : Nat} {v : Value} {M : List Pr}
theorem PairsOwn.form (h : PairsOwn w B v M) : ∃ A c, v = .slice A M.length c := own_formC h
theorem PairsOwn.nil (w : World) (B : Nat) : PairsOwn w B (.slice none 0 0) [] := World.ownsRow_nil _ _ _ _
theorem PairsOwn.below (h : PairsOwn w B v M) (hb : Below w.heap.size w w') : PairsOwn w' B v M := own_below h hb
theorem PairsOwn.zero (h : PairsOwn w B v M) : PairsOwn w 0 v M := row_zero h
theorem PairsOwn.down {B' : Nat} (h : PairsOwn w B v M) (hB : B' ≤ B) : PairsOwn w B' v M := own_down h hB
theorem PairsOwn.lt (h : PairsOwn w B v M) {i : Nat} (hi : v.ownBlock = some i) : B ≤ i ∧ i < w.heap.size := World.ownsRow.lt h i hi
theorem PairsOwn.turn {F : Nat → Prop} (h : PairsOwn w B v M) (ht : Turn F w w') (hn : ∀ i, v.ownBlock = some i → ¬ F i) : PairsOwn w' B v M := own_turn h ht hn
theorem PairsOwn.at_ (h : PairsOwn w B v M) {k : Nat} (hk : k < M.length) {p q t f m : Int} {x1 x2 x3 x4 : Bool} (he : M.getD k zP = ((p, q, t), (f, x1, x2, x3, x4, m))) :
    ∃ g cap, v = .slice (some ⟨g, 0, none⟩) M.length cap ∧ PairAt w g (k * 9) p q t f x1 x2 x3 x4 m ∧ g < w.heap.size ∧ B ≤ g := by
  rcases h.2 with ⟨_, hn⟩ | ⟨g, cap, cur, rfl, _⟩
  · omega
  · have hc := World.ownsRow.cells h (g := g) rfl
    have e : ∀ j, j < 9 → (pcs M)[k * 9 + j]? = (pc (M.getD k zP))[j]? := fun j hj => flat_get pc_len M zP k j hk hj
    have e2 : ∀ j u, j < 9 → (pc (M.getD k zP))[j]? = some u → w.cell? ⟨g, k * 9 + j, none⟩ = some u := fun j u hj hu => by
      have := hc (k * 9 + j) u ((e j hj).trans hu)
      rwa [add2] at this
    rw [he] at e2
    exact ⟨g, cap, rfl, ⟨⟨e2 0 _ (by omega) rfl, e2 1 _ (by omega) rfl, e2 2 _ (by omega) rfl⟩, ⟨e2 3 _ (by omega) rfl, e2 4 _ (by omega) rfl, e2 5 _ (by omega) rfl, e2 6 _ (by omega) rfl, e2 7 _ (by omega) rfl, e2 8 _ (by omega) rfl⟩⟩, (h.lt (i := g) rfl).2, (h.lt (i := g) rfl).1⟩
theorem PairAt.below {g o : Nat} {p q t f m : Int} {x1 x2 x3 x4 : Bool} (h : PairAt w g o p q t f x1 x2 x3 x4 m) (hb : Below w.heap.size w w') : PairAt w' g o p q t f x1 x2 x3 x4 m := by
  have e : w'.heap[g]? = w.heap[g]? := hb.block g (World.block_lt_of_cell? _ _ h.k.1)
  have c : ∀ o, w'.cell? ⟨g, o, none⟩ = w.cell? ⟨g, o, none⟩ := fun o => World.cell?_of_block (a := ⟨g, o, none⟩) e
  exact ⟨by simpa only [c] using h.k, by simpa only [c] using h.l⟩
end

theorem eqlR (p q t p' q' t' : Int) (w : World) : (binOp .eql 45 (.agg #[.int .i64 p, .int .i64 q, .int .u64 t]) (.agg #[.int .i64 p', .int .i64 q', .int .u64 t'])).run Try.prog w = .ok (.bool (decide ((p, q, t) = (p', q', t')))) w := by
  have e : (binOp .eql 45 (.agg #[.int .i64 p, .int .i64 q, .int .u64 t]) (.agg #[.int .i64 p', .int .i64 q', .int .u64 t'])).run Try.prog w = .ok (.bool (p == p' && (q == q' && t == t'))) w := by
    have hs : Try.prog.stoodInHeld 45 = false := by kernel_rfl
    simp only [binOp]
    simp [Op.equal, Op.maxDepth, run_equalIn_struct w 9999 45 _ _ (by simp [Program.fieldsOf, Try.underlying45]) hs, Program.fieldsOf, Try.underlying45, Op.eqFields, go_sem]
    by_cases h1 : p = p' <;> by_cases h2 : q = q' <;> by_cases h3 : t = t' <;> simp [h1, h2, h3]
  rw [e]
  congr 2
  by_cases h1 : p = p' <;> by_cases h2 : q = q' <;> by_cases h3 : t = t' <;> simp [h1, h2, h3]

set_option maxRecDepth 100000 in
theorem rfind_any (w : World) (v : Value) (M : List Pr) (S p q t : Int) (h : PairsOwn w 0 v M) (hl : M.length ≤ 1000) :
    Calls Try.prog 35 #[.agg #[v, .int .i64 S], .agg #[.int .i64 p, .int .i64 q, .int .u64 t]] w fun e w' => e = .returned (.int .i64 (posF (idxF (keysK M) (p, q, t)))) ∧ Below w.heap.size w w' := by
  obtain ⟨A, cap, rfl⟩ := h.form
  obtain ⟨n, hn⟩ : ∃ n, M.length = n := ⟨_, rfl⟩
  rw [hn] at h hl ⊢
  have HO := Lib.hid h
  have HN := Lib.hid hn
  have H0 := Lib.hid (((Mine.start w).new (b := w.heap.size) rfl #[.slice A n cap, .int .i64 S] 28).new (b := w.heap.size + 1) (by simp) #[.int .i64 p, .int .i64 q, .int .u64 t] 45)
  clear h hn
  go_enter Try.func35, Try.ntmps35
  go_wp2
  generalize hw0 : (w.alloc _).alloc _ = w0
  have H1 := Lib.hid (H0.out.world hw0)
  clear hw0 H0
  go_loopw [5] (fun i wr => ∃ k : Nat, k ≤ n ∧ i = .int .i64 k ∧ Mine w wr [⟨w.heap.size + 1, #[.int .i64 p, .int .i64 q, .int .u64 t], 45⟩, ⟨w.heap.size, #[.slice A n cap, .int .i64 S], 28⟩] [] ∧ ∀ j, j < k → (keysK M).getD j zK ≠ (p, q, t)) (fun i _ => (n - intOf i).toNat)
  case atStart => exact ⟨0, by omega, rfl, H1.out, fun j hj => by omega⟩
  case round =>
    obtain ⟨k, hk, rfl, hM, hnot⟩ := hrel
    have HM := Lib.hid hM
    have HX := Lib.hid hnot
    clear hM hnot H1
    obtain ⟨a0, a1⟩ := (HM.out.at_ 1 rfl).c2
    by_cases hlt : k < n
    · obtain ⟨⟨⟨p', q', t'⟩, ⟨f', y1, y2, y3, y4, m'⟩⟩, hkk⟩ : ∃ x : Pr, M.getD k zP = x := ⟨_, rfl⟩
      obtain ⟨g, cap', e', hc, _, _⟩ := PairsOwn.at_ (PairsOwn.below HO.out HM.out.below) (k := k) (by rw [HN.out]; exact hlt) hkk
      rw [HN.out] at e'
      obtain ⟨rfl, rfl⟩ : A = some ⟨g, 0, none⟩ ∧ cap = cap' := by simpa using e'
      clear e'
      obtain ⟨c0, c1, c2⟩ := hc.k
      obtain ⟨b0, b1, b2⟩ := (HM.out.at_ 0 rfl).c3
      have HKK : Hid ((keysK M).getD k zK = (p', q', t')) := Lib.hid (by rw [keysK_getD, hkk])
      clear hkk hc
      by_cases he : (p', q', t') = (p, q, t)
      · have hq := fun w => (eqlR p' q' t' p q t w).trans (by rw [decide_eq_true he])
        go_wp2
        go_region
        go_wp2
        go_ret
        refine ⟨?_, (HM.out.quiet (Kept.drew0 _)).below⟩
        rw [idxF_some (i := k) (by rw [keysK_len, HN.out]; exact hlt) (HKK.out.trans he) HX.out]
        rfl
      · have hq := fun w => (eqlR p' q' t' p q t w).trans (by rw [decide_eq_false he])
        have HE := Lib.hid he
        clear he
        go_wp2
        go_region
        go_wp2
        go_roundw
        case rel =>
          refine ⟨k + 1, by omega, by go_num, HM.out.quiet (Kept.drew0 _), fun j hj => ?_⟩
          rcases Nat.lt_or_ge j k with h1 | h1
          · exact HX.out j h1
          · obtain rfl : j = k := by omega
            rw [HKK.out]
            exact HE.out
        case measure => simp [intOf]; omega
    · obtain rfl : k = n := by omega
      go_wp2
      go_ret
      refine ⟨?_, HM.out.below⟩
      rw [idxF_none (fun i hi => HX.out i (by rw [keysK_len, HN.out] at hi; exact hi))]
      rfl

theorem rpicked_any (a : Int) (n : Nat) (w : World) (ha : I64 a) (hn : 0 < n) (hl : n ≤ 1000000) :
    Calls Try.prog 23 #[.int .i64 a, .int .i64 n] w fun e w' => e = .returned (.int .i64 (pickF a n)) ∧ w = w' := by
  obtain ⟨h1, h2, h3⟩ := tmod_bd a hn
  obtain ⟨h4, h5⟩ := ha
  have HP := Lib.hid h1
  have hp := pickF_lt a hn
  have e0 : IntKind.i64.wrap (a.tmod n) = a.tmod n := by rw [IntKind.wrap_i64]; omega
  have e1 : IntKind.i64.wrap (a.tmod n + n) = a.tmod n + n := by rw [IntKind.wrap_i64]; omega
  have e3 : ¬ ((n : Int) = 0) := by omega
  have e4 : ¬ (n = 0) := by omega
  clear h1 h2 h3 h4 h5 hp
  go_enter Try.func23, Try.ntmps23
  go_wp2
  go_ret
  exact ⟨by rw [← HP.out]; rfl, rfl⟩
end Go.Proofs.Ytefllfoilkbboaa
/- The document's cache: without, DropOf. -/
namespace Go.Proofs.Ytefllfoilkbboaa
set_option linter.unusedVariables false
set_option linter.unusedSimpArgs false
open Go.ChangeShapes Go.WideShapes Go.ChangeAt Go.RowKit Go.Joins

/-- without the place a, if that is one -/
def cutI (M : List Pr) (a : Int) : List Pr := if 0 ≤ a then M.eraseIdx a.toNat else M
theorem cutI_pos (M : List Pr) (o : Option Nat) : cutI M (posF o) = cutO M o := by
  cases o with
  | none => rfl
  | some i => unfold cutI posF cutO; simp
theorem cutI_nat (M : List Pr) (i : Nat) : cutI M i = M.eraseIdx i := by unfold cutI; simp
theorem take_moreP {M : List Pr} {k : Nat} (hk : k < M.length) : M.take (k + 1) = M.take k ++ [M.getD k zP] := by
  rw [List.take_add_one, List.getElem?_eq_getElem hk, List.getD, List.getElem?_eq_getElem hk]; rfl
theorem cutI_step {M : List Pr} {k : Nat} (hk : k < M.length) {a : Int} (e : (k : Int) ≠ a) : cutI (M.take (k + 1)) a = cutI (M.take k) a ++ [M.getD k zP] := by
  rw [take_moreP hk]
  have hl : (M.take k).length = k := by rw [List.length_take]; omega
  unfold cutI
  split
  · rcases Nat.lt_or_ge a.toNat k with h | h
    · rw [List.eraseIdx_append_of_lt_length (by omega)]
    · rw [List.eraseIdx_of_length_le (by rw [List.length_append, hl]; simp; omega), List.eraseIdx_of_length_le (by omega)]
  · rfl
theorem cutI_stay {M : List Pr} {k : Nat} (hk : k < M.length) {a : Int} (e : (k : Int) = a) : cutI (M.take (k + 1)) a = cutI (M.take k) a := by
  rw [take_moreP hk]
  have hl : (M.take k).length = k := by rw [List.length_take]; omega
  unfold cutI
  rw [if_pos (by omega), if_pos (by omega), show a.toNat = k by omega, List.eraseIdx_append_of_length_le (by omega), hl, Nat.sub_self, List.eraseIdx_of_length_le (l := M.take k) (by omega)]
  simp
theorem ofK_step {M : List Pr} {k : Nat} (hk : k < M.length) {p : Int} (e : (M.getD k zP).1.1 ≠ p) : ofK (M.take (k + 1)) p = ofK (M.take k) p ++ [M.getD k zP] := by
  rw [take_moreP hk]
  unfold ofK
  rw [List.filter_append]
  simp
  intro h
  exact absurd (by simpa using h) e
theorem ofK_stay {M : List Pr} {k : Nat} (hk : k < M.length) {p : Int} (e : (M.getD k zP).1.1 = p) : ofK (M.take (k + 1)) p = ofK (M.take k) p := by
  rw [take_moreP hk]
  unfold ofK
  rw [List.filter_append]
  simp
  simpa using e

/-- a list that is laid in a loop, beside two boxes -/
structure Wo (w wr : World) (bs : List BoxD) (v : Value) (out : List Pr) : Prop where
  mine : Mine w wr bs []
  own : PairsOwn wr (w.heap.size + 2) v out
  low : ∀ z ∈ bs, z.b < w.heap.size + 2

section
variable {w wr w3 : World} {bs : List BoxD} {v v' : Value} {out : List Pr} {F : Nat → Prop}
theorem Mine.far (h : Mine w wr bs []) {B : Nat} (ht : Turn F wr w3) (hF : ∀ i, F i → B ≤ i) (hl : ∀ z ∈ bs, z.b < B) (hB : w.heap.size ≤ B) : Mine w w3 bs [] :=
  ⟨h.hold.turn ht (fun z hz hf => by have := hF _ hf; have := hl z hz; omega) (by simp), h.below.trans (ht.below (fun i hi => Nat.le_trans hB (hF i hi)) h.below.size)⟩
theorem Wo.more {o : Obj} {x : Pr} {A : Option Addr} {c n : Nat} (h : Wo w wr bs v out) (hn : out.length = n) (ho : w3.ownsRow (w.heap.size + 2) 51 9 (.slice A (n + 1) c) (n + 1) (pcs out ++ pc x)) (hg : (wr.alloc o).grownBy w3 v.ownBlock) : Wo w w3 bs (.slice A (n + 1) c) (out ++ [x]) := by
  have ht : Turn (fun i => v.ownBlock = some i) wr w3 := (Turn.alloc _ wr _).and (Turn.grown hg (fun i hi => hi))
  refine ⟨h.mine.far ht (fun i hi => (h.own.lt hi).1) h.low (by omega), ?_, h.low⟩
  have e : (out ++ [x]).length = n + 1 := by rw [List.length_append, hn]; rfl
  unfold PairsOwn
  rw [e, show pcs (out ++ [x]) = pcs out ++ pc x by unfold pcs; rw [List.flatMap_append]; simp]
  exact ho
theorem Wo.end2 {b b2 : Nat} {t : TypeId} {x0 x1 y0 y1 : Value} (h : Wo w wr [⟨b2, #[y0, y1], t⟩, ⟨b, #[x0, x1], t⟩] v out) (u0 u1 u2 : Value) :
    Blk (((wr.setCell ⟨b, 0, none⟩ u0).setCell ⟨b2, 0, none⟩ u1).setCell ⟨b2, 1, none⟩ u2) b2 #[u1, u2] t ∧ PairsOwn (((wr.setCell ⟨b, 0, none⟩ u0).setCell ⟨b2, 0, none⟩ u1).setCell ⟨b2, 1, none⟩ u2) w.heap.size v out ∧
      Below w.heap.size w (((wr.setCell ⟨b, 0, none⟩ u0).setCell ⟨b2, 0, none⟩ u1).setCell ⟨b2, 1, none⟩ u2) := by
  have h1 : b < w.heap.size + 2 := h.low ⟨b, #[x0, x1], t⟩ (by simp)
  have h2 : b2 < w.heap.size + 2 := h.low ⟨b2, #[y0, y1], t⟩ (by simp)
  have m1 := h.mine.put 1 rfl (turn1 wr b 0 u0) ((h.mine.at_ 1 rfl).set1 0 u0) (by simp)
  have m2 := m1.put2 0 rfl (y0 := u1) (y1 := u2) rfl (by simp)
  refine ⟨m2.at_ 0 rfl, ?_, m2.below⟩
  refine PairsOwn.down ?_ (Nat.le_add_right w.heap.size 2)
  have o1 := h.own.turn (turn1 wr b 0 u0) fun i hi e => by have := (h.own.lt hi).1; omega
  have o2 := o1.turn (turn1 _ b2 0 u1) fun i hi e => by have := (h.own.lt hi).1; omega
  exact o2.turn (turn1 _ b2 1 u2) fun i hi e => by have := (h.own.lt hi).1; omega
theorem PairsOwn.cast {B n c : Nat} {A : Option Addr} (h : PairsOwn wr B (.slice A n c) out) (hn : out.length = n) : wr.ownsRow B 51 9 (.slice A n c) n (pcs out) := by
  unfold PairsOwn at h; rwa [hn] at h
end

set_option maxRecDepth 100000 in
set_option maxHeartbeats 1600000 in
theorem rwithout_any (w : World) (v : Value) (M : List Pr) (S a : Int) (h : PairsOwn w 0 v M) (hl : M.length ≤ 1000) :
    Calls Try.prog 36 #[.agg #[v, .int .i64 S], .int .i64 a] w fun e w' => ∃ A c, e = .returned (.agg #[.slice A (cutI M a).length c, .int .i64 S]) ∧ PairsOwn w' w.heap.size (.slice A (cutI M a).length c) (cutI M a) ∧ Below w.heap.size w w' := by
  obtain ⟨i0, hi0, hz0, hz1, hz2⟩ := info_parts infoPair
  obtain ⟨A, cap, rfl⟩ := h.form
  obtain ⟨n, hn⟩ : ∃ n, M.length = n := ⟨_, rfl⟩
  rw [hn] at h hl ⊢
  have HO := Lib.hid h
  have HN := Lib.hid hn
  have H0 := Lib.hid (((Mine.start w).new (b := w.heap.size) rfl #[.slice A n cap, .int .i64 S] 28).new (b := w.heap.size + 1) (by simp) #[.slice none 0 0, .int .i64 0] 28)
  clear h hn
  go_enter Try.func36, Try.ntmps36
  go_wp2
  generalize hw0 : (w.alloc _).alloc _ = w0
  have H1 := Lib.hid (H0.out.world hw0)
  clear hw0 H0
  go_loopw [5, 6] (fun u i wr => ∃ (k nv : Nat) (Av : Option Addr) (cv : Nat), k ≤ n ∧ nv ≤ k ∧ i = .int .i64 k ∧ u = .slice Av nv cv ∧ (cutI (M.take k) a).length = nv ∧ Wo w wr [⟨w.heap.size + 1, #[.slice none 0 0, .int .i64 0], 28⟩, ⟨w.heap.size, #[.slice A n cap, .int .i64 S], 28⟩] (.slice Av nv cv) (cutI (M.take k) a)) (fun _ i _ => (n - intOf i).toNat)
  case atStart =>
    refine ⟨0, 0, none, 0, by omega, by omega, rfl, rfl, by simp [cutI], H1.out, ?_, by simp⟩
    have e : cutI (M.take 0) a = [] := by simp [cutI]
    rw [e]
    exact PairsOwn.nil _ _
  case round =>
    obtain ⟨k, nv, Av, cv, hk, hnv, rfl, rfl, hlv, hW⟩ := hrel
    have HW := Lib.hid hW
    have HV := Lib.hid hlv
    clear hW hlv H1
    obtain ⟨a0, a1⟩ := (HW.out.mine.at_ 1 rfl).c2
    have hlw := (HW.out.mine.at_ 1 rfl).lt
    by_cases hlt : k < n
    · obtain ⟨⟨⟨p', q', t'⟩, ⟨f', y1, y2, y3, y4, m'⟩⟩, hkk⟩ : ∃ x : Pr, M.getD k zP = x := ⟨_, rfl⟩
      obtain ⟨g, cap', e', hc, hgl, _⟩ := PairsOwn.at_ (PairsOwn.below HO.out HW.out.mine.below) (k := k) (by rw [HN.out]; exact hlt) hkk
      rw [HN.out] at e'
      obtain ⟨rfl, rfl⟩ : A = some ⟨g, 0, none⟩ ∧ cap = cap' := by simpa using e'
      clear e'
      obtain ⟨c0, c1, c2⟩ := hc.k
      obtain ⟨b0, b1, b2, b3, b4, b5⟩ := hc.l
      have HKK := Lib.hid hkk
      clear hkk hc
      by_cases he : (k : Int) = a
      · have he2 : ((k : Int) != a) = false := by simpa using he
        have HE := Lib.hid he
        clear he
        have HS : Hid (cutI (M.take (k + 1)) a = cutI (M.take k) a) := Lib.hid (cutI_stay (by rw [HN.out]; exact hlt) HE.out)
        go_wp2_with (at_builtin; fail)
        go_roundw
        case rel => exact ⟨k + 1, nv, Av, cv, by omega, by omega, by go_num, rfl, by rw [HS.out]; exact HV.out, by rw [HS.out]; exact HW.out⟩
        case measure => simp [intOf]; omega
      · have he2 : ((k : Int) != a) = true := by simpa using he
        have HE := Lib.hid he
        clear he
        have HS : Hid (cutI (M.take (k + 1)) a = cutI (M.take k) a ++ [((p', q', t'), (f', y1, y2, y3, y4, m'))]) := Lib.hid (by rw [cutI_step (by rw [HN.out]; exact hlt) HE.out, HKK.out])
        have HB := Lib.hid (HW.out.own.cast HV.out)
        have hz : w.heap.size + 2 ≤ wr.heap.size := by have := (HW.out.mine.at_ 0 rfl).lt; omega
        go_wp2_with (at_builtin; refine wpList_append_lies _ rfl (.tmp 17) (.tmp 23) 26 rfl (w.heap.size + 2) 51 i0 _ 9 40 Try.underlying26 hi0 hz0 hz1 hz2 rfl (by decide) _ nv _ rfl (World.ownsRow.alloc HB.out _) ⟨wr.heap.size, 0, none⟩ 1 1 (pc ((p', q', t'), (f', y1, y2, y3, y4, m'))) rfl rfl (World.news_of_block (heap_alloc_new wr _)) (pc_one _) (by omega) (by unfold maxLen; omega) (by omega) (by simp; omega) _ rfl ?_; intro g5 cap5 w5 hown hgrow hat hlt5; have HW5 := Lib.hid (HW.out.more HV.out hown hgrow); clear hown hgrow hat hlt5)
        go_roundw
        case rel => exact ⟨k + 1, nv + 1, _, _, by omega, by omega, by go_num, rfl, by rw [HS.out, List.length_append, HV.out]; rfl, by rw [HS.out]; exact HW5.out⟩
        case measure => simp [intOf]; omega
    · obtain rfl : k = n := by omega
      have hT : M.take k = M := List.take_of_length_le (by rw [HN.out]; exact Nat.le_refl _)
      rw [hT] at HW HV
      obtain ⟨r0, r1⟩ := (HW.out.mine.at_ 0 rfl).c2
      have f0 := (HW.out.mine.at_ 1 rfl).fz 0
      have g0 := (HW.out.mine.at_ 0 rfl).fz 0
      have g1 := (HW.out.mine.at_ 0 rfl).fz 1
      have HE := Lib.hid (HW.out.end2 (.slice Av nv cv) (.slice Av nv cv) (.int .i64 S))
      go_wp2
      refine bodyPost_ret (results_cell_row rfl _ _ (w.heap.size + 1) _ _ _ _ rfl HE.out.1 Try.underlying28 rfl rfl) rfl ⟨Av, cv, by rw [HV.out], ?_, HE.out.2.2⟩
      rw [HV.out]
      exact HE.out.2.1

set_option maxRecDepth 100000 in
set_option maxHeartbeats 1600000 in
theorem rdropOf_any (w : World) (v : Value) (M : List Pr) (S p : Int) (h : PairsOwn w 0 v M) (hl : M.length ≤ 1000) :
    Calls Try.prog 28 #[.agg #[v, .int .i64 S], .int .i64 p] w fun e w' => ∃ A c, e = .returned (.agg #[.slice A (ofK M p).length c, .int .i64 S]) ∧ PairsOwn w' w.heap.size (.slice A (ofK M p).length c) (ofK M p) ∧ Below w.heap.size w w' := by
  obtain ⟨i0, hi0, hz0, hz1, hz2⟩ := info_parts infoPair
  obtain ⟨A, cap, rfl⟩ := h.form
  obtain ⟨n, hn⟩ : ∃ n, M.length = n := ⟨_, rfl⟩
  rw [hn] at h hl ⊢
  have HO := Lib.hid h
  have HN := Lib.hid hn
  have H0 := Lib.hid (((Mine.start w).new (b := w.heap.size) rfl #[.slice A n cap, .int .i64 S] 28).new (b := w.heap.size + 1) (by simp) #[.slice none 0 0, .int .i64 0] 28)
  clear h hn
  go_enter Try.func28, Try.ntmps28
  go_wp2
  generalize hw0 : (w.alloc _).alloc _ = w0
  have H1 := Lib.hid (H0.out.world hw0)
  clear hw0 H0
  go_loopw [5, 6] (fun u i wr => ∃ (k nv : Nat) (Av : Option Addr) (cv : Nat), k ≤ n ∧ nv ≤ k ∧ i = .int .i64 k ∧ u = .slice Av nv cv ∧ (ofK (M.take k) p).length = nv ∧ Wo w wr [⟨w.heap.size + 1, #[.slice none 0 0, .int .i64 0], 28⟩, ⟨w.heap.size, #[.slice A n cap, .int .i64 S], 28⟩] (.slice Av nv cv) (ofK (M.take k) p)) (fun _ i _ => (n - intOf i).toNat)
  case atStart =>
    refine ⟨0, 0, none, 0, by omega, by omega, rfl, rfl, by simp [ofK], H1.out, ?_, by simp⟩
    have e : ofK (M.take 0) p = [] := by simp [ofK]
    rw [e]
    exact PairsOwn.nil _ _
  case round =>
    obtain ⟨k, nv, Av, cv, hk, hnv, rfl, rfl, hlv, hW⟩ := hrel
    have HW := Lib.hid hW
    have HV := Lib.hid hlv
    clear hW hlv H1
    obtain ⟨a0, a1⟩ := (HW.out.mine.at_ 1 rfl).c2
    have hlw := (HW.out.mine.at_ 1 rfl).lt
    by_cases hlt : k < n
    · obtain ⟨⟨⟨p', q', t'⟩, ⟨f', y1, y2, y3, y4, m'⟩⟩, hkk⟩ : ∃ x : Pr, M.getD k zP = x := ⟨_, rfl⟩
      obtain ⟨g, cap', e', hc, hgl, _⟩ := PairsOwn.at_ (PairsOwn.below HO.out HW.out.mine.below) (k := k) (by rw [HN.out]; exact hlt) hkk
      rw [HN.out] at e'
      obtain ⟨rfl, rfl⟩ : A = some ⟨g, 0, none⟩ ∧ cap = cap' := by simpa using e'
      clear e'
      obtain ⟨c0, c1, c2⟩ := hc.k
      obtain ⟨b0, b1, b2, b3, b4, b5⟩ := hc.l
      have HKK := Lib.hid hkk
      clear hkk hc
      by_cases he : p' = p
      · have he2 : (p' != p) = false := by simpa using he
        have HE := Lib.hid he
        clear he
        have HS : Hid (ofK (M.take (k + 1)) p = ofK (M.take k) p) := Lib.hid (ofK_stay (by rw [HN.out]; exact hlt) (by rw [HKK.out]; exact HE.out))
        go_wp2_with (at_builtin; fail)
        go_roundw
        case rel => exact ⟨k + 1, nv, Av, cv, by omega, by omega, by go_num, rfl, by rw [HS.out]; exact HV.out, by rw [HS.out]; exact HW.out⟩
        case measure => simp [intOf]; omega
      · have he2 : (p' != p) = true := by simpa using he
        have HE := Lib.hid he
        clear he
        have HS : Hid (ofK (M.take (k + 1)) p = ofK (M.take k) p ++ [((p', q', t'), (f', y1, y2, y3, y4, m'))]) := Lib.hid (by rw [ofK_step (by rw [HN.out]; exact hlt) (by rw [HKK.out]; exact HE.out), HKK.out])
        have HB := Lib.hid (HW.out.own.cast HV.out)
        have hz : w.heap.size + 2 ≤ wr.heap.size := by have := (HW.out.mine.at_ 0 rfl).lt; omega
        go_wp2_with (at_builtin; refine wpList_append_lies _ rfl (.tmp 23) (.tmp 29) 26 rfl (w.heap.size + 2) 51 i0 _ 9 40 Try.underlying26 hi0 hz0 hz1 hz2 rfl (by decide) _ nv _ rfl (World.ownsRow.alloc HB.out _) ⟨wr.heap.size, 0, none⟩ 1 1 (pc ((p', q', t'), (f', y1, y2, y3, y4, m'))) rfl rfl (World.news_of_block (heap_alloc_new wr _)) (pc_one _) (by omega) (by unfold maxLen; omega) (by omega) (by simp; omega) _ rfl ?_; intro g5 cap5 w5 hown hgrow hat hlt5; have HW5 := Lib.hid (HW.out.more HV.out hown hgrow); clear hown hgrow hat hlt5)
        go_roundw
        case rel => exact ⟨k + 1, nv + 1, _, _, by omega, by omega, by go_num, rfl, by rw [HS.out, List.length_append, HV.out]; rfl, by rw [HS.out]; exact HW5.out⟩
        case measure => simp [intOf]; omega
    · obtain rfl : k = n := by omega
      have hT : M.take k = M := List.take_of_length_le (by rw [HN.out]; exact Nat.le_refl _)
      rw [hT] at HW HV
      obtain ⟨r0, r1⟩ := (HW.out.mine.at_ 0 rfl).c2
      have f0 := (HW.out.mine.at_ 1 rfl).fz 0
      have g0 := (HW.out.mine.at_ 0 rfl).fz 0
      have g1 := (HW.out.mine.at_ 0 rfl).fz 1
      have HE := Lib.hid (HW.out.end2 (.slice Av nv cv) (.slice Av nv cv) (.int .i64 S))
      go_wp2
      refine bodyPost_ret (results_cell_row rfl _ _ (w.heap.size + 1) _ _ _ _ rfl HE.out.1 Try.underlying28 rfl rfl) rfl ⟨Av, cv, by rw [HV.out], ?_, HE.out.2.2⟩
      rw [HV.out]
      exact HE.out.2.1
end Go.Proofs.Ytefllfoilkbboaa
