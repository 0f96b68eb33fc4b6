/- Several texts of ours in one: Cn, Co, Cp. -/
import Derived.Test.YtddbjbdhbeijjaaDoorGQdQeCm
import Derived.Deep.AppendLies
/- The document's cache: without, DropOf. -/
namespace Go.Proofs.YtddbjbdhbeijjaaDoor
set_option linter.unusedVariables false
set_option linter.unusedSimpArgs false
open Go.ChangeShapes Go.WideShapes Go.ChangeAt Go.RowKit Go.Joins

/-- without the place a, if that is one -/
def cutI (M : List Pr) (a : Int) : List Pr := if 0 ≤ a then M.eraseIdx a.toNat else M
theorem cutI_pos (M : List Pr) (o : Option Nat) : cutI M (posF o) = cutO M o := by
  cases o with
  | none => rfl
  | some i => unfold cutI posF cutO; simp
theorem cutI_nat (M : List Pr) (i : Nat) : cutI M i = M.eraseIdx i := by unfold cutI; simp
theorem take_moreP {M : List Pr} {k : Nat} (hk : k < M.length) : M.take (k + 1) = M.take k ++ [M.getD k zP] := by
  rw [List.take_add_one, List.getElem?_eq_getElem hk, List.getD, List.getElem?_eq_getElem hk]; rfl
theorem cutI_step {M : List Pr} {k : Nat} (hk : k < M.length) {a : Int} (e : (k : Int) ≠ a) : cutI (M.take (k + 1)) a = cutI (M.take k) a ++ [M.getD k zP] := by
  rw [take_moreP hk]
  have hl : (M.take k).length = k := by rw [List.length_take]; omega
  unfold cutI
  split
  · rcases Nat.lt_or_ge a.toNat k with h | h
    · rw [List.eraseIdx_append_of_lt_length (by omega)]
    · rw [List.eraseIdx_of_length_le (by rw [List.length_append, hl]; simp; omega), List.eraseIdx_of_length_le (by omega)]
  · rfl
theorem cutI_stay {M : List Pr} {k : Nat} (hk : k < M.length) {a : Int} (e : (k : Int) = a) : cutI (M.take (k + 1)) a = cutI (M.take k) a := by
  rw [take_moreP hk]
  have hl : (M.take k).length = k := by rw [List.length_take]; omega
  unfold cutI
  rw [if_pos (by omega), if_pos (by omega), show a.toNat = k by omega, List.eraseIdx_append_of_length_le (by omega), hl, Nat.sub_self, List.eraseIdx_of_length_le (l := M.take k) (by omega)]
  simp
theorem ofK_step {M : List Pr} {k : Nat} (hk : k < M.length) {p : Int} (e : (M.getD k zP).1.1 ≠ p) : ofK (M.take (k + 1)) p = ofK (M.take k) p ++ [M.getD k zP] := by
  rw [take_moreP hk]
  unfold ofK
  rw [List.filter_append]
  simp
  intro h
  exact absurd (by simpa using h) e
theorem ofK_stay {M : List Pr} {k : Nat} (hk : k < M.length) {p : Int} (e : (M.getD k zP).1.1 = p) : ofK (M.take (k + 1)) p = ofK (M.take k) p := by
  rw [take_moreP hk]
  unfold ofK
  rw [List.filter_append]
  simp
  simpa using e

/-- a list that is laid in a loop, beside two boxes -/
structure Wo (w wr : World) (bs : List BoxD) (v : Value) (out : List Pr) : Prop where
  mine : Mine w wr bs []
  own : PairsOwn wr (w.heap.size + 2) v out
  low : ∀ z ∈ bs, z.b < w.heap.size + 2

section
variable {w wr w3 : World} {bs : List BoxD} {v v' : Value} {out : List Pr} {F : Nat → Prop}
theorem Mine.far (h : Mine w wr bs []) {B : Nat} (ht : Turn F wr w3) (hF : ∀ i, F i → B ≤ i) (hl : ∀ z ∈ bs, z.b < B) (hB : w.heap.size ≤ B) : Mine w w3 bs [] :=
  ⟨h.hold.turn ht (fun z hz hf => by have := hF _ hf; have := hl z hz; omega) (by simp), h.below.trans (ht.below (fun i hi => Nat.le_trans hB (hF i hi)) h.below.size)⟩
theorem Wo.more {o : Obj} {x : Pr} {A : Option Addr} {c n : Nat} (h : Wo w wr bs v out) (hn : out.length = n) (ho : w3.ownsRow (w.heap.size + 2) 99 9 (.slice A (n + 1) c) (n + 1) (pcs out ++ pc x)) (hg : (wr.alloc o).grownBy w3 v.ownBlock) : Wo w w3 bs (.slice A (n + 1) c) (out ++ [x]) := by
  have ht : Turn (fun i => v.ownBlock = some i) wr w3 := (Turn.alloc _ wr _).and (Turn.grown hg (fun i hi => hi))
  refine ⟨h.mine.far ht (fun i hi => (h.own.lt hi).1) h.low (by omega), ?_, h.low⟩
  have e : (out ++ [x]).length = n + 1 := by rw [List.length_append, hn]; rfl
  unfold PairsOwn
  rw [e, show pcs (out ++ [x]) = pcs out ++ pc x by unfold pcs; rw [List.flatMap_append]; simp]
  exact ho
theorem Wo.end2 {b b2 : Nat} {t : TypeId} {x0 x1 y0 y1 : Value} (h : Wo w wr [⟨b2, #[y0, y1], t⟩, ⟨b, #[x0, x1], t⟩] v out) (u0 u1 u2 : Value) :
    Blk (((wr.setCell ⟨b, 0, none⟩ u0).setCell ⟨b2, 0, none⟩ u1).setCell ⟨b2, 1, none⟩ u2) b2 #[u1, u2] t ∧ PairsOwn (((wr.setCell ⟨b, 0, none⟩ u0).setCell ⟨b2, 0, none⟩ u1).setCell ⟨b2, 1, none⟩ u2) w.heap.size v out ∧
      Below w.heap.size w (((wr.setCell ⟨b, 0, none⟩ u0).setCell ⟨b2, 0, none⟩ u1).setCell ⟨b2, 1, none⟩ u2) := by
  have h1 : b < w.heap.size + 2 := h.low ⟨b, #[x0, x1], t⟩ (by simp)
  have h2 : b2 < w.heap.size + 2 := h.low ⟨b2, #[y0, y1], t⟩ (by simp)
  have m1 := h.mine.put 1 rfl (turn1 wr b 0 u0) ((h.mine.at_ 1 rfl).set1 0 u0) (by simp)
  have m2 := m1.put2 0 rfl (y0 := u1) (y1 := u2) rfl (by simp)
  refine ⟨m2.at_ 0 rfl, ?_, m2.below⟩
  refine PairsOwn.down ?_ (Nat.le_add_right w.heap.size 2)
  have o1 := h.own.turn (turn1 wr b 0 u0) fun i hi e => by have := (h.own.lt hi).1; omega
  have o2 := o1.turn (turn1 _ b2 0 u1) fun i hi e => by have := (h.own.lt hi).1; omega
  exact o2.turn (turn1 _ b2 1 u2) fun i hi e => by have := (h.own.lt hi).1; omega
theorem PairsOwn.cast {B n c : Nat} {A : Option Addr} (h : PairsOwn wr B (.slice A n c) out) (hn : out.length = n) : wr.ownsRow B 99 9 (.slice A n c) n (pcs out) := by
  unfold PairsOwn at h; rwa [hn] at h
end

set_option maxRecDepth 100000 in
set_option maxHeartbeats 1600000 in
theorem rwithout_any (w : World) (v : Value) (M : List Pr) (S a : Int) (h : PairsOwn w 0 v M) (hl : M.length ≤ 1000) :
    Calls Tryd.prog 56 #[.agg #[v, .int .i64 S], .int .i64 a] w fun e w' => ∃ A c, e = .returned (.agg #[.slice A (cutI M a).length c, .int .i64 S]) ∧ PairsOwn w' w.heap.size (.slice A (cutI M a).length c) (cutI M a) ∧ Below w.heap.size w w' := by
  obtain ⟨i0, hi0, hz0, hz1, hz2⟩ := info_parts infoPair
  obtain ⟨A, cap, rfl⟩ := h.form
  obtain ⟨n, hn⟩ : ∃ n, M.length = n := ⟨_, rfl⟩
  rw [hn] at h hl ⊢
  have HO := Lib.hid h
  have HN := Lib.hid hn
  have H0 := Lib.hid (((Mine.start w).new (b := w.heap.size) rfl #[.slice A n cap, .int .i64 S] 28).new (b := w.heap.size + 1) (by simp) #[.slice none 0 0, .int .i64 0] 28)
  clear h hn
  go_enter Tryd.func56, Tryd.ntmps56
  go_wp2
  generalize hw0 : (w.alloc _).alloc _ = w0
  have H1 := Lib.hid (H0.out.world hw0)
  clear hw0 H0
  go_loopw [5, 6] (fun u i wr => ∃ (k nv : Nat) (Av : Option Addr) (cv : Nat), k ≤ n ∧ nv ≤ k ∧ i = .int .i64 k ∧ u = .slice Av nv cv ∧ (cutI (M.take k) a).length = nv ∧ Wo w wr [⟨w.heap.size + 1, #[.slice none 0 0, .int .i64 0], 28⟩, ⟨w.heap.size, #[.slice A n cap, .int .i64 S], 28⟩] (.slice Av nv cv) (cutI (M.take k) a)) (fun _ i _ => (n - intOf i).toNat)
  case atStart =>
    refine ⟨0, 0, none, 0, by omega, by omega, rfl, rfl, by simp [cutI], H1.out, ?_, by simp⟩
    have e : cutI (M.take 0) a = [] := by simp [cutI]
    rw [e]
    exact PairsOwn.nil _ _
  case round =>
    obtain ⟨k, nv, Av, cv, hk, hnv, rfl, rfl, hlv, hW⟩ := hrel
    have HW := Lib.hid hW
    have HV := Lib.hid hlv
    clear hW hlv H1
    obtain ⟨a0, a1⟩ := (HW.out.mine.at_ 1 rfl).c2
    have hlw := (HW.out.mine.at_ 1 rfl).lt
    by_cases hlt : k < n
    · obtain ⟨⟨⟨p', q', t'⟩, ⟨f', y1, y2, y3, y4, m'⟩⟩, hkk⟩ : ∃ x : Pr, M.getD k zP = x := ⟨_, rfl⟩
      obtain ⟨g, cap', e', hc, hgl, _⟩ := PairsOwn.at_ (PairsOwn.below HO.out HW.out.mine.below) (k := k) (by rw [HN.out]; exact hlt) hkk
      rw [HN.out] at e'
      obtain ⟨rfl, rfl⟩ : A = some ⟨g, 0, none⟩ ∧ cap = cap' := by simpa using e'
      clear e'
      obtain ⟨c0, c1, c2⟩ := hc.k
      obtain ⟨b0, b1, b2, b3, b4, b5⟩ := hc.l
      have HKK := Lib.hid hkk
      clear hkk hc
      by_cases he : (k : Int) = a
      · have he2 : ((k : Int) != a) = false := by simpa using he
        have HE := Lib.hid he
        clear he
        have HS : Hid (cutI (M.take (k + 1)) a = cutI (M.take k) a) := Lib.hid (cutI_stay (by rw [HN.out]; exact hlt) HE.out)
        go_wp2_with (at_builtin; fail)
        go_roundw
        case rel => exact ⟨k + 1, nv, Av, cv, by omega, by omega, by go_num, rfl, by rw [HS.out]; exact HV.out, by rw [HS.out]; exact HW.out⟩
        case measure => simp [intOf]; omega
      · have he2 : ((k : Int) != a) = true := by simpa using he
        have HE := Lib.hid he
        clear he
        have HS : Hid (cutI (M.take (k + 1)) a = cutI (M.take k) a ++ [((p', q', t'), (f', y1, y2, y3, y4, m'))]) := Lib.hid (by rw [cutI_step (by rw [HN.out]; exact hlt) HE.out, HKK.out])
        have HB := Lib.hid (HW.out.own.cast HV.out)
        have hz : w.heap.size + 2 ≤ wr.heap.size := by have := (HW.out.mine.at_ 0 rfl).lt; omega
        go_wp2_with (at_builtin; refine wpList_append_lies _ rfl (.tmp 17) (.tmp 23) 26 rfl (w.heap.size + 2) 99 i0 _ 9 40 Tryd.underlying26 hi0 hz0 hz1 hz2 rfl (by decide) _ nv _ rfl (World.ownsRow.alloc HB.out _) ⟨wr.heap.size, 0, none⟩ 1 1 (pc ((p', q', t'), (f', y1, y2, y3, y4, m'))) rfl rfl (World.news_of_block (heap_alloc_new wr _)) (pc_one _) (by omega) (by unfold maxLen; omega) (by omega) (by simp; omega) _ rfl ?_; intro g5 cap5 w5 hown hgrow hat hlt5; have HW5 := Lib.hid (HW.out.more HV.out hown hgrow); clear hown hgrow hat hlt5)
        go_roundw
        case rel => exact ⟨k + 1, nv + 1, _, _, by omega, by omega, by go_num, rfl, by rw [HS.out, List.length_append, HV.out]; rfl, by rw [HS.out]; exact HW5.out⟩
        case measure => simp [intOf]; omega
    · obtain rfl : k = n := by omega
      have hT : M.take k = M := List.take_of_length_le (by rw [HN.out]; exact Nat.le_refl _)
      rw [hT] at HW HV
      obtain ⟨r0, r1⟩ := (HW.out.mine.at_ 0 rfl).c2
      have f0 := (HW.out.mine.at_ 1 rfl).fz 0
      have g0 := (HW.out.mine.at_ 0 rfl).fz 0
      have g1 := (HW.out.mine.at_ 0 rfl).fz 1
      have HE := Lib.hid (HW.out.end2 (.slice Av nv cv) (.slice Av nv cv) (.int .i64 S))
      go_wp2
      refine bodyPost_ret (results_cell_row rfl _ _ (w.heap.size + 1) _ _ _ _ rfl HE.out.1 Tryd.underlying28 rfl rfl) rfl ⟨Av, cv, by rw [HV.out], ?_, HE.out.2.2⟩
      rw [HV.out]
      exact HE.out.2.1

set_option maxRecDepth 100000 in
set_option maxHeartbeats 1600000 in
theorem rdropOf_any (w : World) (v : Value) (M : List Pr) (S p : Int) (h : PairsOwn w 0 v M) (hl : M.length ≤ 1000) :
    Calls Tryd.prog 34 #[.agg #[v, .int .i64 S], .int .i64 p] w fun e w' => ∃ A c, e = .returned (.agg #[.slice A (ofK M p).length c, .int .i64 S]) ∧ PairsOwn w' w.heap.size (.slice A (ofK M p).length c) (ofK M p) ∧ Below w.heap.size w w' := by
  obtain ⟨i0, hi0, hz0, hz1, hz2⟩ := info_parts infoPair
  obtain ⟨A, cap, rfl⟩ := h.form
  obtain ⟨n, hn⟩ : ∃ n, M.length = n := ⟨_, rfl⟩
  rw [hn] at h hl ⊢
  have HO := Lib.hid h
  have HN := Lib.hid hn
  have H0 := Lib.hid (((Mine.start w).new (b := w.heap.size) rfl #[.slice A n cap, .int .i64 S] 28).new (b := w.heap.size + 1) (by simp) #[.slice none 0 0, .int .i64 0] 28)
  clear h hn
  go_enter Tryd.func34, Tryd.ntmps34
  go_wp2
  generalize hw0 : (w.alloc _).alloc _ = w0
  have H1 := Lib.hid (H0.out.world hw0)
  clear hw0 H0
  go_loopw [5, 6] (fun u i wr => ∃ (k nv : Nat) (Av : Option Addr) (cv : Nat), k ≤ n ∧ nv ≤ k ∧ i = .int .i64 k ∧ u = .slice Av nv cv ∧ (ofK (M.take k) p).length = nv ∧ Wo w wr [⟨w.heap.size + 1, #[.slice none 0 0, .int .i64 0], 28⟩, ⟨w.heap.size, #[.slice A n cap, .int .i64 S], 28⟩] (.slice Av nv cv) (ofK (M.take k) p)) (fun _ i _ => (n - intOf i).toNat)
  case atStart =>
    refine ⟨0, 0, none, 0, by omega, by omega, rfl, rfl, by simp [ofK], H1.out, ?_, by simp⟩
    have e : ofK (M.take 0) p = [] := by simp [ofK]
    rw [e]
    exact PairsOwn.nil _ _
  case round =>
    obtain ⟨k, nv, Av, cv, hk, hnv, rfl, rfl, hlv, hW⟩ := hrel
    have HW := Lib.hid hW
    have HV := Lib.hid hlv
    clear hW hlv H1
    obtain ⟨a0, a1⟩ := (HW.out.mine.at_ 1 rfl).c2
    have hlw := (HW.out.mine.at_ 1 rfl).lt
    by_cases hlt : k < n
    · obtain ⟨⟨⟨p', q', t'⟩, ⟨f', y1, y2, y3, y4, m'⟩⟩, hkk⟩ : ∃ x : Pr, M.getD k zP = x := ⟨_, rfl⟩
      obtain ⟨g, cap', e', hc, hgl, _⟩ := PairsOwn.at_ (PairsOwn.below HO.out HW.out.mine.below) (k := k) (by rw [HN.out]; exact hlt) hkk
      rw [HN.out] at e'
      obtain ⟨rfl, rfl⟩ : A = some ⟨g, 0, none⟩ ∧ cap = cap' := by simpa using e'
      clear e'
      obtain ⟨c0, c1, c2⟩ := hc.k
      obtain ⟨b0, b1, b2, b3, b4, b5⟩ := hc.l
      have HKK := Lib.hid hkk
      clear hkk hc
      by_cases he : p' = p
      · have he2 : (p' != p) = false := by simpa using he
        have HE := Lib.hid he
        clear he
        have HS : Hid (ofK (M.take (k + 1)) p = ofK (M.take k) p) := Lib.hid (ofK_stay (by rw [HN.out]; exact hlt) (by rw [HKK.out]; exact HE.out))
        go_wp2_with (at_builtin; fail)
        go_roundw
        case rel => exact ⟨k + 1, nv, Av, cv, by omega, by omega, by go_num, rfl, by rw [HS.out]; exact HV.out, by rw [HS.out]; exact HW.out⟩
        case measure => simp [intOf]; omega
      · have he2 : (p' != p) = true := by simpa using he
        have HE := Lib.hid he
        clear he
        have HS : Hid (ofK (M.take (k + 1)) p = ofK (M.take k) p ++ [((p', q', t'), (f', y1, y2, y3, y4, m'))]) := Lib.hid (by rw [ofK_step (by rw [HN.out]; exact hlt) (by rw [HKK.out]; exact HE.out), HKK.out])
        have HB := Lib.hid (HW.out.own.cast HV.out)
        have hz : w.heap.size + 2 ≤ wr.heap.size := by have := (HW.out.mine.at_ 0 rfl).lt; omega
        go_wp2_with (at_builtin; refine wpList_append_lies _ rfl (.tmp 23) (.tmp 29) 26 rfl (w.heap.size + 2) 99 i0 _ 9 40 Tryd.underlying26 hi0 hz0 hz1 hz2 rfl (by decide) _ nv _ rfl (World.ownsRow.alloc HB.out _) ⟨wr.heap.size, 0, none⟩ 1 1 (pc ((p', q', t'), (f', y1, y2, y3, y4, m'))) rfl rfl (World.news_of_block (heap_alloc_new wr _)) (pc_one _) (by omega) (by unfold maxLen; omega) (by omega) (by simp; omega) _ rfl ?_; intro g5 cap5 w5 hown hgrow hat hlt5; have HW5 := Lib.hid (HW.out.more HV.out hown hgrow); clear hown hgrow hat hlt5)
        go_roundw
        case rel => exact ⟨k + 1, nv + 1, _, _, by omega, by omega, by go_num, rfl, by rw [HS.out, List.length_append, HV.out]; rfl, by rw [HS.out]; exact HW5.out⟩
        case measure => simp [intOf]; omega
    · obtain rfl : k = n := by omega
      have hT : M.take k = M := List.take_of_length_le (by rw [HN.out]; exact Nat.le_refl _)
      rw [hT] at HW HV
      obtain ⟨r0, r1⟩ := (HW.out.mine.at_ 0 rfl).c2
      have f0 := (HW.out.mine.at_ 1 rfl).fz 0
      have g0 := (HW.out.mine.at_ 0 rfl).fz 0
      have g1 := (HW.out.mine.at_ 0 rfl).fz 1
      have HE := Lib.hid (HW.out.end2 (.slice Av nv cv) (.slice Av nv cv) (.int .i64 S))
      go_wp2
      refine bodyPost_ret (results_cell_row rfl _ _ (w.heap.size + 1) _ _ _ _ rfl HE.out.1 Tryd.underlying28 rfl rfl) rfl ⟨Av, cv, by rw [HV.out], ?_, HE.out.2.2⟩
      rw [HV.out]
      exact HE.out.2.1
end Go.Proofs.YtddbjbdhbeijjaaDoor
/- The document's cache: New, Get, Drop, Evict. -/
namespace Go.Proofs.YtddbjbdhbeijjaaDoor
set_option linter.unusedVariables false
set_option linter.unusedSimpArgs false
open Go.ChangeShapes Go.WideShapes Go.ChangeAt Go.RowKit Go.Joins

set_option maxRecDepth 100000 in
theorem rnewC_any (z : Int) (w : World) :
    Calls Tryd.prog 11 #[.int .i64 z] w fun e w' => e = .returned (.agg #[.slice none 0 0, .int .i64 (roomF z)]) ∧ Below w.heap.size w w' := by
  have H0 := Lib.hid ((Mine.start w).new (b := w.heap.size) rfl #[.slice none 0 0, .int .i64 0] 28)
  have fin : ∀ x : Int, Mine w ((w.alloc (.cells #[.slice none 0 0, .int .i64 0] 28))) [⟨w.heap.size, #[.slice none 0 0, .int .i64 0], 28⟩] [] → True := fun _ _ => trivial
  clear fin
  by_cases h0 : z < 0
  · have h1 : ¬ (0 < z) := by omega
    have HR : Hid (roomF z = 0) := Lib.hid (by unfold roomF; rw [if_pos h0])
    go_enter Tryd.func11, Tryd.ntmps11
    go_wp2
    refine bodyPost_ret (results_cell_row rfl _ _ w.heap.size _ _ _ _ rfl (last_obj _ _) Tryd.underlying28 rfl rfl) rfl ⟨by rw [HR.out]; rfl, below_alloc1 _ _⟩
  · have h1 : 0 ≤ z := by omega
    by_cases h2 : z ≤ 64
    · obtain ⟨n, rfl⟩ : ∃ n : Nat, z = n := ⟨z.toNat, by omega⟩
      have HR : Hid (roomF n = n) := Lib.hid (by unfold roomF; rw [if_neg h0, if_pos h2]; omega)
      have h3 : n ≤ 64 := by omega
      go_enter Tryd.func11, Tryd.ntmps11
      go_wp2
      refine bodyPost_ret (results_cell_row rfl _ _ w.heap.size _ _ _ _ rfl (last_obj _ _) Tryd.underlying28 rfl rfl) rfl ⟨by rw [HR.out], below_alloc1 _ _⟩
    · have HR : Hid (roomF z = 64) := Lib.hid (by unfold roomF; rw [if_neg h0, if_neg h2])
      have h3 : 64 < z := by omega
      go_enter Tryd.func11, Tryd.ntmps11
      go_wp2
      refine bodyPost_ret (results_cell_row rfl _ _ w.heap.size _ _ _ _ rfl (last_obj _ _) Tryd.underlying28 rfl rfl) rfl ⟨by rw [HR.out]; rfl, below_alloc1 _ _⟩

set_option maxRecDepth 100000 in
set_option maxHeartbeats 1600000 in
theorem rgetC_any (w : World) (v : Value) (M : List Pr) (S p q t f m : Int) (x1 x2 x3 x4 : Bool) (h : PairsOwn w 0 v M) (hl : M.length ≤ 1000) (hv : (getK M (p, q, t)).getD zL = (f, x1, x2, x3, x4, m)) (is : Bool) (his : (getK M (p, q, t)).isSome = is) :
    Calls Tryd.prog 37 #[.agg #[v, .int .i64 S], .agg #[.int .i64 p, .int .i64 q, .int .u64 t]] w fun e w' => e = .returned (.tuple #[.agg #[.int .u64 f, .bool x1, .bool x2, .bool x3, .bool x4, .int .u8 m], .bool is]) ∧ Below w.heap.size w w' := by
  obtain ⟨A, cap, rfl⟩ := h.form
  obtain ⟨n, hn⟩ : ∃ n, M.length = n := ⟨_, rfl⟩
  have HQ := fun w' (hb : Below w.heap.size w w') => rfind_any w' (.slice A M.length cap) M S p q t (h.below hb) hl
  rw [hn] at h hl HQ ⊢
  have HO := Lib.hid h
  have HN := Lib.hid hn
  have H0 := Lib.hid ((((Mine.start w).new (b := w.heap.size) rfl #[.slice A n cap, .int .i64 S] 28).new (b := w.heap.size + 1) (by simp) #[.int .i64 p, .int .i64 q, .int .u64 t] 80).new (b := w.heap.size + 2) (by simp) #[.int .u64 0, .bool false, .bool false, .bool false, .bool false, .int .u8 0] 71)
  rw [getK_idx] at hv his
  cases hx : idxF (keysK M) (p, q, t) with
  | none =>
    rw [hx] at HQ hv his
    have HF := Lib.hid HQ
    have hz : ((0, false, false, false, false, 0) : Ln) = (f, x1, x2, x3, x4, m) := hv
    have hi : false = is := his
    clear HQ hv his hx h hn
    simp only [Prod.mk.injEq] at hz
    obtain ⟨rfl, rfl, rfl, rfl, rfl, rfl⟩ := hz
    subst hi
    go_enter Tryd.func37, Tryd.ntmps37
    go_upto_region 1 with fail
    generalize hw0 : ((w.alloc _).alloc _).alloc _ = w0
    have H1 := Lib.hid (H0.out.world hw0)
    clear hw0 H0
    obtain ⟨a0, a1⟩ := (H1.out.at_ 2 rfl).c2
    obtain ⟨b0, b1, b2⟩ := (H1.out.at_ 1 rfl).c3
    go_upto_region 2 with (go_at_call 60; refine (HF.out _ H1.out.below).mono ?_; rintro e w2 ⟨rfl, hb⟩; have H2 := Lib.hid (H1.out.quiet hb); clear hb)
    have e0 : posF none = -1 := rfl
    clear a0 a1 b0 b1 b2 H1
    obtain ⟨s0, s1, s2, s3, s4, s5⟩ := (H2.out.at_ 0 rfl).c6
    have g0 := (H2.out.at_ 0 rfl).fz 0; have g1 := (H2.out.at_ 0 rfl).fz 1; have g2 := (H2.out.at_ 0 rfl).fz 2; have g3 := (H2.out.at_ 0 rfl).fz 3; have g4 := (H2.out.at_ 0 rfl).fz 4; have g5 := (H2.out.at_ 0 rfl).fz 5
    go_wp2
    refine bodyPost_ret (v := .tuple #[.agg #[.int .u64 0, .bool false, .bool false, .bool false, .bool false, .int .u8 0], .bool false]) ?_ rfl ⟨rfl, ?_⟩
    · rw [results_cell_tmp rfl]; go_simp
    · exact (H2.out.put6 0 rfl (y0 := .int .u64 0) (y1 := .bool false) (y2 := .bool false) (y3 := .bool false) (y4 := .bool false) (y5 := .int .u8 0) rfl).below
  | some i =>
    rw [hx] at HQ hv his
    have HF := Lib.hid HQ
    have hi : true = is := his
    have hil : i < n := by have := (idxF_of hx).1; rwa [keysK_len, hn] at this
    obtain ⟨⟨⟨p', q', t'⟩, y⟩, hkk⟩ : ∃ x : Pr, M.getD i zP = x := ⟨_, rfl⟩
    have hz : (M.getD i zP).2 = (f, x1, x2, x3, x4, m) := hv
    rw [hkk] at hz
    have hz' : y = (f, x1, x2, x3, x4, m) := hz
    subst hz' hi
    obtain ⟨g, cap', e', hc, hgl, _⟩ := PairsOwn.at_ h (k := i) (by rw [hn]; exact hil) hkk
    rw [hn] at e'
    obtain ⟨rfl, rfl⟩ : A = some ⟨g, 0, none⟩ ∧ cap = cap' := by simpa using e'
    have HC := Lib.hid hc
    clear e' HQ hv his hx h hn hz hkk hc
    go_enter Tryd.func37, Tryd.ntmps37
    go_upto_region 1 with fail
    generalize hw0 : ((w.alloc _).alloc _).alloc _ = w0
    have H1 := Lib.hid (H0.out.world hw0)
    clear hw0 H0
    obtain ⟨a0, a1⟩ := (H1.out.at_ 2 rfl).c2
    obtain ⟨b0, b1, b2⟩ := (H1.out.at_ 1 rfl).c3
    go_upto_region 2 with (go_at_call 60; refine (HF.out _ H1.out.below).mono ?_; rintro e w2 ⟨rfl, hb⟩; have H2 := Lib.hid (H1.out.quiet hb); clear hb)
    have e0 : posF (some i) = (i : Int) := rfl
    clear a0 a1 b0 b1 b2 H1
    obtain ⟨s0, s1, s2, s3, s4, s5⟩ := (H2.out.at_ 0 rfl).c6
    obtain ⟨a0, a1⟩ := (H2.out.at_ 2 rfl).c2
    obtain ⟨c0, c1, c2, c3, c4, c5⟩ := (HC.out.below H2.out.below).l
    have g0 := (H2.out.at_ 0 rfl).fz 0; have g1 := (H2.out.at_ 0 rfl).fz 1; have g2 := (H2.out.at_ 0 rfl).fz 2; have g3 := (H2.out.at_ 0 rfl).fz 3; have g4 := (H2.out.at_ 0 rfl).fz 4; have g5 := (H2.out.at_ 0 rfl).fz 5
    go_wp2
    refine bodyPost_ret (v := .tuple #[.agg #[.int .u64 f, .bool x1, .bool x2, .bool x3, .bool x4, .int .u8 m], .bool true]) ?_ rfl ⟨rfl, ?_⟩
    · rw [results_cell_tmp rfl]; go_simp
    · exact (H2.out.put6 0 rfl (y0 := .int .u64 f) (y1 := .bool x1) (y2 := .bool x2) (y3 := .bool x3) (y4 := .bool x4) (y5 := .int .u8 m) rfl).below

/-- what a region keeps in which the document's Drop is: its boxes; the answer's may hold anything -/
structure RsM (w w' : World) (b : Nat) (v : Value) (S p q t : Int) : Prop where
  mine : ∃ x0 x1, Mine w w' [⟨b + 2, #[x0, x1], 28⟩, ⟨b + 1, #[.int .i64 p, .int .i64 q, .int .u64 t], 80⟩, ⟨b, #[v, .int .i64 S], 28⟩] []
abbrev RsS (w w' : World) (b : Nat) (v : Value) (S p q t : Int) : Prop :=
  w'.cell? ⟨b, 0, none⟩ = some v ∧ w'.cell? ⟨b, 1, none⟩ = some (.int .i64 S) ∧ w'.cell? ⟨b + 1, 0, none⟩ = some (.int .i64 p) ∧ w'.cell? ⟨b + 1, 1, none⟩ = some (.int .i64 q) ∧ w'.cell? ⟨b + 1, 2, none⟩ = some (.int .u64 t) ∧ RsM w w' b v S p q t
section
variable {w w1 w2 : World} {b : Nat} {v : Value} {S p q t : Int}
theorem RsM.s (h : RsM w w1 b v S p q t) : RsS w w1 b v S p q t := by
  obtain ⟨x0, x1, hm⟩ := h.mine
  obtain ⟨a0, a1⟩ := (hm.at_ 2 rfl).c2
  obtain ⟨b0, b1, b2⟩ := (hm.at_ 1 rfl).c3
  exact ⟨a0, a1, b0, b1, b2, h⟩
theorem rsS_step (h : RsS w w1 b v S p q t) (hb : Below w1.heap.size w1 w2) : RsS w w2 b v S p q t := by
  obtain ⟨x0, x1, hm⟩ := h.2.2.2.2.2.mine
  exact RsM.s ⟨x0, x1, hm.quiet hb⟩
theorem rsS_below (h : RsS w w1 b v S p q t) : Below w.heap.size w w1 := by
  obtain ⟨x0, x1, hm⟩ := h.2.2.2.2.2.mine
  exact hm.below
theorem rsS_set (h : RsS w w1 b v S p q t) (u0 u1 : Value) : RsS w ((w1.setCell ⟨b + 2, 0, none⟩ u0).setCell ⟨b + 2, 1, none⟩ u1) b v S p q t := by
  obtain ⟨x0, x1, hm⟩ := h.2.2.2.2.2.mine
  exact RsM.s ⟨u0, u1, hm.put2 0 rfl (y0 := u0) (y1 := u1) rfl (by simp)⟩
theorem rsS_res (h : RsS w w1 b v S p q t) : ∃ x0 x1, w1.cell? ⟨b + 2, 0, none⟩ = some x0 ∧ w1.cell? ⟨b + 2, 1, none⟩ = some x1 ∧ w1.frozen? ⟨b + 2, 0, none⟩ = false ∧ w1.frozen? ⟨b + 2, 1, none⟩ = false ∧ (∀ u0 u1, Blk ((w1.setCell ⟨b + 2, 0, none⟩ u0).setCell ⟨b + 2, 1, none⟩ u1) (b + 2) #[u0, u1] 28) := by
  obtain ⟨x0, x1, hm⟩ := h.2.2.2.2.2.mine
  have hB := hm.at_ 0 rfl
  exact ⟨x0, x1, hB.c2.1, hB.c2.2, hB.fz 0, hB.fz 1, fun u0 u1 => setB2 hB u0 u1⟩
end
end Go.Proofs.YtddbjbdhbeijjaaDoor
/- The document's cache: Drop, Evict. -/
namespace Go.Proofs.YtddbjbdhbeijjaaDoor
set_option linter.unusedVariables false
set_option linter.unusedSimpArgs false
open Go.ChangeShapes Go.WideShapes Go.ChangeAt Go.RowKit Go.Joins

section
variable {w : World} {v : Value} {S p q t : Int} {M : List Pr}
theorem rsS_size {w1 : World} {b : Nat} (h : RsS w w1 b v S p q t) : b + 2 < w1.heap.size := by
  obtain ⟨x0, x1, hm⟩ := h.2.2.2.2.2.mine
  exact (hm.at_ 0 rfl).lt
theorem find_rs (h : PairsOwn w 0 v M) (hl : M.length ≤ 1000) {w1 : World} {b : Nat} {p' q' t' : Int} (hs : RsS w w1 b v S p q t) :
    Calls Tryd.prog 60 #[.agg #[v, .int .i64 S], .agg #[.int .i64 p', .int .i64 q', .int .u64 t']] w1 fun e w2 => e = .returned (.int .i64 (posF (idxF (keysK M) (p', q', t')))) ∧ RsS w w2 b v S p q t :=
  (rfind_any w1 v M S p' q' t' (h.below (rsS_below hs)) hl).mono fun _ _ ⟨e, hb⟩ => ⟨e, rsS_step hs hb⟩
theorem without_rs (h : PairsOwn w 0 v M) (hl : M.length ≤ 1000) {w1 : World} {b : Nat} (a : Int) (hs : RsS w w1 b v S p q t) :
    Calls Tryd.prog 56 #[.agg #[v, .int .i64 S], .int .i64 a] w1 fun e w2 => ∃ A c, e = .returned (.agg #[.slice A (cutI M a).length c, .int .i64 S]) ∧ Hid (PairsOwn w2 (b + 3) (.slice A (cutI M a).length c) (cutI M a)) ∧ RsS w w2 b v S p q t ∧
      ∃ x0 x1, w2.cell? ⟨b + 2, 0, none⟩ = some x0 ∧ w2.cell? ⟨b + 2, 1, none⟩ = some x1 ∧ w2.frozen? ⟨b + 2, 0, none⟩ = false ∧ w2.frozen? ⟨b + 2, 1, none⟩ = false ∧ Hid (∀ u0 u1, Blk ((w2.setCell ⟨b + 2, 0, none⟩ u0).setCell ⟨b + 2, 1, none⟩ u1) (b + 2) #[u0, u1] 28) :=
  (rwithout_any w1 v M S a (h.below (rsS_below hs)) hl).mono fun _ _ ⟨A, c, e, ho, hb⟩ => ⟨A, c, e, ho.down (by have := rsS_size hs; omega), rsS_step hs hb, rsS_res (rsS_step hs hb)⟩
theorem own_two {w4 : World} {b : Nat} (h : PairsOwn w4 (b + 3) v M) (u0 u1 : Value) {B : Nat} (hB : B ≤ b + 3) : PairsOwn ((w4.setCell ⟨b + 2, 0, none⟩ u0).setCell ⟨b + 2, 1, none⟩ u1) B v M := by
  have o1 := h.turn (turn1 w4 (b + 2) 0 u0) fun i hi e => by have := (h.lt hi).1; omega
  exact (o1.turn (turn1 _ (b + 2) 1 u1) fun i hi e => by have := (h.lt hi).1; omega).down hB
end

set_option maxRecDepth 100000 in
set_option maxHeartbeats 1600000 in
theorem rdropC_any (w : World) (v : Value) (M : List Pr) (S p q t : Int) (h : PairsOwn w 0 v M) (hl : M.length ≤ 1000) :
    Calls Tryd.prog 54 #[.agg #[v, .int .i64 S], .agg #[.int .i64 p, .int .i64 q, .int .u64 t]] w fun e w' => ∃ A c, e = .returned (.agg #[.slice A (dropK M (p, q, t)).length c, .int .i64 S]) ∧ PairsOwn w' w.heap.size (.slice A (dropK M (p, q, t)).length c) (dropK M (p, q, t)) ∧ Below w.heap.size w w' := by
  obtain ⟨A, cap, rfl⟩ := h.form
  have hF : ∀ w1, RsS w w1 w.heap.size (.slice A M.length cap) S p q t → _ := fun w1 hs => find_rs (p' := p) (q' := q) (t' := t) h hl hs
  have hW : ∀ w1, RsS w w1 w.heap.size (.slice A M.length cap) S p q t → _ := fun w1 hs => without_rs h hl (posF (idxF (keysK M) (p, q, t))) hs
  rw [cutI_pos, show cutO M (idxF (keysK M) (p, q, t)) = dropK M (p, q, t) from rfl] at hW
  generalize posF (idxF (keysK M) (p, q, t)) = z at hF hW
  generalize dropK M (p, q, t) = D at hW ⊢
  generalize M.length = n at *
  generalize hd : D.length = d at hW ⊢
  have HF := Lib.hid hF
  have HW := Lib.hid hW
  have H0 := Lib.hid ((((Mine.start w).new (b := w.heap.size) rfl #[.slice A n cap, .int .i64 S] 28).new (b := w.heap.size + 1) (by simp) #[.int .i64 p, .int .i64 q, .int .u64 t] 80).new (b := w.heap.size + 2) (by simp) #[.slice none 0 0, .int .i64 0] 28)
  clear hF hW h hd
  go_enter Tryd.func54, Tryd.ntmps54
  go_upto_region 1 with fail
  generalize hw0 : ((w.alloc _).alloc _).alloc _ = w0
  have H1 := Lib.hid (H0.out.world hw0)
  clear hw0 H0
  have HS : RsS w w0.drew w.heap.size (.slice A n cap) S p q t := RsM.s ⟨_, _, H1.out.quiet (Kept.drew0 _)⟩
  clear H1
  go_region_held3 (fun w' => w'.cell? ⟨w.heap.size, 0, none⟩ = some (.slice A n cap) ∧ w'.cell? ⟨w.heap.size, 1, none⟩ = some (.int .i64 S) ∧ w'.cell? ⟨w.heap.size + 1, 0, none⟩ = some (.int .i64 p) ∧ w'.cell? ⟨w.heap.size + 1, 1, none⟩ = some (.int .i64 q) ∧ w'.cell? ⟨w.heap.size + 1, 2, none⟩ = some (.int .u64 t) ∧ RsM w w' w.heap.size (.slice A n cap) S p q t)
    (first | assumption | exact HS | exact rsS_set (by assumption) _ _)
    (first | (go_at_call 60; refine (HF.out _ (by assumption)).mono ?_; rintro e w3 ⟨rfl, hS3⟩) | (go_at_call 56; refine (HW.out _ (by assumption)).mono ?_; rintro e w4 ⟨A4, c4, rfl, HP, hS4, x0, x1, r0, r1, f0, f1, HB⟩))
  rename_i hH
  go_wp2
  exact bodyPost_ret (results_cell_row rfl _ _ (w.heap.size + 2) _ _ _ _ rfl (HB.out _ _) Tryd.underlying28 rfl rfl) rfl ⟨A4, c4, rfl, own_two HP.out _ _ (by omega), rsS_below hH⟩

/-- what a region keeps in which the document's Evict is -/
structure EvM (w w' : World) (b : Nat) (v : Value) (S : Int) : Prop where
  mine : ∃ x0 x1, Mine w w' [⟨b + 1, #[x0, x1], 28⟩, ⟨b, #[v, .int .i64 S], 28⟩] []
abbrev EvS (w w' : World) (b : Nat) (v : Value) (S : Int) : Prop := w'.cell? ⟨b, 0, none⟩ = some v ∧ w'.cell? ⟨b, 1, none⟩ = some (.int .i64 S) ∧ EvM w w' b v S
section
variable {w w1 w2 : World} {b : Nat} {v v' : Value} {S : Int} {M : List Pr}
theorem EvM.s (h : EvM w w1 b v S) : EvS w w1 b v S := by
  obtain ⟨x0, x1, hm⟩ := h.mine
  obtain ⟨a0, a1⟩ := (hm.at_ 1 rfl).c2
  exact ⟨a0, a1, h⟩
theorem evS_step (h : EvS w w1 b v S) (hb : Below w1.heap.size w1 w2) : EvS w w2 b v S := by
  obtain ⟨x0, x1, hm⟩ := h.2.2.mine
  exact EvM.s ⟨x0, x1, hm.quiet hb⟩
theorem evS_below (h : EvS w w1 b v S) : Below w.heap.size w w1 := by
  obtain ⟨x0, x1, hm⟩ := h.2.2.mine
  exact hm.below
theorem evS_size (h : EvS w w1 b v S) : b + 1 < w1.heap.size := by
  obtain ⟨x0, x1, hm⟩ := h.2.2.mine
  exact (hm.at_ 0 rfl).lt
theorem evS_set (h : EvS w w1 b v S) (u0 u1 : Value) : EvS w ((w1.setCell ⟨b + 1, 0, none⟩ u0).setCell ⟨b + 1, 1, none⟩ u1) b v S := by
  obtain ⟨x0, x1, hm⟩ := h.2.2.mine
  exact EvM.s ⟨u0, u1, hm.put2 0 rfl (y0 := u0) (y1 := u1) rfl (by simp)⟩
theorem evS_res (h : EvS w w1 b v S) : ∃ x0 x1, w1.cell? ⟨b + 1, 0, none⟩ = some x0 ∧ w1.cell? ⟨b + 1, 1, none⟩ = some x1 ∧ w1.frozen? ⟨b + 1, 0, none⟩ = false ∧ w1.frozen? ⟨b + 1, 1, none⟩ = false ∧ Hid (∀ u0 u1, Blk ((w1.setCell ⟨b + 1, 0, none⟩ u0).setCell ⟨b + 1, 1, none⟩ u1) (b + 1) #[u0, u1] 28) := by
  obtain ⟨x0, x1, hm⟩ := h.2.2.mine
  have hB := hm.at_ 0 rfl
  exact ⟨x0, x1, hB.c2.1, hB.c2.2, hB.fz 0, hB.fz 1, fun u0 u1 => setB2 hB u0 u1⟩
theorem without_ev (h : PairsOwn w 0 v M) (hl : M.length ≤ 1000) (a : Int) (hs : EvS w w1 b v S) :
    Calls Tryd.prog 56 #[.agg #[v, .int .i64 S], .int .i64 a] w1 fun e w2 => ∃ A c, e = .returned (.agg #[.slice A (cutI M a).length c, .int .i64 S]) ∧ Hid (PairsOwn w2 (b + 2) (.slice A (cutI M a).length c) (cutI M a)) ∧ EvS w w2 b v S ∧
      ∃ x0 x1, w2.cell? ⟨b + 1, 0, none⟩ = some x0 ∧ w2.cell? ⟨b + 1, 1, none⟩ = some x1 ∧ w2.frozen? ⟨b + 1, 0, none⟩ = false ∧ w2.frozen? ⟨b + 1, 1, none⟩ = false ∧ Hid (∀ u0 u1, Blk ((w2.setCell ⟨b + 1, 0, none⟩ u0).setCell ⟨b + 1, 1, none⟩ u1) (b + 1) #[u0, u1] 28) :=
  (rwithout_any w1 v M S a (h.below (evS_below hs)) hl).mono fun _ _ ⟨A, c, e, ho, hb⟩ => ⟨A, c, e, ho.down (by have := evS_size hs; omega), evS_step hs hb, evS_res (evS_step hs hb)⟩
theorem own_ev (h : PairsOwn w1 (b + 2) v M) (u0 u1 : Value) {B : Nat} (hB : B ≤ b + 2) : PairsOwn ((w1.setCell ⟨b + 1, 0, none⟩ u0).setCell ⟨b + 1, 1, none⟩ u1) B v M := by
  have o1 := h.turn (turn1 w1 (b + 1) 0 u0) fun i hi e => by have := (h.lt hi).1; omega
  exact (o1.turn (turn1 _ (b + 1) 1 u1) fun i hi e => by have := (h.lt hi).1; omega).down hB
end

/-- v' holds M: v itself, or a row that is new since w -/
def PairsNew (w w' : World) (v v' : Value) (M : List Pr) : Prop := PairsOwn w' 0 v' M ∧ (v' = v ∨ ∀ i, v'.ownBlock = some i → w.heap.size ≤ i)
theorem PairsOwn.new {w w' : World} {v v' : Value} {M : List Pr} (h : PairsOwn w' w.heap.size v' M) : PairsNew w w' v v' M := ⟨h.zero, Or.inr fun _ hi => (h.lt hi).1⟩

set_option maxRecDepth 100000 in
set_option maxHeartbeats 1600000 in
theorem revictC_any (w : World) (v : Value) (M : List Pr) (S a : Int) (h : PairsOwn w 0 v M) (hl : M.length ≤ 1000) (ha : I64 a) :
    Calls Tryd.prog 35 #[.agg #[v, .int .i64 S], .int .i64 a] w fun e w' => ∃ A c, e = .returned (.agg #[.slice A (evK M a).length c, .int .i64 S]) ∧ PairsNew w w' v (.slice A (evK M a).length c) (evK M a) ∧ Below w.heap.size w w' := by
  obtain ⟨A, cap, rfl⟩ := h.form
  have H0 := Lib.hid (((Mine.start w).new (b := w.heap.size) rfl #[.slice A M.length cap, .int .i64 S] 28).new (b := w.heap.size + 1) (by simp) #[.slice none 0 0, .int .i64 0] 28)
  by_cases h0 : M.length = 0
  · have HO := Lib.hid h
    have HE : Hid (evK M a = M) := Lib.hid (by unfold evK; rw [if_pos h0])
    rw [HE.out]
    rw [h0] at H0 HO ⊢
    clear h
    go_enter Tryd.func35, Tryd.ntmps35
    go_wp2
    have hb2 : Below w.heap.size w ((w.alloc (.cells #[.slice A 0 cap, .int .i64 S] 28)).alloc (.cells #[.slice A 0 cap, .int .i64 S] 28)) := (below_alloc1 _ _).alloc (by simp) _
    exact bodyPost_ret (results_cell_row rfl _ _ (w.heap.size + 1) _ _ _ _ rfl (heap_alloc2_new w _ _) Tryd.underlying28 rfl rfl) rfl ⟨A, cap, rfl, ⟨HO.out.below hb2, Or.inl rfl⟩, hb2⟩
  · have HA := Lib.hid ha
    have HP := Lib.hid (pickF_lt a (n := M.length) (by omega))
    have HE : Hid (evK M a = M.eraseIdx (pickF a M.length)) := Lib.hid (by unfold evK; rw [if_neg h0])
    have hq := fun w' => rpicked_any a M.length w' ha (by omega) (by omega)
    have hW : ∀ w1, EvS w w1 w.heap.size (.slice A M.length cap) S → _ := fun w1 hs => without_ev h hl (pickF a M.length) hs
    rw [cutI_nat, ← HE.out] at hW
    have HPN : Hid (∀ w' v', PairsOwn w' w.heap.size v' (evK M a) → PairsNew w w' (.slice A M.length cap) v' (evK M a)) := Lib.hid fun _ _ h => h.new
    clear HE HP
    generalize evK M a = D at hW HPN ⊢
    generalize pickF a M.length = z at hW hq
    generalize M.length = n at *
    generalize hd : D.length = d at hW ⊢
    have h1 : ((n : Int) == 0) = false := by simp; omega
    have HQ := Lib.hid hq
    have HW := Lib.hid hW
    clear hq hW h hd
    go_enter Tryd.func35, Tryd.ntmps35
    go_upto_region 1 with fail
    generalize hw0 : (w.alloc _).alloc _ = w0
    have H1 := Lib.hid (H0.out.world hw0)
    clear hw0 H0
    obtain ⟨a0, a1⟩ := (H1.out.at_ 1 rfl).c2
    go_upto_region 3 with fail
    have HS : EvS w w0.drew w.heap.size (.slice A n cap) S := EvM.s ⟨_, _, H1.out.quiet (Kept.drew0 _)⟩
    clear H1
    go_region_held3 (fun w' => w'.cell? ⟨w.heap.size, 0, none⟩ = some (.slice A n cap) ∧ w'.cell? ⟨w.heap.size, 1, none⟩ = some (.int .i64 S) ∧ EvM w w' w.heap.size (.slice A n cap) S)
      (first | assumption | exact HS | exact evS_set (by assumption) _ _)
      (first | (go_at_call 57; refine (HQ.out _).mono ?_; rintro e w' ⟨rfl, rfl⟩) | (go_at_call 56; refine (HW.out _ (by assumption)).mono ?_; rintro e w4 ⟨A4, c4, rfl, HP, hS4, x0, x1, r0, r1, f0, f1, HB⟩))
    rename_i hH
    go_wp2
    exact bodyPost_ret (results_cell_row rfl _ _ (w.heap.size + 1) _ _ _ _ rfl (HB.out _ _) Tryd.underlying28 rfl rfl) rfl ⟨A4, c4, rfl, HPN.out _ _ (own_ev HP.out _ _ (by omega)), evS_below hH⟩
end Go.Proofs.YtddbjbdhbeijjaaDoor
