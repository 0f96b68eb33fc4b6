/- Several texts of ours in one: Cj, Je, Cm. -/
import Derived.Test.YtiihhlmddmicjaaDoorGCgChCi
import Derived.Test.YtiihhlmddmicjaaDoorGJdCeCf
/- Package cache: DropOf. -/
namespace Go.Proofs.YtiihhlmddmicjaaDoor
set_option linter.unusedVariables false
set_option linter.unusedSimpArgs false
open Go.ChangeShapes Go.WideShapes Go.ChangeAt Go.RowKit Go.Joins

/-- of the first k lines those that aren't of p, and all others -/
def midK (L : List Pr) (k : Nat) (p : Int) : List Pr := ofK (L.take k) p ++ L.drop k
theorem midK_zero (L : List Pr) (p : Int) : midK L 0 p = L := by simp [midK, ofK]
theorem midK_all (L : List Pr) (p : Int) {n : Nat} (h : L.length = n) : midK L n p = ofK L p := by
  unfold midK
  rw [List.take_of_length_le (by omega), List.drop_of_length_le (by omega), List.append_nil]
theorem midK_step {L : List Pr} {k : Nat} (hk : k < L.length) (p : Int) : midK L (k + 1) p = (if (L.getD k zP).1.1 = p then ofK (L.take k) p else ofK (L.take k) p ++ [L.getD k zP]) ++ L.drop (k + 1) := by
  unfold midK
  have hg : L.getD k zP = L[k] := by rw [List.getD, List.getElem?_eq_getElem hk]; rfl
  rw [List.take_add_one, List.getElem?_eq_getElem hk, hg]
  unfold ofK
  rw [List.filter_append]
  by_cases e : L[k].1.1 = p
  · simp [e]
  · simp [e]
theorem midK_here {L : List Pr} {k : Nat} (hk : k < L.length) (p : Int) : midK L k p = ofK (L.take k) p ++ L.getD k zP :: L.drop (k + 1) := by
  unfold midK
  have hg : L.getD k zP = L[k] := by rw [List.getD, List.getElem?_eq_getElem hk]; rfl
  rw [hg, List.drop_eq_getElem_cons hk]
theorem midK_keep {L : List Pr} {k : Nat} (hk : k < L.length) {p : Int} (e : (L.getD k zP).1.1 ≠ p) : midK L (k + 1) p = midK L k p := by
  rw [midK_step hk, if_neg e, midK_here hk]
  simp
theorem idxF_middle (A B : List Ky) (k : Ky) (h : k ∉ A) : idxF (A ++ k :: B) k = some A.length := by
  refine idxF_some (by simp) (by simp [List.getD]) fun j hj e => h ?_
  rw [List.getD, List.getElem?_append_left hj, List.getElem?_eq_getElem hj] at e
  rw [← show A[j] = k from e]
  exact List.getElem_mem _
theorem midK_drop {L : List Pr} (hn : (keysK L).Nodup) {k : Nat} (hk : k < L.length) {p : Int} (e : (L.getD k zP).1.1 = p) : dropK (midK L k p) (L.getD k zP).1 = midK L (k + 1) p := by
  rw [midK_step hk, if_pos e, midK_here hk]
  have hnot : (L.getD k zP).1 ∉ keysK (ofK (L.take k) p) := fun h => by
    unfold keysK at h
    obtain ⟨x, hx, he⟩ := List.mem_map.1 h
    have hx2 := (List.mem_filter.1 hx).2
    simp at hx2
    rw [he] at hx2
    exact hx2 e
  unfold dropK cutO
  rw [keysK_append, show keysK (L.getD k zP :: L.drop (k + 1)) = (L.getD k zP).1 :: keysK (L.drop (k + 1)) from rfl, idxF_middle _ _ _ hnot, keysK_len]
  show (ofK (L.take k) p ++ L.getD k zP :: L.drop (k + 1)).eraseIdx (ofK (L.take k) p).length = _
  rw [List.eraseIdx_append_of_length_le (Nat.le_refl _), Nat.sub_self, List.eraseIdx_cons_zero]

section
variable {w : World} {F : Nat → Prop} {c R : Nat} {L : List Pr}
/-- DropOf, in its loop: the lines of the first k places are done; the order that it goes through is v -/
structure Dof (w wr : World) (F : Nat → Prop) (c R : Nat) (L : List Pr) (p : Int) (k : Nat) (v : Value) : Prop where
  law : ∃ G, LawC w wr F c R (midK L k p) G [] []
  ord : OrdIs wr v (keysK L)
theorem Dof.quiet {wr w3 : World} {p : Int} {k : Nat} {v : Value} (h : Dof w wr F c R L p k v) (hb : Below wr.heap.size wr w3) : Dof w w3 F c R L p k v := by
  obtain ⟨G, hL⟩ := h.law
  exact ⟨⟨G, hL.quiet hb⟩, (KeyKept.below hb).ord h.ord⟩
theorem Dof.cac {wr : World} {p : Int} {k : Nat} {v : Value} (h : Dof w wr F c R L p k v) : ∃ G, Cac wr G c R (midK L k p) ∧ ∀ w4 L', Cac w4 (Since G wr) c R L' → Turn G wr w4 → KeyKept wr w4 → L' = midK L (k + 1) p → Dof w w4 F c R L p (k + 1) v := by
  obtain ⟨G, hL⟩ := h.law
  refine ⟨G, hL.wk.cac, fun w4 L' hc ht hk e => ?_⟩
  subst e
  exact ⟨⟨_, hL.did hc ht⟩, hk.ord h.ord⟩

set_option maxRecDepth 100000 in
set_option maxHeartbeats 1600000 in
theorem dropOfC_any (h : Cac w F c R L) (p : Int) :
    Calls Tryd.prog 61 #[.pointer (some ⟨c, 0, none⟩), .int .i64 p] w fun e w' => e = .returned (.tuple #[]) ∧ Cac w' (Since F w) c R (ofK L p) ∧ Turn F w w' := by
  have hroom := h.room
  have hlen := h.len
  have HN := Lib.hid h.nodup
  have H0 := LawC.start h
  obtain ⟨mb, v, hC, _⟩ := h
  obtain ⟨d0, d1, d2, _⟩ := hC.cells
  have HD : Hid (Dof w w F c R L p 0 v) := Lib.hid ⟨⟨_, by rw [midK_zero]; exact H0⟩, hC.ord⟩
  obtain ⟨A, cap, rfl⟩ := hC.ord.form
  rw [keysK_len] at HD d2
  obtain ⟨n, hn⟩ : ∃ n, L.length = n := ⟨_, rfl⟩
  rw [hn] at HD d2 hlen
  have HL := Lib.hid hn
  clear hC H0 hn
  go_enter Tryd.func61, Tryd.ntmps61
  go_wp2
  go_loopw [13] (fun i wr => ∃ k : Nat, k ≤ n ∧ i = .int .i64 k ∧ Dof w wr F c R L p k (.slice A n cap)) (fun i _ => (n - intOf i).toNat)
  case atStart => exact ⟨0, by omega, rfl, HD.out⟩
  case round =>
    obtain ⟨k, hk, rfl, hR⟩ := hrel
    have HR := Lib.hid hR
    clear HD d0 d1 d2 hR
    by_cases hlt : k < n
    · obtain ⟨g, cap', e', c0, c1, c2⟩ := HR.out.ord.at_ (k := k) (by rw [keysK_len, HL.out]; exact hlt)
      rw [keysK_len, HL.out] at e'
      obtain ⟨rfl, rfl⟩ : A = some ⟨g, 0, none⟩ ∧ cap = cap' := by simpa using e'
      clear e'
      rw [keysK_getD] at c0 c1 c2
      obtain ⟨⟨p', q', t'⟩, hkk⟩ : ∃ x : Ky, (L.getD k zP).1 = x := ⟨_, rfl⟩
      rw [hkk] at c0 c1 c2
      have HKK := Lib.hid hkk
      clear hkk
      have hg : g < wr.heap.size := World.block_lt_of_cell? _ _ c0
      have HR1 := Lib.hid (HR.out.quiet (below_alloc1 wr (.cells #[.int .i64 p', .int .i64 q', .int .u64 t'] 102)))
      by_cases he : p' = p
      · subst he
        obtain ⟨G, hcac, hgo⟩ := HR1.out.cac
        have HC := Lib.hid hcac
        have HG := Lib.hid hgo
        clear hcac hgo
        go_wp2_with (go_at_call 60; refine (dropC_all HC.out p' q' t').mono ?_; rintro e w4 ⟨rfl, hc4, ht4, hk4⟩; have H4 := Lib.hid (HG.out w4 _ hc4 ht4 hk4 (by rw [← HKK.out]; exact midK_drop HN.out (by rw [HL.out]; exact hlt) (by rw [HKK.out]))); clear hc4 ht4 hk4)
        go_roundw
        case rel => exact ⟨k + 1, by omega, by go_num, H4.out⟩
        case measure => simp [intOf]; omega
      · have he2 : (p' == p) = false := by simpa using he
        have HM : Hid (midK L (k + 1) p = midK L k p) := Lib.hid (midK_keep (by rw [HL.out]; exact hlt) (by rw [HKK.out]; exact he))
        clear he
        go_wp2
        go_roundw
        case rel =>
          refine ⟨k + 1, by omega, by go_num, ?_⟩
          obtain ⟨G, hL⟩ := HR1.out.law
          exact ⟨⟨G, by rw [HM.out]; exact hL⟩, HR1.out.ord⟩
        case measure => simp [intOf]; omega
    · obtain rfl : k = n := by omega
      obtain ⟨G, hL⟩ := HR.out.law
      rw [midK_all L p HL.out] at hL
      have HE := Lib.hid hL.out
      clear hL
      go_wp2
      go_end0
      exact ⟨rfl, HE.out⟩
end
end Go.Proofs.YtiihhlmddmicjaaDoor
/- Package psc: Len, Evict, Clear, DropOf, DropPage. -/
namespace Go.Proofs.YtiihhlmddmicjaaDoor
set_option linter.unusedVariables false
set_option linter.unusedSimpArgs false
open Go.ChangeShapes Go.WideShapes Go.ChangeAt Go.RowKit Go.Joins

theorem shifts_kept {w w' : World} (hs : Shifts w) (hb : Below w.heap.size w w') : Shifts w' := shifts_under hs hb (size_shifts hs)

/-- how many there are of a level -/
def lenF (L : Ls) (l : Int) : Int := if 2 ≤ l ∧ l ≤ 4 then ((L (kOf l)).length : Int) else 0

section
variable {w wr : World} {F G : Nat → Prop} {q R : Nat} {L L' : Ls} {os : List ObjT} {bs : List BoxD} {rs : List RowD} {k : Nat}

theorem Has.psc (h : Has w wr F os bs rs) (k : Nat) (hk : os[k]? = some ⟨pscT q R L, G⟩) (l : Int) (h2 : 2 ≤ l) (h4 : l ≤ 4) :
    ∃ cc Hk, (Calls Tryd.prog 38 #[.pointer (some ⟨q, 0, none⟩), .int .i64 l] wr fun e w' => e = .returned (ptrV cc) ∧ Below wr.heap.size wr w') ∧
      ∀ w1, Below wr.heap.size wr w1 → Cac w1 Hk cc R (L (kOf l)) ∧ ∀ w2 M, Cac w2 (Since Hk w1) cc R M → Turn Hk w1 w2 → Has w w2 F (os.set k ⟨pscT q R (updL L (kOf l) M), fun i => Since G w1 i ∧ i < w2.heap.size⟩) bs rs := by
  obtain ⟨c, Hc, hp⟩ := h.the k hk
  have hkl := (kOf_lt h2 h4).1
  refine ⟨c (kOf l), Hc (kOf l), ofP_any hp l h2 h4, fun w1 hb => ⟨(hp.one _ hkl).1.kept hb, fun w2 M hc ht => ?_⟩⟩
  obtain ⟨h5, h6⟩ := (hp.quiet hb).did hkl hc ht
  exact (h.quiet hb).did k hk (firm_psc _ _ _) ⟨_, _, h5⟩ h6

theorem kOf_two (h : k < 3) : kOf (2 + (k : Int)) = 2 - k := by unfold kOf; omega
theorem some_zero (L' L : Ls) : ∀ j, j < 3 → someL 0 L' L j = L j := fun j hj => if_neg (by omega)
theorem some_step (h : k < 3) {M : List Pr} (hM : M = L' (2 - k)) : updL (someL k L' L) (2 - k) M = someL (k + 1) L' L := by
  funext j
  unfold updL someL
  subst hM
  by_cases e : j = 2 - k
  · subst e; rw [if_pos rfl, if_pos (by omega)]
  · rw [if_neg e]
    by_cases h1 : 3 ≤ j + k
    · rw [if_pos h1, if_pos (by omega)]
    · rw [if_neg h1, if_neg (by omega)]
theorem some_here (h : k < 3) : someL k L' L (2 - k) = L (2 - k) := if_neg (by omega)
/-- it hangs on the three lists alone -/
theorem pscT.alike (h : pscT q R L w G) (he : ∀ k, k < 3 → L k = L' k) : pscT q R L' w G := by
  obtain ⟨c, H, h⟩ := h
  exact ⟨c, H, h.here, h.own, fun k hk => by rw [← he k hk]; exact h.one k hk, h.apart⟩
theorem some_all (L' L : Ls) : ∀ j, j < 3 → someL 3 L' L j = L' j := fun j _ => if_pos (by omega)

theorem lenP_out (p : Option Addr) (l : Int) (w : World) (h : ¬ (2 ≤ l ∧ l ≤ 4)) :
    Calls Tryd.prog 16 #[.pointer p, .int .i64 l] w fun e w' => e = .returned (.int .i64 0) ∧ Below w.heap.size w w' := by
  go_enter Tryd.func16, Tryd.ntmps16
  go_wp2_with (first | (go_at_call 38; refine (ofP_out _ _ _ h).mono ?_; rintro e w1 ⟨rfl, hb1⟩) | (go_at_call 43; refine (keysC_nil _).mono ?_; rintro e w2 ⟨rfl, rfl⟩))
  go_ret
  exact ⟨rfl, hb1⟩
theorem lenP_any (h : pscT q R L w G) (l : Int) :
    Calls Tryd.prog 16 #[.pointer (some ⟨q, 0, none⟩), .int .i64 l] w fun e w' => e = .returned (.int .i64 (lenF L l)) ∧ Below w.heap.size w w' := by
  by_cases hl : 2 ≤ l ∧ l ≤ 4
  · have HE : Hid (lenF L l = ((L (kOf l)).length : Int)) := Lib.hid (if_pos hl)
    obtain ⟨cc, Hk, hof, hgo⟩ := (Has.start (firm_psc q R L) h).psc 0 rfl l hl.1 hl.2
    have HG := Lib.hid hgo
    clear hgo hl h
    rw [HE.out]
    generalize L (kOf l) = M at *
    go_enter Tryd.func16, Tryd.ntmps16
    go_wp2_with (first | (go_at_call 38; refine hof.mono ?_; rintro e w1 ⟨rfl, hb1⟩) | (go_at_call 43; refine (keysC_any (HG.out _ hb1).1).mono ?_; rintro e w2 ⟨A, d, rfl, hO, hb2⟩))
    go_ret
    exact ⟨rfl, hb1.trans (hb2.mono hb1.size)⟩
  · rw [show lenF L l = 0 from if_neg hl]
    exact lenP_out _ l w hl

theorem evictP_any (h : pscT q R L w F) (l a : Int) (ha : I64 a) :
    Calls Tryd.prog 26 #[.pointer (some ⟨q, 0, none⟩), .int .i64 l, .int .i64 a] w fun e w' => e = .returned (.tuple #[]) ∧ pscT q R (evL L l a) w' (Since F w) ∧ Turn F w w' := by
  by_cases hl : 2 ≤ l ∧ l ≤ 4
  · obtain ⟨cc, Hk, hof, hgo⟩ := (Has.start (firm_psc q R L) h).psc 0 rfl l hl.1 hl.2
    have HG := Lib.hid hgo
    have HE : Hid (evL L l a = updL L (kOf l) (evK (L (kOf l)) a)) := Lib.hid (if_pos hl)
    clear hgo hl h
    go_enter Tryd.func26, Tryd.ntmps26
    go_wp2_with (first | (go_at_call 38; refine hof.mono ?_; rintro e w1 ⟨rfl, hb1⟩) | (go_at_call 62; refine (evictC_any (HG.out _ hb1).1 a ha).mono ?_; rintro e w2 ⟨rfl, hc2, ht2⟩))
    go_end0
    rw [HE.out]
    exact ⟨rfl, ((HG.out _ hb1).2 _ _ hc2 ht2).out 0 rfl⟩
  · have HE : Hid (evL L l a = L) := Lib.hid (if_neg hl)
    have H0 := Lib.hid (Has.start (firm_psc q R L) h)
    clear h
    go_enter Tryd.func26, Tryd.ntmps26
    go_wp2_with (first | (go_at_call 38; refine (ofP_out _ _ _ hl).mono ?_; rintro e w1 ⟨rfl, hb1⟩) | (go_at_call 62; refine (evictC_nil _ _).mono ?_; rintro e w2 ⟨rfl, rfl⟩))
    go_end0
    rw [HE.out]
    exact ⟨rfl, (H0.out.quiet hb1).out 0 rfl⟩

set_option maxRecDepth 100000 in
theorem clearP_any (h : pscT q R L w F) :
    Calls Tryd.prog 27 #[.pointer (some ⟨q, 0, none⟩)] w fun e w' => e = .returned (.tuple #[]) ∧ pscT q R (noneL L) w' (Since F w) ∧ Turn F w w' := by
  have H0 := Lib.hid (Has.start (firm_psc q R (someL 0 (noneL L) L)) (h.alike fun j hj => (some_zero _ _ j hj).symm))
  clear h
  go_enter Tryd.func27, Tryd.ntmps27
  go_wp2
  go_loopw [3] (fun i wr => ∃ (k : Nat) (G : Nat → Prop), k ≤ 3 ∧ i = .int .i64 k ∧ Hid (Has w wr F [⟨pscT q R (someL k (noneL L) L), G⟩] [] [])) (fun i _ => (3 - intOf i).toNat)
  case atStart => exact ⟨0, _, by omega, rfl, H0⟩
  case round =>
    obtain ⟨k, G, hk, rfl, HL⟩ := hrel
    clear H0
    by_cases hlt : k < 3
    · have hlt2 := hlt
      obtain ⟨l, hl⟩ : ∃ l, 2 + (k : Int) = l := ⟨_, rfl⟩
      have e1 : IntKind.i64.wrap l = l := by rw [IntKind.wrap_i64]; omega
      have HK : Hid (kOf l = 2 - k) := Lib.hid (by rw [← hl]; exact kOf_two hlt)
      obtain ⟨cc, Hk, hof, hgo⟩ := HL.out.psc 0 rfl l (by omega) (by omega)
      have HG := Lib.hid hgo
      clear hgo HL
      go_wp2_with (first | (go_at_call 38; refine hof.mono ?_; rintro e w1 ⟨rfl, hb1⟩) | (go_at_call 63; refine (clearC_any (HG.out _ hb1).1).mono ?_; rintro e w2 ⟨rfl, hc2, ht2⟩))
      have HN := (HG.out _ hb1).2 _ _ hc2 ht2
      rw [HK.out, some_step hlt2 (by unfold noneL; rw [if_pos (by omega)])] at HN
      have HN2 := Lib.hid HN
      clear HN
      go_roundw
      case rel => exact ⟨k + 1, _, by omega, by go_num, HN2⟩
      case measure => simp [intOf]; omega
    · obtain rfl : k = 3 := by omega
      go_wp2
      go_end0
      obtain ⟨h1, h2⟩ := HL.out.out 0 rfl
      exact ⟨rfl, h1.alike (some_all _ _), h2⟩
set_option maxRecDepth 100000 in
theorem dropOfP_any (h : pscT q R L w F) (p : Int) :
    Calls Tryd.prog 25 #[.pointer (some ⟨q, 0, none⟩), .int .i64 p] w fun e w' => e = .returned (.tuple #[]) ∧ pscT q R (ofL L p) w' (Since F w) ∧ Turn F w w' := by
  have H0 := Lib.hid (Has.start (firm_psc q R (someL 0 (ofL L p) L)) (h.alike fun j hj => (some_zero _ _ j hj).symm))
  clear h
  go_enter Tryd.func25, Tryd.ntmps25
  go_wp2
  go_loopw [5] (fun i wr => ∃ (k : Nat) (G : Nat → Prop), k ≤ 3 ∧ i = .int .i64 k ∧ Hid (Has w wr F [⟨pscT q R (someL k (ofL L p) L), G⟩] [] [])) (fun i _ => (3 - intOf i).toNat)
  case atStart => exact ⟨0, _, by omega, rfl, H0⟩
  case round =>
    obtain ⟨k, G, hk, rfl, HL⟩ := hrel
    clear H0
    by_cases hlt : k < 3
    · have hlt2 := hlt
      obtain ⟨l, hl⟩ : ∃ l, 2 + (k : Int) = l := ⟨_, rfl⟩
      have e1 : IntKind.i64.wrap l = l := by rw [IntKind.wrap_i64]; omega
      have HK : Hid (kOf l = 2 - k) := Lib.hid (by rw [← hl]; exact kOf_two hlt)
      obtain ⟨cc, Hk, hof, hgo⟩ := HL.out.psc 0 rfl l (by omega) (by omega)
      have HG := Lib.hid hgo
      clear hgo HL
      go_wp2_with (first | (go_at_call 38; refine hof.mono ?_; rintro e w1 ⟨rfl, hb1⟩) | (go_at_call 61; refine (dropOfC_any (HG.out _ hb1).1 p).mono ?_; rintro e w2 ⟨rfl, hc2, ht2⟩))
      have HN := (HG.out _ hb1).2 _ _ hc2 ht2
      rw [HK.out, some_step hlt2 (by rw [some_here hlt2]; unfold ofL; rw [if_pos (by omega)])] at HN
      have HN2 := Lib.hid HN
      clear HN
      go_roundw
      case rel => exact ⟨k + 1, _, by omega, by go_num, HN2⟩
      case measure => simp [intOf]; omega
    · obtain rfl : k = 3 := by omega
      go_wp2
      go_end0
      obtain ⟨h1, h2⟩ := HL.out.out 0 rfl
      exact ⟨rfl, h1.alike (some_all _ _), h2⟩
set_option maxRecDepth 100000 in
theorem dropPageP_any (h : pscT q R L w F) (hs : Shifts w) (h0 : ¬ F 0) (p a : Int) (ha : W64 a) :
    Calls Tryd.prog 24 #[.pointer (some ⟨q, 0, none⟩), .int .i64 p, .int .u64 a] w fun e w' => e = .returned (.tuple #[]) ∧ pscT q R (dropL L p a) w' (Since F w) ∧ Turn F w w' := by
  have H0 := Lib.hid (Has.start (firm_psc q R (someL 0 (dropL L p a) L)) (h.alike fun j hj => (some_zero _ _ j hj).symm))
  have HS := Lib.hid hs
  have HF := Lib.hid h0
  have HA := Lib.hid ha
  clear h hs h0 ha
  go_enter Tryd.func24, Tryd.ntmps24
  go_wp2
  go_loopw [8] (fun i wr => ∃ (k : Nat) (G : Nat → Prop), k ≤ 3 ∧ i = .int .i64 k ∧ Hid (Has w wr F [⟨pscT q R (someL k (dropL L p a) L), G⟩] [] [])) (fun i _ => (3 - intOf i).toNat)
  case atStart => exact ⟨0, _, by omega, rfl, H0⟩
  case round =>
    obtain ⟨k, G, hk, rfl, HL⟩ := hrel
    clear H0
    by_cases hlt : k < 3
    · have hlt2 := hlt
      obtain ⟨l, hl⟩ : ∃ l, 2 + (k : Int) = l := ⟨_, rfl⟩
      have e1 : IntKind.i64.wrap l = l := by rw [IntKind.wrap_i64]; omega
      have HK : Hid (kOf l = 2 - k) := Lib.hid (by rw [← hl]; exact kOf_two hlt)
      obtain ⟨cc, Hk, hof, hgo⟩ := HL.out.psc 0 rfl l (by omega) (by omega)
      have HG := Lib.hid hgo
      have HS1 := Lib.hid (HL.out.shifts HS.out HF.out)
      have HKY := Lib.hid fun w1 (hb : Below wr.heap.size wr w1) => keyP_any p a l w1 (shifts_kept HS1.out hb) HA.out (by omega) (by omega)
      have HT : Hid (dropK (L (2 - k)) (p, l, tagF a l) = dropL L p a (2 - k)) := Lib.hid (by unfold dropL kyF; rw [if_pos (by omega), show 4 - ((2 - k : Nat) : Int) = l by omega])
      generalize tagF a l = t at *
      clear hgo HL HS1
      go_wp2_with (first | (go_at_call 38; refine hof.mono ?_; rintro e w1 ⟨rfl, hb1⟩) | (go_at_call 40; refine (HKY.out _ hb1).mono ?_; rintro e w2 ⟨rfl, hb2⟩; have hb3 := hb1.trans (hb2.mono hb1.size); clear hb1 hb2) | (go_at_call 60; refine (dropC_any (HG.out _ hb3).1 p l t).mono ?_; rintro e w4 ⟨rfl, hc2, ht2⟩))
      have HN := (HG.out _ hb3).2 _ _ hc2 ht2
      rw [HK.out, some_step hlt2 (by rw [some_here hlt2]; exact HT.out)] at HN
      have HN2 := Lib.hid HN
      clear HN
      go_roundw
      case rel => exact ⟨k + 1, _, by omega, by go_num, HN2⟩
      case measure => simp [intOf]; omega
    · obtain rfl : k = 3 := by omega
      go_wp2
      go_end0
      obtain ⟨h1, h2⟩ := HL.out.out 0 rfl
      exact ⟨rfl, h1.alike (some_all _ _), h2⟩
end
end Go.Proofs.YtiihhlmddmicjaaDoor
/- The document's cache (dormerref10): find, without. -/
namespace Go.Proofs.YtiihhlmddmicjaaDoor
set_option linter.unusedVariables false
set_option linter.unusedSimpArgs false
open Go.ChangeShapes Go.WideShapes Go.ChangeAt Go.RowKit Go.Joins

theorem infoPair : (Tryd.prog.info? 141).map (fun i => (i.zero, i.size, i.bytes)) = some (some (.agg #[.int .i64 0, .int .i64 0, .int .u64 0, .int .u64 0, .bool false, .bool false, .bool false, .bool false, .int .u8 0]), 9, 40) := by kernel_rfl

/-- v owns the pairs M, in a block from B on -/
def PairsOwn (w : World) (B : Nat) (v : Value) (M : List Pr) : Prop := w.ownsRow B 141 9 v M.length (pcs M)

/-- the cells of a pair at an address -/
structure PairAt (w : World) (g o : Nat) (p q t f : Int) (x1 x2 x3 x4 : Bool) (m : Int) : Prop where
  k : w.cell? ⟨g, o, none⟩ = some (.int .i64 p) ∧ w.cell? ⟨g, o + 1, none⟩ = some (.int .i64 q) ∧ w.cell? ⟨g, o + 2, none⟩ = some (.int .u64 t)
  l : w.cell? ⟨g, o + 3, none⟩ = some (.int .u64 f) ∧ w.cell? ⟨g, o + 4, none⟩ = some (.bool x1) ∧ w.cell? ⟨g, o + 5, none⟩ = some (.bool x2) ∧ w.cell? ⟨g, o + 6, none⟩ = some (.bool x3) ∧ w.cell? ⟨g, o + 7, none⟩ = some (.bool x4) ∧ w.cell? ⟨g, o + 8, none⟩ = some (.int .u8 m)

section
variable {w w' : World} {B : Nat} {v : Value} {M : List Pr}
theorem PairsOwn.form (h : PairsOwn w B v M) : ∃ A c, v = .slice A M.length c := own_formC h
theorem PairsOwn.nil (w : World) (B : Nat) : PairsOwn w B (.slice none 0 0) [] := World.ownsRow_nil _ _ _ _
theorem PairsOwn.below (h : PairsOwn w B v M) (hb : Below w.heap.size w w') : PairsOwn w' B v M := own_below h hb
theorem PairsOwn.zero (h : PairsOwn w B v M) : PairsOwn w 0 v M := row_zero h
theorem PairsOwn.down {B' : Nat} (h : PairsOwn w B v M) (hB : B' ≤ B) : PairsOwn w B' v M := own_down h hB
theorem PairsOwn.lt (h : PairsOwn w B v M) {i : Nat} (hi : v.ownBlock = some i) : B ≤ i ∧ i < w.heap.size := World.ownsRow.lt h i hi
theorem PairsOwn.turn {F : Nat → Prop} (h : PairsOwn w B v M) (ht : Turn F w w') (hn : ∀ i, v.ownBlock = some i → ¬ F i) : PairsOwn w' B v M := own_turn h ht hn
theorem PairsOwn.at_ (h : PairsOwn w B v M) {k : Nat} (hk : k < M.length) {p q t f m : Int} {x1 x2 x3 x4 : Bool} (he : M.getD k zP = ((p, q, t), (f, x1, x2, x3, x4, m))) :
    ∃ g cap, v = .slice (some ⟨g, 0, none⟩) M.length cap ∧ PairAt w g (k * 9) p q t f x1 x2 x3 x4 m ∧ g < w.heap.size ∧ B ≤ g := by
  rcases h.2 with ⟨_, hn⟩ | ⟨g, cap, cur, rfl, _⟩
  · omega
  · have hc := World.ownsRow.cells h (g := g) rfl
    have e : ∀ j, j < 9 → (pcs M)[k * 9 + j]? = (pc (M.getD k zP))[j]? := fun j hj => flat_get pc_len M zP k j hk hj
    have e2 : ∀ j u, j < 9 → (pc (M.getD k zP))[j]? = some u → w.cell? ⟨g, k * 9 + j, none⟩ = some u := fun j u hj hu => by
      have := hc (k * 9 + j) u ((e j hj).trans hu)
      rwa [add2] at this
    rw [he] at e2
    exact ⟨g, cap, rfl, ⟨⟨e2 0 _ (by omega) rfl, e2 1 _ (by omega) rfl, e2 2 _ (by omega) rfl⟩, ⟨e2 3 _ (by omega) rfl, e2 4 _ (by omega) rfl, e2 5 _ (by omega) rfl, e2 6 _ (by omega) rfl, e2 7 _ (by omega) rfl, e2 8 _ (by omega) rfl⟩⟩, (h.lt (i := g) rfl).2, (h.lt (i := g) rfl).1⟩
theorem PairAt.below {g o : Nat} {p q t f m : Int} {x1 x2 x3 x4 : Bool} (h : PairAt w g o p q t f x1 x2 x3 x4 m) (hb : Below w.heap.size w w') : PairAt w' g o p q t f x1 x2 x3 x4 m := by
  have e : w'.heap[g]? = w.heap[g]? := hb.block g (World.block_lt_of_cell? _ _ h.k.1)
  have c : ∀ o, w'.cell? ⟨g, o, none⟩ = w.cell? ⟨g, o, none⟩ := fun o => World.cell?_of_block (a := ⟨g, o, none⟩) e
  exact ⟨by simpa only [c] using h.k, by simpa only [c] using h.l⟩
end

set_option maxRecDepth 100000 in
theorem eqlR (p q t p' q' t' : Int) (w : World) : (binOp .eql 108 (.agg #[.int .i64 p, .int .i64 q, .int .u64 t]) (.agg #[.int .i64 p', .int .i64 q', .int .u64 t'])).run Tryd.prog w = .ok (.bool (decide ((p, q, t) = (p', q', t')))) w := by
  have e : (binOp .eql 108 (.agg #[.int .i64 p, .int .i64 q, .int .u64 t]) (.agg #[.int .i64 p', .int .i64 q', .int .u64 t'])).run Tryd.prog w = .ok (.bool (p == p' && (q == q' && t == t'))) w := by
    have hs : Tryd.prog.stoodInHeld 108 = false := by kernel_rfl
    simp only [binOp]
    simp [Op.equal, Op.maxDepth, run_equalIn_struct w 9999 108 _ _ (by simp [Program.fieldsOf, Tryd.underlying108]) hs, Program.fieldsOf, Tryd.underlying108, Op.eqFields, go_sem]
    by_cases h1 : p = p' <;> by_cases h2 : q = q' <;> by_cases h3 : t = t' <;> simp [h1, h2, h3]
  rw [e]
  congr 2
  by_cases h1 : p = p' <;> by_cases h2 : q = q' <;> by_cases h3 : t = t' <;> simp [h1, h2, h3]

set_option maxRecDepth 100000 in
theorem rfind_any (w : World) (v : Value) (M : List Pr) (S p q t : Int) (h : PairsOwn w 0 v M) (hl : M.length ≤ 1000) :
    Calls Tryd.prog 74 #[.agg #[v, .int .i64 S], .agg #[.int .i64 p, .int .i64 q, .int .u64 t]] w fun e w' => e = .returned (.int .i64 (posF (idxF (keysK M) (p, q, t)))) ∧ Below w.heap.size w w' := by
  obtain ⟨A, cap, rfl⟩ := h.form
  obtain ⟨n, hn⟩ : ∃ n, M.length = n := ⟨_, rfl⟩
  rw [hn] at h hl ⊢
  have HO := Lib.hid h
  have HN := Lib.hid hn
  have H0 := Lib.hid (((Mine.start w).new (b := w.heap.size) rfl #[.slice A n cap, .int .i64 S] 28).new (b := w.heap.size + 1) (by simp) #[.int .i64 p, .int .i64 q, .int .u64 t] 108)
  clear h hn
  go_enter Tryd.func74, Tryd.ntmps74
  go_wp2
  generalize hw0 : (w.alloc _).alloc _ = w0
  have H1 := Lib.hid (H0.out.world hw0)
  clear hw0 H0
  go_loopw [5] (fun i wr => ∃ k : Nat, k ≤ n ∧ i = .int .i64 k ∧ Mine w wr [⟨w.heap.size + 1, #[.int .i64 p, .int .i64 q, .int .u64 t], 108⟩, ⟨w.heap.size, #[.slice A n cap, .int .i64 S], 28⟩] [] ∧ ∀ j, j < k → (keysK M).getD j zK ≠ (p, q, t)) (fun i _ => (n - intOf i).toNat)
  case atStart => exact ⟨0, by omega, rfl, H1.out, fun j hj => by omega⟩
  case round =>
    obtain ⟨k, hk, rfl, hM, hnot⟩ := hrel
    have HM := Lib.hid hM
    have HX := Lib.hid hnot
    clear hM hnot H1
    obtain ⟨a0, a1⟩ := (HM.out.at_ 1 rfl).c2
    by_cases hlt : k < n
    · obtain ⟨⟨⟨p', q', t'⟩, ⟨f', y1, y2, y3, y4, m'⟩⟩, hkk⟩ : ∃ x : Pr, M.getD k zP = x := ⟨_, rfl⟩
      obtain ⟨g, cap', e', hc, _, _⟩ := PairsOwn.at_ (PairsOwn.below HO.out HM.out.below) (k := k) (by rw [HN.out]; exact hlt) hkk
      rw [HN.out] at e'
      obtain ⟨rfl, rfl⟩ : A = some ⟨g, 0, none⟩ ∧ cap = cap' := by simpa using e'
      clear e'
      obtain ⟨c0, c1, c2⟩ := hc.k
      obtain ⟨b0, b1, b2⟩ := (HM.out.at_ 0 rfl).c3
      have HKK : Hid ((keysK M).getD k zK = (p', q', t')) := Lib.hid (by rw [keysK_getD, hkk])
      clear hkk hc
      by_cases he : (p', q', t') = (p, q, t)
      · have hq := fun w => (eqlR p' q' t' p q t w).trans (by rw [decide_eq_true he])
        go_wp2
        go_region
        go_wp2
        go_ret
        refine ⟨?_, (HM.out.quiet (Kept.drew0 _)).below⟩
        rw [idxF_some (i := k) (by rw [keysK_len, HN.out]; exact hlt) (HKK.out.trans he) HX.out]
        rfl
      · have hq := fun w => (eqlR p' q' t' p q t w).trans (by rw [decide_eq_false he])
        have HE := Lib.hid he
        clear he
        go_wp2
        go_region
        go_wp2
        go_roundw
        case rel =>
          refine ⟨k + 1, by omega, by go_num, HM.out.quiet (Kept.drew0 _), fun j hj => ?_⟩
          rcases Nat.lt_or_ge j k with h1 | h1
          · exact HX.out j h1
          · obtain rfl : j = k := by omega
            rw [HKK.out]
            exact HE.out
        case measure => simp [intOf]; omega
    · obtain rfl : k = n := by omega
      go_wp2
      go_ret
      refine ⟨?_, HM.out.below⟩
      rw [idxF_none (fun i hi => HX.out i (by rw [keysK_len, HN.out] at hi; exact hi))]
      rfl

theorem rpicked_any (a : Int) (n : Nat) (w : World) (ha : I64 a) (hn : 0 < n) (hl : n ≤ 1000000) :
    Calls Tryd.prog 90 #[.int .i64 a, .int .i64 n] w fun e w' => e = .returned (.int .i64 (pickF a n)) ∧ w = w' := by
  obtain ⟨h1, h2, h3⟩ := tmod_bd a hn
  obtain ⟨h4, h5⟩ := ha
  have HP := Lib.hid h1
  have hp := pickF_lt a hn
  have e0 : IntKind.i64.wrap (a.tmod n) = a.tmod n := by rw [IntKind.wrap_i64]; omega
  have e1 : IntKind.i64.wrap (a.tmod n + n) = a.tmod n + n := by rw [IntKind.wrap_i64]; omega
  have e3 : ¬ ((n : Int) = 0) := by omega
  have e4 : ¬ (n = 0) := by omega
  clear h1 h2 h3 h4 h5 hp
  go_enter Tryd.func90, Tryd.ntmps90
  go_wp2
  go_ret
  exact ⟨by rw [← HP.out]; rfl, rfl⟩
end Go.Proofs.YtiihhlmddmicjaaDoor
