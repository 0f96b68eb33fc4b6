/- Several texts of ours in one: Cj, Je, Er. -/
import Derived.Test.YtddbjbdhbeijjaaDoorGCgChCi
import Derived.Test.YtddbjbdhbeijjaaDoorGJdCeCf
import Derived.Test.YtddbjbdhbeijjaaDoorGEaEbGa
import Derived.Test.YtddbjbdhbeijjaaDoorGVaVrFr
/- Package cache: DropOf. -/
namespace Go.Proofs.YtddbjbdhbeijjaaDoor
set_option linter.unusedVariables false
set_option linter.unusedSimpArgs false
open Go.ChangeShapes Go.WideShapes Go.ChangeAt Go.RowKit Go.Joins

/-- of the first k lines those that aren't of p, and all others -/
def midK (L : List Pr) (k : Nat) (p : Int) : List Pr := ofK (L.take k) p ++ L.drop k
theorem midK_zero (L : List Pr) (p : Int) : midK L 0 p = L := by simp [midK, ofK]
theorem midK_all (L : List Pr) (p : Int) {n : Nat} (h : L.length = n) : midK L n p = ofK L p := by
  unfold midK
  rw [List.take_of_length_le (by omega), List.drop_of_length_le (by omega), List.append_nil]
theorem midK_step {L : List Pr} {k : Nat} (hk : k < L.length) (p : Int) : midK L (k + 1) p = (if (L.getD k zP).1.1 = p then ofK (L.take k) p else ofK (L.take k) p ++ [L.getD k zP]) ++ L.drop (k + 1) := by
  unfold midK
  have hg : L.getD k zP = L[k] := by rw [List.getD, List.getElem?_eq_getElem hk]; rfl
  rw [List.take_add_one, List.getElem?_eq_getElem hk, hg]
  unfold ofK
  rw [List.filter_append]
  by_cases e : L[k].1.1 = p
  · simp [e]
  · simp [e]
theorem midK_here {L : List Pr} {k : Nat} (hk : k < L.length) (p : Int) : midK L k p = ofK (L.take k) p ++ L.getD k zP :: L.drop (k + 1) := by
  unfold midK
  have hg : L.getD k zP = L[k] := by rw [List.getD, List.getElem?_eq_getElem hk]; rfl
  rw [hg, List.drop_eq_getElem_cons hk]
theorem midK_keep {L : List Pr} {k : Nat} (hk : k < L.length) {p : Int} (e : (L.getD k zP).1.1 ≠ p) : midK L (k + 1) p = midK L k p := by
  rw [midK_step hk, if_neg e, midK_here hk]
  simp
theorem idxF_middle (A B : List Ky) (k : Ky) (h : k ∉ A) : idxF (A ++ k :: B) k = some A.length := by
  refine idxF_some (by simp) (by simp [List.getD]) fun j hj e => h ?_
  rw [List.getD, List.getElem?_append_left hj, List.getElem?_eq_getElem hj] at e
  rw [← show A[j] = k from e]
  exact List.getElem_mem _
theorem midK_drop {L : List Pr} (hn : (keysK L).Nodup) {k : Nat} (hk : k < L.length) {p : Int} (e : (L.getD k zP).1.1 = p) : dropK (midK L k p) (L.getD k zP).1 = midK L (k + 1) p := by
  rw [midK_step hk, if_pos e, midK_here hk]
  have hnot : (L.getD k zP).1 ∉ keysK (ofK (L.take k) p) := fun h => by
    unfold keysK at h
    obtain ⟨x, hx, he⟩ := List.mem_map.1 h
    have hx2 := (List.mem_filter.1 hx).2
    simp at hx2
    rw [he] at hx2
    exact hx2 e
  unfold dropK cutO
  rw [keysK_append, show keysK (L.getD k zP :: L.drop (k + 1)) = (L.getD k zP).1 :: keysK (L.drop (k + 1)) from rfl, idxF_middle _ _ _ hnot, keysK_len]
  show (ofK (L.take k) p ++ L.getD k zP :: L.drop (k + 1)).eraseIdx (ofK (L.take k) p).length = _
  rw [List.eraseIdx_append_of_length_le (Nat.le_refl _), Nat.sub_self, List.eraseIdx_cons_zero]

section
variable {w : World} {F : Nat → Prop} {c R : Nat} {L : List Pr}
theorem dropOfC_nil (p : Int) (w : World) : Calls Tryd.prog 50 #[.pointer none, .int .i64 p] w fun e w' => e = .returned (.tuple #[]) ∧ w = w' := by
  go_enter Tryd.func50, Tryd.ntmps50
  go_wp2
  refine bodyPost_ret (results_none rfl _ _ _) rfl ?_
  exact ⟨rfl, rfl⟩

/-- DropOf, in its loop: the lines of the first k places are done; the order that it goes through is v -/
structure Dof (w wr : World) (F : Nat → Prop) (c R : Nat) (L : List Pr) (p : Int) (k : Nat) (v : Value) : Prop where
  law : ∃ G, LawC w wr F c R (midK L k p) G [] []
  ord : OrdIs wr v (keysK L)
theorem Dof.quiet {wr w3 : World} {p : Int} {k : Nat} {v : Value} (h : Dof w wr F c R L p k v) (hb : Below wr.heap.size wr w3) : Dof w w3 F c R L p k v := by
  obtain ⟨G, hL⟩ := h.law
  exact ⟨⟨G, hL.quiet hb⟩, (KeyKept.below hb).ord h.ord⟩
theorem Dof.cac {wr : World} {p : Int} {k : Nat} {v : Value} (h : Dof w wr F c R L p k v) : ∃ G, Cac wr G c R (midK L k p) ∧ ∀ w4 L', Cac w4 (Since G wr) c R L' → Turn G wr w4 → KeyKept wr w4 → L' = midK L (k + 1) p → Dof w w4 F c R L p (k + 1) v := by
  obtain ⟨G, hL⟩ := h.law
  refine ⟨G, hL.wk.cac, fun w4 L' hc ht hk e => ?_⟩
  subst e
  exact ⟨⟨_, hL.did hc ht⟩, hk.ord h.ord⟩

set_option maxRecDepth 100000 in
set_option maxHeartbeats 1600000 in
theorem dropOfC_any (h : Cac w F c R L) (p : Int) :
    Calls Tryd.prog 50 #[.pointer (some ⟨c, 0, none⟩), .int .i64 p] w fun e w' => e = .returned (.tuple #[]) ∧ Cac w' (Since F w) c R (ofK L p) ∧ Turn F w w' := by
  have hroom := h.room
  have hlen := h.len
  have HN := Lib.hid h.nodup
  have H0 := LawC.start h
  obtain ⟨mb, v, hC, _⟩ := h
  obtain ⟨d0, d1, d2, _⟩ := hC.cells
  have HD : Hid (Dof w w F c R L p 0 v) := Lib.hid ⟨⟨_, by rw [midK_zero]; exact H0⟩, hC.ord⟩
  obtain ⟨A, cap, rfl⟩ := hC.ord.form
  rw [keysK_len] at HD d2
  obtain ⟨n, hn⟩ : ∃ n, L.length = n := ⟨_, rfl⟩
  rw [hn] at HD d2 hlen
  have HL := Lib.hid hn
  clear hC H0 hn
  go_enter Tryd.func50, Tryd.ntmps50
  go_wp2
  go_loopw [13] (fun i wr => ∃ k : Nat, k ≤ n ∧ i = .int .i64 k ∧ Dof w wr F c R L p k (.slice A n cap)) (fun i _ => (n - intOf i).toNat)
  case atStart => exact ⟨0, by omega, rfl, HD.out⟩
  case round =>
    obtain ⟨k, hk, rfl, hR⟩ := hrel
    have HR := Lib.hid hR
    clear HD d0 d1 d2 hR
    by_cases hlt : k < n
    · obtain ⟨g, cap', e', c0, c1, c2⟩ := HR.out.ord.at_ (k := k) (by rw [keysK_len, HL.out]; exact hlt)
      rw [keysK_len, HL.out] at e'
      obtain ⟨rfl, rfl⟩ : A = some ⟨g, 0, none⟩ ∧ cap = cap' := by simpa using e'
      clear e'
      rw [keysK_getD] at c0 c1 c2
      obtain ⟨⟨p', q', t'⟩, hkk⟩ : ∃ x : Ky, (L.getD k zP).1 = x := ⟨_, rfl⟩
      rw [hkk] at c0 c1 c2
      have HKK := Lib.hid hkk
      clear hkk
      have hg : g < wr.heap.size := World.block_lt_of_cell? _ _ c0
      have HR1 := Lib.hid (HR.out.quiet (below_alloc1 wr (.cells #[.int .i64 p', .int .i64 q', .int .u64 t'] 88)))
      by_cases he : p' = p
      · subst he
        obtain ⟨G, hcac, hgo⟩ := HR1.out.cac
        have HC := Lib.hid hcac
        have HG := Lib.hid hgo
        clear hcac hgo
        go_wp2_with (go_at_call 48; refine (dropC_all HC.out p' q' t').mono ?_; rintro e w4 ⟨rfl, hc4, ht4, hk4⟩; have H4 := Lib.hid (HG.out w4 _ hc4 ht4 hk4 (by rw [← HKK.out]; exact midK_drop HN.out (by rw [HL.out]; exact hlt) (by rw [HKK.out]))); clear hc4 ht4 hk4)
        go_roundw
        case rel => exact ⟨k + 1, by omega, by go_num, H4.out⟩
        case measure => simp [intOf]; omega
      · have he2 : (p' == p) = false := by simpa using he
        have HM : Hid (midK L (k + 1) p = midK L k p) := Lib.hid (midK_keep (by rw [HL.out]; exact hlt) (by rw [HKK.out]; exact he))
        clear he
        go_wp2
        go_roundw
        case rel =>
          refine ⟨k + 1, by omega, by go_num, ?_⟩
          obtain ⟨G, hL⟩ := HR1.out.law
          exact ⟨⟨G, by rw [HM.out]; exact hL⟩, HR1.out.ord⟩
        case measure => simp [intOf]; omega
    · obtain rfl : k = n := by omega
      obtain ⟨G, hL⟩ := HR.out.law
      rw [midK_all L p HL.out] at hL
      have HE := Lib.hid hL.out
      clear hL
      go_wp2
      go_end0
      exact ⟨rfl, HE.out⟩
end
end Go.Proofs.YtddbjbdhbeijjaaDoor
/- Package psc: Len, Evict, Clear, DropOf, DropPage. -/
namespace Go.Proofs.YtddbjbdhbeijjaaDoor
set_option linter.unusedVariables false
set_option linter.unusedSimpArgs false
open Go.ChangeShapes Go.WideShapes Go.ChangeAt Go.RowKit Go.Joins

theorem shifts_kept {w w' : World} (hs : Shifts w) (hb : Below w.heap.size w w') : Shifts w' := shifts_under hs hb (size_shifts hs)

section
variable {w wr : World} {F G : Nat → Prop} {q R : Nat} {L L' : Ls} {os : List ObjT} {bs : List BoxD} {rs : List RowD} {k : Nat}

end
end Go.Proofs.YtddbjbdhbeijjaaDoor
/- Contracts of dormerref05: what each call of the document's own answer returns. -/
namespace Go.Proofs.YtddbjbdhbeijjaaDoor
set_option linter.unusedVariables false
set_option linter.unusedSimpArgs false
open Go.ChangeShapes Go.WideShapes Go.ChangeAt Go.RowKit Go.Joins

end Go.Proofs.YtddbjbdhbeijjaaDoor
