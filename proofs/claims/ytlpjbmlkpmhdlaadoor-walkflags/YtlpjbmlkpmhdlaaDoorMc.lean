/- Contracts of package mem, over a memory as it lies in the world. -/
import Derived.Test.YtlpjbmlkpmhdlaaDoorMm
import Derived.Test.YtlpjbmlkpmhdlaaDoorN
import Derived.WalkSpells
import Derived.Lib.SliceRun
namespace Go.Proofs.YtlpjbmlkpmhdlaaDoor
set_option linter.unusedVariables false
set_option linter.unusedSimpArgs false
open Go.ChangeShapes Go.WideShapes Go.ChangeAt Go.RowKit
open Go.Maps (Keyed IsMap)

theorem law64 : Keyed Tryd.prog 23 := Maps.int_keyed Tryd.underlying23
theorem zeroPtr (w : World) : (zeroValue 111).run Tryd.prog w = .ok (.pointer none) w := by kernel_rfl
theorem wf64 {k : Int} (h : W64 k) : (Lit.int .u64 k).wf = true := by
  obtain ⟨h0, h1⟩ := h
  exact WalkArith.wf_u64 ⟨h0, by omega⟩
theorem key64 {k : Int} (h : W64 k) : keyOf Tryd.prog 23 (.int .u64 k) = some (.int .u64 k) := Maps.keyOf_int_mk Tryd.underlying23 (wf64 h)

section
variable {w : World} {m : Nat} {M : Int} {f : Int → Int} {tr : List Int} {n mb : Nat} {v : Value} {D : Dw}

theorem Mm.look_no (h : Mm w m M f tr n mb v D) {k : Int} (hw : W64 k) (hk : pageOf D k = .nil) :
    (Instr.lookup 108 (.map (some mb)) (.int .u64 k) false).run Tryd.prog w = .ok (.pointer none) w := by
  obtain ⟨v', ps, hrun, hv⟩ := h.pages.lookup law64 Tryd.underlying108 (zeroPtr w) (show ptrElem (.pointer none) = some (.nil, []) from rfl) (key64 hw)
  rw [show D.atKey (.int .u64 k) .nil = .nil from hk] at hv
  rw [hrun, ptrElem_nil hv]

theorem Mm.look_yes (h : Mm w m M f tr n mb v D) {k : Int} (hw : W64 k) {b : Nat} (hk : pageOf D k = .lit (.int .u64 b)) :
    (Instr.lookup 108 (.map (some mb)) (.int .u64 k) false).run Tryd.prog w = .ok (.pointer (some ⟨b, 0, none⟩)) w := by
  obtain ⟨v', ps, hrun, hv⟩ := h.pages.lookup law64 Tryd.underlying108 (zeroPtr w) (show ptrElem (.pointer none) = some (.nil, []) from rfl) (key64 hw)
  rw [show D.atKey (.int .u64 k) .nil = .lit (.int .u64 b) from hk] at hv
  rw [hrun, ptrElem_at hv]
end

/-- how many bytes a memory of M bits has -/
def sizeM (M : Int) : Int := 2 ^ M.toNat

theorem sizeM_bd {M : Int} (h : 14 ≤ M ∧ M ≤ 22) : 16384 ≤ sizeM M ∧ sizeM M ≤ 4194304 ∧ sizeM M % 4096 = 0 := by
  obtain ⟨h0, h1⟩ := h
  have : M = 14 ∨ M = 15 ∨ M = 16 ∨ M = 17 ∨ M = 18 ∨ M = 19 ∨ M = 20 ∨ M = 21 ∨ M = 22 := by omega
  rcases this with rfl | rfl | rfl | rfl | rfl | rfl | rfl | rfl | rfl <;> decide

theorem newMem_no (M : Int) (w : World) (h : M < 14 ∨ 22 < M) :
    Calls Tryd.prog 32 #[.int .i64 M] w fun e w' => e = .returned (.pointer none) ∧ w = w' := by
  by_cases h0 : M < 14
  · go_enter Tryd.func32, Tryd.ntmps32
    go_wp2
    go_ret
    exact ⟨rfl, rfl⟩
  · have h1 : 22 < M := by omega
    go_enter Tryd.func32, Tryd.ntmps32
    go_wp2
    go_ret
    exact ⟨rfl, rfl⟩

theorem mm_new (w : World) (M : Int) (h : 14 ≤ M ∧ M ≤ 22) : Mm ((w.alloc (.map #[] 0)).alloc (.cells #[.int .i64 M, .map (some w.heap.size), .slice none 0 0] 110)) (w.heap.size + 1) M (fun _ => 0) [] 0 w.heap.size (.slice none 0 0) (.map []) := by
  have e1 : (w.alloc (.map #[] 0)).heap.size = w.heap.size + 1 := by simp
  refine ⟨h, ?_, (World.ownsMap_made w Tryd.prog 23 ptrElem).alloc _, fun k => Or.inl ⟨rfl, fun _ _ => rfl⟩, ?_, ?_, World.ownsRow_nil _ _ _ _, Nat.le_refl _, fun _ => ⟨by decide, by decide⟩⟩
  · have := Deep.blk_alloc_new (w.alloc (.map #[] 0)) (.cells #[.int .i64 M, .map (some w.heap.size), .slice none 0 0] 110)
    rwa [e1] at this
  · intro k k' b hb
    cases hb
  · intro kl hkl
    cases hkl

theorem newMem_any (M : Int) (w : World) (h : 14 ≤ M ∧ M ≤ 22) :
    Calls Tryd.prog 32 #[.int .i64 M] w fun e w' => e = .returned (.pointer (some ⟨w.heap.size + 1, 0, none⟩)) ∧ Mem w' (From w.heap.size) (w.heap.size + 1) M (fun _ => 0) [] 0 ∧ Below w.heap.size w w' := by
  have hN := Lib.hid (mm_new w M h)
  obtain ⟨h0, h1⟩ := h
  have hmm := @run_makeMap Tryd.prog
  go_enter Tryd.func32, Tryd.ntmps32
  go_wp2
  go_ret
  refine ⟨by simp, ⟨_, _, _, hN.out, ?_⟩, ((Below.refl _ w).alloc (Nat.le_refl _) _).alloc (by simp) _⟩
  rintro i (rfl | rfl | hv | ⟨k, hk⟩)
  · exact Nat.le_succ _
  · exact Nat.le_refl _
  · simp [Value.ownBlock] at hv
  · cases hk

theorem msize_nil (w : World) : Calls Tryd.prog 76 #[.pointer none] w fun e w' => e = .returned (.int .u64 0) ∧ w = w' := by
  go_enter Tryd.func76, Tryd.ntmps76
  go_wp2
  go_ret
  exact ⟨rfl, rfl⟩

set_option maxRecDepth 100000 in
theorem msize_any {w : World} {m : Nat} {M : Int} {f : Int → Int} {tr : List Int} {n mb : Nat} {v : Value} {D : Dw} (h : Mm w m M f tr n mb v D) :
    Calls Tryd.prog 76 #[.pointer (some ⟨m, 0, none⟩)] w fun e w' => e = .returned (.int .u64 (sizeM M)) ∧ w = w' := by
  obtain ⟨c0, c1, c2, _⟩ := h.cells
  obtain ⟨h0, h1⟩ := h.bits
  have : M = 14 ∨ M = 15 ∨ M = 16 ∨ M = 17 ∨ M = 18 ∨ M = 19 ∨ M = 20 ∨ M = 21 ∨ M = 22 := by omega
  have qM : ∀ (w : World) (r : Option Nat), (binOp .eql 108 (.map r) (.map none)).run Tryd.prog w = .ok (.bool r.isNone) w := fun w r => run_eql_map_nil w _ _ _ r Tryd.underlying108
  clear h c2
  rcases this with rfl | rfl | rfl | rfl | rfl | rfl | rfl | rfl | rfl
  all_goals
    go_enter Tryd.func76, Tryd.ntmps76
    go_wp2
    go_ret
    exact ⟨rfl, rfl⟩


/-- why there is no slot at a -/
def errS (M a : Int) : Int := if sizeM M ≤ a then 2 else if a % 8 = 0 then 0 else 3

theorem slotError_nil (a : Int) (w : World) (ha : 0 ≤ a) : Calls Tryd.prog 57 #[.pointer none, .int .u64 a] w fun e w' => e = .returned (.int .i64 2) ∧ w = w' := by
  go_enter Tryd.func57, Tryd.ntmps57
  go_wp2_with (go_at_call 76; refine (msize_nil _).mono ?_; rintro e w' ⟨rfl, rfl⟩)
  go_ret
  exact ⟨rfl, rfl⟩

theorem slotError_any {w : World} {m : Nat} {M : Int} {f : Int → Int} {tr : List Int} {n mb : Nat} {v : Value} {D : Dw} (h : Mm w m M f tr n mb v D) (a : Int) (ha : 0 ≤ a) :
    Calls Tryd.prog 57 #[.pointer (some ⟨m, 0, none⟩), .int .u64 a] w fun e w' => e = .returned (.int .i64 (errS M a)) ∧ w = w' := by
  by_cases h1 : sizeM M ≤ a
  · rw [show errS M a = 2 from if_pos h1]
    go_enter Tryd.func57, Tryd.ntmps57
    go_wp2_with (go_at_call 76; refine (msize_any h).mono ?_; rintro e w' ⟨rfl, rfl⟩)
    go_ret
    exact ⟨rfl, rfl⟩
  · by_cases h2 : a % 8 = 0
    · rw [show errS M a = 0 by unfold errS; rw [if_neg h1, if_pos h2]]
      have h1' : a < sizeM M := by omega
      clear h1
      go_enter Tryd.func57, Tryd.ntmps57
      go_wp2_with (go_at_call 76; refine (msize_any h).mono ?_; rintro e w' ⟨rfl, rfl⟩)
      go_ret
      exact ⟨rfl, rfl⟩
    · rw [show errS M a = 3 by unfold errS; rw [if_neg h1, if_neg h2]]
      have h1' : a < sizeM M := by omega
      clear h1
      go_enter Tryd.func57, Tryd.ntmps57
      go_wp2_with (go_at_call 76; refine (msize_any h).mono ?_; rintro e w' ⟨rfl, rfl⟩)
      go_ret
      exact ⟨rfl, rfl⟩

theorem wrap_in {a : Int} (h0 : 0 ≤ a) (h1 : a < 18446744073709551616) : IntKind.u64.wrap a = a := by
  show a % 18446744073709551616 = a
  omega

/-- an address's page k, and the place r of its slot there, as the program reckons them -/
structure Splits (a k q : Int) (r : Nat) : Prop where
  k0 : 0 ≤ k
  kw : W64 k
  r5 : r < 512
  slot : a / 8 = k * 512 + r
  page : a / 4096 = k
  t1 : a.tdiv 4096 = k
  t2 : IntKind.u64.wrap k = k
  t3 : a.tmod 4096 = q
  t4 : IntKind.u64.wrap q = q
  t5 : q.tdiv 8 = r
  t6 : IntKind.u64.wrap (r : Int) = r
  q0 : 0 ≤ q
  q1 : q < 4096

theorem addr_split {a : Int} (ha : W64 a) : ∃ (k q : Int) (r : Nat), Splits a k q r := by
  obtain ⟨h0, h1⟩ := ha
  refine ⟨a / 4096, a % 4096, (a % 4096 / 8).toNat, by omega, ⟨by omega, by omega⟩, by omega, by omega, rfl, Int.tdiv_eq_ediv_of_nonneg h0, wrap_in (by omega) (by omega), Int.tmod_eq_emod_of_nonneg h0, wrap_in (by omega) (by omega), ?_, wrap_in (by omega) (by omega), by omega, by omega⟩
  rw [Int.tdiv_eq_ediv_of_nonneg (by omega)]
  omega

set_option maxRecDepth 100000 in
theorem mread_any {w : World} {m : Nat} {M : Int} {f : Int → Int} {tr : List Int} {n mb : Nat} {v : Value} {D : Dw} (h : Mm w m M f tr n mb v D) (a : Int) (ha : W64 a) :
    Calls Tryd.prog 58 #[.pointer (some ⟨m, 0, none⟩), .int .u64 a] w fun e w' => e = .returned (.int .u64 (f (a / 8))) ∧ w = w' := by
  obtain ⟨k, q, r, k0, hkw, hr5, hs, hk, t1, t2, t3, t4, t5, t6, q0, q1⟩ := addr_split ha
  obtain ⟨c0, c1, c2, _⟩ := h.cells
  rw [hs]
  have a0 := ha.1
  clear hs
  rcases h.page k with ⟨hn, hz⟩ | ⟨b, hb, hrow⟩
  · have hl := h.look_no hkw hn
    rw [hz r hr5]
    clear h c0 c2 hz ha hkw
    go_enter Tryd.func58, Tryd.ntmps58
    go_wp2
    go_ret
    exact ⟨rfl, rfl⟩
  · have hl := h.look_yes hkw hb
    have hc := hrow.cell hr5
    clear h c0 c2 hrow ha hkw
    go_enter Tryd.func58, Tryd.ntmps58
    go_wp2
    go_ret
    exact ⟨rfl, rfl⟩

theorem own_put_page {m mb : Nat} {v : Value} {D : Dw} (hD : IsMap D) {k : Int} {B : Nat} {i : Nat} (h : Own m mb v (D.put (.int .u64 k) (.lit (.int .u64 B))) i) : Own m mb v D i ∨ i = B := by
  rcases h with h | h | h | ⟨k', hk⟩
  · exact Or.inl (Or.inl h)
  · exact Or.inl (Or.inr (Or.inl h))
  · exact Or.inl (Or.inr (Or.inr (Or.inl h)))
  · by_cases e : k' = k
    · subst e
      rw [pageOf_same hD] at hk
      simp at hk
      right; omega
    · rw [pageOf_other e] at hk
      exact Or.inl (Or.inr (Or.inr (Or.inr ⟨k', hk⟩)))

set_option maxRecDepth 100000 in
theorem mwrite_any {w : World} {F : Nat → Prop} {m : Nat} {M : Int} {f : Int → Int} {tr : List Int} {n : Nat} (h : Mem w F m M f tr n) (hn : n < 1000000) (a x : Int) (ha : W64 a) (ha1 : a < sizeM M) (hx : W64 x) :
    Calls Tryd.prog 59 #[.pointer (some ⟨m, 0, none⟩), .int .u64 a, .int .u64 x] w fun e w' => e = .returned (.tuple #[]) ∧ Mem w' (Since F w) m M (updF f (a / 8) x) tr (n + 1) ∧ Turn F w w' := by
  obtain ⟨mb, v, D, h, hF⟩ := h
  obtain ⟨k, q, r, k0, hkw, hr5, hs, hk, t1, t2, t3, t4, t5, t6, q0, q1⟩ := addr_split ha
  obtain ⟨s0, s1, s2⟩ := sizeM_bd h.bits
  have hk1 : k * 4096 < sizeM M := by omega
  obtain ⟨c0, c1, c2, _⟩ := h.cells
  rw [hs]
  have HK := Lib.hid hk1
  have HX := Lib.hid hx
  clear hs hk1 hx s0 s1 s2 ha1 ha
  rcases h.page k with ⟨hn', hz⟩ | ⟨b, hb, hrow⟩
  · have hl := h.look_no hkw hn'
    have hkey := Lib.hid (key64 hkw)
    have HH := Lib.hid h
    have HN := Lib.hid hn'
    have hlt := Lib.hid (h.own_lt (i := m) (Or.inl rfl))
    have c1' : (w.alloc (.cells Tryd.zeroCells113 113)).cell? ⟨m, 1, none⟩ = some (.map (some mb)) := by
      rw [← c1]; exact World.cell?_of_block (Below.heap_alloc _ _ _ hlt.out)
    clear h hz hkw hn' c0 c2
    go_enter Tryd.func59, Tryd.ntmps59
    go_wp2_with (at_mapUpdate; refine wpList_mapUpdate_own _ rfl _ _ _ 108 rfl 23 111 law64 Tryd.underlying108 ptrElem mb n D rfl (World.ownsMap.alloc HH.out.pages _) (by unfold maxLen; omega) _ _ _ rfl rfl hkey.out _ [] (ptrElem_mk _) ?_; intro w1 hown1 hgrow1; have hp1 := Lib.hid (HH.out.made HN.out k0 HK.out hown1 hgrow1); have hq1 := Lib.hid (pageOf_same HH.out.pages.isMap k (.lit (.int .u64 w.heap.size))); have hT1 := Lib.hid hgrow1; clear hown1 hgrow1; have hrow' := hp1.out.page_row hq1.out; have hcell := hrow'.cell hr5; have hfz := hrow'.frozen r; clear hrow')
    go_end0
    refine ⟨rfl, ⟨mb, v, _, hp1.out.put hq1.out hr5 HX.out, fun i hi => ?_⟩, ?_⟩
    · rcases own_put_page HH.out.pages.isMap hi with hi | rfl
      · exact Or.inl (hF i hi)
      · exact Or.inr (Nat.le_refl _)
    · exact ((Turn.alloc F w _).trans (Turn.grown hT1.out (fun i hi => by cases hi; exact Or.inl (hF mb (Or.inr (Or.inl rfl)))))).trans (Turn.setCell _ _ _ _ (Or.inr (Nat.le_refl _)))
  · have hl := h.look_yes hkw hb
    have hc := hrow.cell hr5
    have hfz := hrow.frozen r
    have HH := Lib.hid h
    have HB := Lib.hid hb
    clear h c0 c2 hrow hkw hb
    go_enter Tryd.func59, Tryd.ntmps59
    go_wp2
    go_end0
    exact ⟨rfl, ⟨mb, v, D, (HH.out.put HB.out hr5 HX.out).more (Nat.le_succ _), fun i hi => Or.inl (hF i hi)⟩, Turn.setCell _ _ _ _ (hF b (Or.inr (Or.inr (Or.inr ⟨k, HB.out⟩))))⟩

end Go.Proofs.YtlpjbmlkpmhdlaaDoor
