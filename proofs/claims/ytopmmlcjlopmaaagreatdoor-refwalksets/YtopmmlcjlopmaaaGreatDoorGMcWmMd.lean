/- Several texts of ours in one: Mc, Wm, Md. -/
import Derived.Test.YtopmmlcjlopmaaaGreatDoorGByWdMm
import Derived.Test.YtopmmlcjlopmaaaGreatDoorGVmRN
import Derived.WalkSpells
import Derived.Lib.SliceRun
import Derived.LoopTactic
import Derived.Lib.SmallJoins
/- Contracts of package mem, over a memory as it lies in the world. -/
namespace Go.Proofs.YtopmmlcjlopmaaaGreatDoor
set_option linter.unusedVariables false
set_option linter.unusedSimpArgs false
open Go.ChangeShapes Go.WideShapes Go.ChangeAt Go.RowKit
open Go.Maps (Keyed IsMap)

theorem law64 : Keyed Tryz.prog 23 := Maps.int_keyed Tryz.underlying23
theorem zeroPtr (w : World) : (zeroValue 108).run Tryz.prog w = .ok (.pointer none) w := by kernel_rfl
theorem wf64 {k : Int} (h : W64 k) : (Lit.int .u64 k).wf = true := by
  obtain ⟨h0, h1⟩ := h
  exact WalkArith.wf_u64 ⟨h0, by omega⟩
theorem key64 {k : Int} (h : W64 k) : keyOf Tryz.prog 23 (.int .u64 k) = some (.int .u64 k) := Maps.keyOf_int_mk Tryz.underlying23 (wf64 h)

section
variable {w : World} {m : Nat} {M : Int} {f : Int → Int} {tr : List Int} {n mb : Nat} {v : Value} {D : Dw}

theorem Mm.look_no (h : Mm w m M f tr n mb v D) {k : Int} (hw : W64 k) (hk : pageOf D k = .nil) :
    (Instr.lookup 105 (.map (some mb)) (.int .u64 k) false).run Tryz.prog w = .ok (.pointer none) w := by
  obtain ⟨v', ps, hrun, hv⟩ := h.pages.lookup law64 Tryz.underlying105 (zeroPtr w) (show ptrElem (.pointer none) = some (.nil, []) from rfl) (key64 hw)
  rw [show D.atKey (.int .u64 k) .nil = .nil from hk] at hv
  rw [hrun, ptrElem_nil hv]

theorem Mm.look_yes (h : Mm w m M f tr n mb v D) {k : Int} (hw : W64 k) {b : Nat} (hk : pageOf D k = .lit (.int .u64 b)) :
    (Instr.lookup 105 (.map (some mb)) (.int .u64 k) false).run Tryz.prog w = .ok (.pointer (some ⟨b, 0, none⟩)) w := by
  obtain ⟨v', ps, hrun, hv⟩ := h.pages.lookup law64 Tryz.underlying105 (zeroPtr w) (show ptrElem (.pointer none) = some (.nil, []) from rfl) (key64 hw)
  rw [show D.atKey (.int .u64 k) .nil = .lit (.int .u64 b) from hk] at hv
  rw [hrun, ptrElem_at hv]
end

/-- how many bytes a memory of M bits has -/
def sizeM (M : Int) : Int := 2 ^ M.toNat

theorem sizeM_bd {M : Int} (h : 14 ≤ M ∧ M ≤ 22) : 16384 ≤ sizeM M ∧ sizeM M ≤ 4194304 ∧ sizeM M % 4096 = 0 := by
  obtain ⟨h0, h1⟩ := h
  have : M = 14 ∨ M = 15 ∨ M = 16 ∨ M = 17 ∨ M = 18 ∨ M = 19 ∨ M = 20 ∨ M = 21 ∨ M = 22 := by omega
  rcases this with rfl | rfl | rfl | rfl | rfl | rfl | rfl | rfl | rfl <;> decide

theorem mm_new (w : World) (M : Int) (h : 14 ≤ M ∧ M ≤ 22) : Mm ((w.alloc (.map #[] 0)).alloc (.cells #[.int .i64 M, .map (some w.heap.size), .slice none 0 0] 107)) (w.heap.size + 1) M (fun _ => 0) [] 0 w.heap.size (.slice none 0 0) (.map []) := by
  have e1 : (w.alloc (.map #[] 0)).heap.size = w.heap.size + 1 := by simp
  refine ⟨h, ?_, (World.ownsMap_made w Tryz.prog 23 ptrElem).alloc _, fun k => Or.inl ⟨rfl, fun _ _ => rfl⟩, ?_, ?_, World.ownsRow_nil _ _ _ _, Nat.le_refl _, fun _ => ⟨by decide, by decide⟩⟩
  · have := Deep.blk_alloc_new (w.alloc (.map #[] 0)) (.cells #[.int .i64 M, .map (some w.heap.size), .slice none 0 0] 107)
    rwa [e1] at this
  · intro k k' b hb
    cases hb
  · intro kl hkl
    cases hkl

theorem newMem_any (M : Int) (w : World) (h : 14 ≤ M ∧ M ≤ 22) :
    Calls Tryz.prog 24 #[.int .i64 M] w fun e w' => e = .returned (.pointer (some ⟨w.heap.size + 1, 0, none⟩)) ∧ Mem w' (From w.heap.size) (w.heap.size + 1) M (fun _ => 0) [] 0 ∧ Below w.heap.size w w' := by
  have hN := Lib.hid (mm_new w M h)
  obtain ⟨h0, h1⟩ := h
  have hmm := @run_makeMap Tryz.prog
  go_enter Tryz.func24, Tryz.ntmps24
  go_wp2
  go_ret
  refine ⟨by simp, ⟨_, _, _, hN.out, ?_⟩, ((Below.refl _ w).alloc (Nat.le_refl _) _).alloc (by simp) _⟩
  rintro i (rfl | rfl | hv | ⟨k, hk⟩)
  · exact Nat.le_succ _
  · exact Nat.le_refl _
  · simp [Value.ownBlock] at hv
  · cases hk

set_option maxRecDepth 100000 in
theorem msize_any {w : World} {m : Nat} {M : Int} {f : Int → Int} {tr : List Int} {n mb : Nat} {v : Value} {D : Dw} (h : Mm w m M f tr n mb v D) :
    Calls Tryz.prog 96 #[.pointer (some ⟨m, 0, none⟩)] w fun e w' => e = .returned (.int .u64 (sizeM M)) ∧ w = w' := by
  obtain ⟨c0, c1, c2, _⟩ := h.cells
  obtain ⟨h0, h1⟩ := h.bits
  have : M = 14 ∨ M = 15 ∨ M = 16 ∨ M = 17 ∨ M = 18 ∨ M = 19 ∨ M = 20 ∨ M = 21 ∨ M = 22 := by omega
  have qM : ∀ (w : World) (r : Option Nat), (binOp .eql 105 (.map r) (.map none)).run Tryz.prog w = .ok (.bool r.isNone) w := fun w r => run_eql_map_nil w _ _ _ r Tryz.underlying105
  clear h c2
  rcases this with rfl | rfl | rfl | rfl | rfl | rfl | rfl | rfl | rfl
  all_goals
    go_enter Tryz.func96, Tryz.ntmps96
    go_wp2
    go_ret
    exact ⟨rfl, rfl⟩


/-- why there is no slot at a -/
def errS (M a : Int) : Int := if sizeM M ≤ a then 2 else if a % 8 = 0 then 0 else 3

theorem slotError_any {w : World} {m : Nat} {M : Int} {f : Int → Int} {tr : List Int} {n mb : Nat} {v : Value} {D : Dw} (h : Mm w m M f tr n mb v D) (a : Int) (ha : 0 ≤ a) :
    Calls Tryz.prog 50 #[.pointer (some ⟨m, 0, none⟩), .int .u64 a] w fun e w' => e = .returned (.int .i64 (errS M a)) ∧ w = w' := by
  by_cases h1 : sizeM M ≤ a
  · rw [show errS M a = 2 from if_pos h1]
    go_enter Tryz.func50, Tryz.ntmps50
    go_wp2_with (go_at_call 96; refine (msize_any h).mono ?_; rintro e w' ⟨rfl, rfl⟩)
    go_ret
    exact ⟨rfl, rfl⟩
  · by_cases h2 : a % 8 = 0
    · rw [show errS M a = 0 by unfold errS; rw [if_neg h1, if_pos h2]]
      have h1' : a < sizeM M := by omega
      clear h1
      go_enter Tryz.func50, Tryz.ntmps50
      go_wp2_with (go_at_call 96; refine (msize_any h).mono ?_; rintro e w' ⟨rfl, rfl⟩)
      go_ret
      exact ⟨rfl, rfl⟩
    · rw [show errS M a = 3 by unfold errS; rw [if_neg h1, if_neg h2]]
      have h1' : a < sizeM M := by omega
      clear h1
      go_enter Tryz.func50, Tryz.ntmps50
      go_wp2_with (go_at_call 96; refine (msize_any h).mono ?_; rintro e w' ⟨rfl, rfl⟩)
      go_ret
      exact ⟨rfl, rfl⟩

theorem wrap_in {a : Int} (h0 : 0 ≤ a) (h1 : a < 18446744073709551616) : IntKind.u64.wrap a = a := by
  show a % 18446744073709551616 = a
  omega

/-- an address's page k, and the place r of its slot there, as the program reckons them -/
structure Splits (a k q : Int) (r : Nat) : Prop where
  k0 : 0 ≤ k
  kw : W64 k
  r5 : r < 512
  slot : a / 8 = k * 512 + r
  page : a / 4096 = k
  t1 : a.tdiv 4096 = k
  t2 : IntKind.u64.wrap k = k
  t3 : a.tmod 4096 = q
  t4 : IntKind.u64.wrap q = q
  t5 : q.tdiv 8 = r
  t6 : IntKind.u64.wrap (r : Int) = r
  q0 : 0 ≤ q
  q1 : q < 4096

theorem addr_split {a : Int} (ha : W64 a) : ∃ (k q : Int) (r : Nat), Splits a k q r := by
  obtain ⟨h0, h1⟩ := ha
  refine ⟨a / 4096, a % 4096, (a % 4096 / 8).toNat, by omega, ⟨by omega, by omega⟩, by omega, by omega, rfl, Int.tdiv_eq_ediv_of_nonneg h0, wrap_in (by omega) (by omega), Int.tmod_eq_emod_of_nonneg h0, wrap_in (by omega) (by omega), ?_, wrap_in (by omega) (by omega), by omega, by omega⟩
  rw [Int.tdiv_eq_ediv_of_nonneg (by omega)]
  omega

set_option maxRecDepth 100000 in
theorem mread_any {w : World} {m : Nat} {M : Int} {f : Int → Int} {tr : List Int} {n mb : Nat} {v : Value} {D : Dw} (h : Mm w m M f tr n mb v D) (a : Int) (ha : W64 a) :
    Calls Tryz.prog 84 #[.pointer (some ⟨m, 0, none⟩), .int .u64 a] w fun e w' => e = .returned (.int .u64 (f (a / 8))) ∧ w = w' := by
  obtain ⟨k, q, r, k0, hkw, hr5, hs, hk, t1, t2, t3, t4, t5, t6, q0, q1⟩ := addr_split ha
  obtain ⟨c0, c1, c2, _⟩ := h.cells
  rw [hs]
  have a0 := ha.1
  clear hs
  rcases h.page k with ⟨hn, hz⟩ | ⟨b, hb, hrow⟩
  · have hl := h.look_no hkw hn
    rw [hz r hr5]
    clear h c0 c2 hz ha hkw
    go_enter Tryz.func84, Tryz.ntmps84
    go_wp2
    go_ret
    exact ⟨rfl, rfl⟩
  · have hl := h.look_yes hkw hb
    have hc := hrow.cell hr5
    clear h c0 c2 hrow ha hkw
    go_enter Tryz.func84, Tryz.ntmps84
    go_wp2
    go_ret
    exact ⟨rfl, rfl⟩

theorem own_put_page {m mb : Nat} {v : Value} {D : Dw} (hD : IsMap D) {k : Int} {B : Nat} {i : Nat} (h : Own m mb v (D.put (.int .u64 k) (.lit (.int .u64 B))) i) : Own m mb v D i ∨ i = B := by
  rcases h with h | h | h | ⟨k', hk⟩
  · exact Or.inl (Or.inl h)
  · exact Or.inl (Or.inr (Or.inl h))
  · exact Or.inl (Or.inr (Or.inr (Or.inl h)))
  · by_cases e : k' = k
    · subst e
      rw [pageOf_same hD] at hk
      simp at hk
      right; omega
    · rw [pageOf_other e] at hk
      exact Or.inl (Or.inr (Or.inr (Or.inr ⟨k', hk⟩)))

set_option maxRecDepth 100000 in
theorem mwrite_any {w : World} {F : Nat → Prop} {m : Nat} {M : Int} {f : Int → Int} {tr : List Int} {n : Nat} (h : Mem w F m M f tr n) (hn : n < 1000000) (a x : Int) (ha : W64 a) (ha1 : a < sizeM M) (hx : W64 x) :
    Calls Tryz.prog 51 #[.pointer (some ⟨m, 0, none⟩), .int .u64 a, .int .u64 x] w fun e w' => e = .returned (.tuple #[]) ∧ Mem w' (Since F w) m M (updF f (a / 8) x) tr (n + 1) ∧ Turn F w w' := by
  obtain ⟨mb, v, D, h, hF⟩ := h
  obtain ⟨k, q, r, k0, hkw, hr5, hs, hk, t1, t2, t3, t4, t5, t6, q0, q1⟩ := addr_split ha
  obtain ⟨s0, s1, s2⟩ := sizeM_bd h.bits
  have hk1 : k * 4096 < sizeM M := by omega
  obtain ⟨c0, c1, c2, _⟩ := h.cells
  rw [hs]
  have HK := Lib.hid hk1
  have HX := Lib.hid hx
  clear hs hk1 hx s0 s1 s2 ha1 ha
  rcases h.page k with ⟨hn', hz⟩ | ⟨b, hb, hrow⟩
  · have hl := h.look_no hkw hn'
    have hkey := Lib.hid (key64 hkw)
    have HH := Lib.hid h
    have HN := Lib.hid hn'
    have hlt := Lib.hid (h.own_lt (i := m) (Or.inl rfl))
    have c1' : (w.alloc (.cells Tryz.zeroCells110 110)).cell? ⟨m, 1, none⟩ = some (.map (some mb)) := by
      rw [← c1]; exact World.cell?_of_block (Below.heap_alloc _ _ _ hlt.out)
    clear h hz hkw hn' c0 c2
    go_enter Tryz.func51, Tryz.ntmps51
    go_wp2_with (at_mapUpdate; refine wpList_mapUpdate_own _ rfl _ _ _ 105 rfl 23 108 law64 Tryz.underlying105 ptrElem mb n D rfl (World.ownsMap.alloc HH.out.pages _) (by unfold maxLen; omega) _ _ _ rfl rfl hkey.out _ [] (ptrElem_mk _) ?_; intro w1 hown1 hgrow1; have hp1 := Lib.hid (HH.out.made HN.out k0 HK.out hown1 hgrow1); have hq1 := Lib.hid (pageOf_same HH.out.pages.isMap k (.lit (.int .u64 w.heap.size))); have hT1 := Lib.hid hgrow1; clear hown1 hgrow1; have hrow' := hp1.out.page_row hq1.out; have hcell := hrow'.cell hr5; have hfz := hrow'.frozen r; clear hrow')
    go_end0
    refine ⟨rfl, ⟨mb, v, _, hp1.out.put hq1.out hr5 HX.out, fun i hi => ?_⟩, ?_⟩
    · rcases own_put_page HH.out.pages.isMap hi with hi | rfl
      · exact Or.inl (hF i hi)
      · exact Or.inr (Nat.le_refl _)
    · exact ((Turn.alloc F w _).trans (Turn.grown hT1.out (fun i hi => by cases hi; exact Or.inl (hF mb (Or.inr (Or.inl rfl)))))).trans (Turn.setCell _ _ _ _ (Or.inr (Nat.le_refl _)))
  · have hl := h.look_yes hkw hb
    have hc := hrow.cell hr5
    have hfz := hrow.frozen r
    have HH := Lib.hid h
    have HB := Lib.hid hb
    clear h c0 c2 hrow hkw hb
    go_enter Tryz.func51, Tryz.ntmps51
    go_wp2
    go_end0
    exact ⟨rfl, ⟨mb, v, D, (HH.out.put HB.out hr5 HX.out).more (Nat.le_succ _), fun i hi => Or.inl (hF i hi)⟩, Turn.setCell _ _ _ _ (hF b (Or.inr (Or.inr (Or.inr ⟨k, HB.out⟩))))⟩

end Go.Proofs.YtopmmlcjlopmaaaGreatDoor
/- Contracts of package word: the calls that make or read memory. -/
namespace Go.Proofs.YtopmmlcjlopmaaaGreatDoor
set_option linter.unusedVariables false
set_option linter.unusedSimpArgs false
open Go.ChangeShapes Go.WideShapes Go.ChangeAt Go.RowKit Go.Joins

/-- block g holds the cells cs, of bytes, none frozen -/
def Row8 (w : World) (g : Nat) (cs : Array Value) : Prop := w.heap[g]? = some (.cells cs 5 (0, 0))

end Go.Proofs.YtopmmlcjlopmaaaGreatDoor
/- Contracts of package mem: its calls. -/
namespace Go.Proofs.YtopmmlcjlopmaaaGreatDoor
set_option linter.unusedVariables false
set_option linter.unusedSimpArgs false
open Go.ChangeShapes Go.WideShapes Go.ChangeAt Go.RowKit Go.Joins
open Go.Maps (Keyed IsMap)

def peekV (M : Int) (f : Int → Int) (a : Int) : Int := if errS M a = 0 then f (a / 8) else 0
def storeS (M : Int) (f : Int → Int) (a x : Int) : Int → Int := if errS M a = 0 then updF f (a / 8) x else f
def loadT (M : Int) (tr : List Int) (a : Int) : List Int := if errS M a = 0 then tr ++ [a] else tr

theorem errS_in {M a : Int} (h : errS M a = 0) : a < sizeM M ∧ a % 8 = 0 := by
  unfold errS at h
  by_cases h1 : sizeM M ≤ a
  · rw [if_pos h1] at h; omega
  · rw [if_neg h1] at h
    by_cases h2 : a % 8 = 0
    · exact ⟨by omega, h2⟩
    · rw [if_neg h2] at h; omega

theorem Mem.mono {w : World} {F G : Nat → Prop} {m : Nat} {M : Int} {f : Int → Int} {tr : List Int} {n : Nat} (h : Mem w F m M f tr n) (hG : ∀ i, F i → G i) : Mem w G m M f tr n := by
  obtain ⟨mb, v, D, h, hF⟩ := h
  exact ⟨mb, v, D, h, fun i hi => hG i (hF i hi)⟩
theorem Mem.more {w : World} {F : Nat → Prop} {m : Nat} {M : Int} {f : Int → Int} {tr : List Int} {n n' : Nat} (h : Mem w F m M f tr n) (hn : n ≤ n') : Mem w F m M f tr n' := by
  obtain ⟨mb, v, D, h, hF⟩ := h
  exact ⟨mb, v, D, h.more hn, hF⟩
theorem Mem.bits {w : World} {F : Nat → Prop} {m : Nat} {M : Int} {f : Int → Int} {tr : List Int} {n : Nat} (h : Mem w F m M f tr n) : 14 ≤ M ∧ M ≤ 22 := by
  obtain ⟨mb, v, D, h, hF⟩ := h
  exact h.bits
theorem Mem.words {w : World} {F : Nat → Prop} {m : Nat} {M : Int} {f : Int → Int} {tr : List Int} {n : Nat} (h : Mem w F m M f tr n) (s : Int) : W64 (f s) := by
  obtain ⟨mb, v, D, h, hF⟩ := h
  exact h.words s
theorem Mem.turned {w w' : World} {F G : Nat → Prop} {m : Nat} {M : Int} {f : Int → Int} {tr : List Int} {n : Nat} (h : Mem w F m M f tr n) (ht : Turn G w w') (ha : ∀ i, i < w.heap.size → F i → ¬ G i) : Mem w' F m M f tr n := by
  obtain ⟨mb, v, D, h, hF⟩ := h
  exact ⟨mb, v, D, h.same (fun i hi => ht.block i (h.own_lt hi) (ha i (h.own_lt hi) (hF i hi))), hF⟩
theorem Mem.kept {w w' : World} {F : Nat → Prop} {m : Nat} {M : Int} {f : Int → Int} {tr : List Int} {n : Nat} (h : Mem w F m M f tr n) (ht : Below w.heap.size w w') : Mem w' F m M f tr n :=
  h.turned (Turn.of_kept (fun _ => False) ht) (fun _ _ _ h => h)

section
variable {w : World} {F : Nat → Prop} {m : Nat} {M : Int} {f : Int → Int} {tr : List Int} {n : Nat}

theorem mpeek_any (h : Mem w F m M f tr n) (a : Int) (ha : W64 a) :
    Calls Tryz.prog 38 #[.pointer (some ⟨m, 0, none⟩), .int .u64 a] w fun e w' => e = .returned (.tuple #[.int .u64 (peekV M f a), .int .i64 (errS M a)]) ∧ w = w' := by
  obtain ⟨mb, v, D, h, hF⟩ := h
  by_cases h1 : errS M a = 0
  · rw [show peekV M f a = f (a / 8) from if_pos h1, h1]
    go_enter Tryz.func38, Tryz.ntmps38
    go_wp2_with (first | (go_at_call 50; refine (slotError_any h _ ha.1).mono ?_; rintro e w' ⟨rfl, rfl⟩) | (go_at_call 84; refine (mread_any h _ ha).mono ?_; rintro e w' ⟨rfl, rfl⟩))
    go_ret2
    exact ⟨rfl, rfl⟩
  · rw [show peekV M f a = 0 from if_neg h1]
    go_enter Tryz.func38, Tryz.ntmps38
    go_wp2_with (first | (go_at_call 50; refine (slotError_any h _ ha.1).mono ?_; rintro e w' ⟨rfl, rfl⟩) | (go_at_call 84; refine (mread_any h _ ha).mono ?_; rintro e w' ⟨rfl, rfl⟩))
    go_ret2
    exact ⟨rfl, rfl⟩

theorem mstore_any (h : Mem w F m M f tr n) (hn : n < 1000000) (a x : Int) (ha : W64 a) (hx : W64 x) :
    Calls Tryz.prog 26 #[.pointer (some ⟨m, 0, none⟩), .int .u64 a, .int .u64 x] w fun e w' => e = .returned (.int .i64 (errS M a)) ∧ Mem w' (Since F w) m M (storeS M f a x) tr (n + 1) ∧ Turn F w w' := by
  have HM := h
  obtain ⟨mb, v, D, h, hF⟩ := h
  by_cases h1 : errS M a = 0
  · rw [show storeS M f a x = updF f (a / 8) x from if_pos h1, h1]
    have h2 := (errS_in h1).1
    go_enter Tryz.func26, Tryz.ntmps26
    go_wp2_with (first | (go_at_call 50; refine (slotError_any h _ ha.1).mono ?_; rintro e w' ⟨rfl, rfl⟩) | (go_at_call 51; refine (mwrite_any HM hn _ _ ha h2 hx).mono ?_; rintro e w' ⟨rfl, hM', hT'⟩))
    go_ret
    exact ⟨rfl, by assumption, by assumption⟩
  · rw [show storeS M f a x = f from if_neg h1]
    go_enter Tryz.func26, Tryz.ntmps26
    go_wp2_with (first | (go_at_call 50; refine (slotError_any h _ ha.1).mono ?_; rintro e w' ⟨rfl, rfl⟩) | (go_at_call 51; fail))
    go_ret
    exact ⟨rfl, (HM.mono (fun i hi => Or.inl hi)).more (Nat.le_succ _), Turn.refl _ _⟩

theorem mbits_any (h : Mem w F m M f tr n) :
    Calls Tryz.prog 58 #[.pointer (some ⟨m, 0, none⟩)] w fun e w' => e = .returned (.int .i64 M) ∧ w = w' := by
  obtain ⟨mb, v, D, h, hF⟩ := h
  obtain ⟨c0, c1, c2, _⟩ := h.cells
  go_enter Tryz.func58, Tryz.ntmps58
  go_wp2
  go_ret
  exact ⟨rfl, rfl⟩

theorem info64 : (Tryz.prog.info? 23).map (fun i => (i.zero, i.size, i.bytes)) = some (some (.int .u64 0), 1, 8) := by kernel_rfl

/-- the trace grows by one -/
theorem Mm.noted {w w1 : World} {m : Nat} {M : Int} {f : Int → Int} {tr : List Int} {n mb : Nat} {v v' : Value} {D : Dw} (h : Mm w m M f tr n mb v D) {a : Int} {t : TypeId} (hn : v'.ownBlock = v.ownBlock ∨ v'.ownBlock = some (w.heap.size + 1))
    (hg : (w.alloc (.cells #[.int .u64 a] t)).grownBy w1 v.ownBlock) (ho : w1.ownsRow 0 23 1 v' (tr.length + 1) (tr.map (Value.int .u64) ++ [.int .u64 a])) :
    Mm (w1.setCell ⟨m, 2, none⟩ v') m M f (tr ++ [a]) (n + 1) mb v' D ∧ (∀ i, Own m mb v' D i → Own m mb v D i ∨ w.heap.size ≤ i) ∧ w1.cell? ⟨m, 2, none⟩ = some v ∧ w1.frozen? ⟨m, 2, none⟩ = false := by
  have hlt := h.own_lt (i := m) (Or.inl rfl)
  obtain ⟨a1, a2, a3⟩ := h.apart
  have hs := hg.size
  have e1 : (w.alloc (.cells #[.int .u64 a] t)).heap.size = w.heap.size + 1 := by simp
  rw [e1] at hs
  have keep : ∀ i, i < w.heap.size → v.ownBlock ≠ some i → w1.heap[i]? = w.heap[i]? := fun i hi hne =>
    (hg.block i (by omega) (fun e => hne e.symm)).trans (Below.heap_alloc _ _ _ hi)
  have hm1 := (keep m hlt a2).trans h.here
  refine ⟨?_, ?_, ?_, ?_⟩
  · refine (h.more (Nat.le_succ n)).retrace (by have := h.few; simp; omega) (by simp [World.setCell]; omega) (fun i hi hne hv => (Below.heap_setCell _ _ _ _ hne).trans (keep i hi hv)) ?_ ?_
    · simp [World.setCell, Array.getElem?_modify, hm1]
    · have hne : v'.ownBlock ≠ some m := by
        rcases hn with e | e
        · rw [e]; exact a2
        · rw [e]; intro e2; simp at e2; omega
      have := ownsRow_setCell_other (a := ⟨m, 2, none⟩) ho hne v'
      simpa using this
  · rintro i (rfl | rfl | hv | hk)
    · exact Or.inl (Or.inl rfl)
    · exact Or.inl (Or.inr (Or.inl rfl))
    · rcases hn with e | e
      · exact Or.inl (Or.inr (Or.inr (Or.inl (e ▸ hv))))
      · rw [e] at hv; simp at hv; right; omega
    · exact Or.inl (Or.inr (Or.inr (Or.inr hk)))
  · simp [World.cell?, hm1]
  · simp [World.frozen?, hm1]

set_option maxRecDepth 100000 in
theorem mload_any (h : Mem w F m M f tr n) (hn : n < 1000000) (a : Int) (ha : W64 a) :
    Calls Tryz.prog 56 #[.pointer (some ⟨m, 0, none⟩), .int .u64 a] w fun e w' => e = .returned (.tuple #[.int .u64 (peekV M f a), .int .i64 (errS M a)]) ∧ Mem w' (Since F w) m M f (loadT M tr a) (n + 1) ∧ Turn F w w' := by
  by_cases h1 : errS M a = 0
  · rw [show loadT M tr a = tr ++ [a] from if_pos h1]
    have HM := Lib.hid h
    obtain ⟨i0, hi, hz0, hz1, hz2⟩ := info_parts info64
    have hpk := fun w' => mpeek_any (w := w') (F := F) (m := m) (M := M) (f := f) (tr := tr) (n := n)
    rw [h1]
    obtain ⟨mb, v, D, h, hF⟩ := h
    obtain ⟨c0, c1, c2, _⟩ := h.cells
    have HH := Lib.hid h
    have hfew := h.few
    have c2' : ∀ o, (w.alloc o).cell? ⟨m, 2, none⟩ = some v := fun o => by
      rw [← c2]; exact World.cell?_of_block (Below.heap_alloc _ _ _ (h.own_lt (i := m) (Or.inl rfl)))
    clear h c0 c1 
    go_enter Tryz.func56, Tryz.ntmps56
    go_wp2_with (first | (go_at_call 38; refine (hpk _ HM.out _ ha).mono ?_; rw [h1]; rintro e w' ⟨rfl, rfl⟩) | (at_builtin; refine wpList_append_own_at _ rfl _ _ 43 rfl 0 23 i0 (.int .u64 0) 1 8 Tryz.underlying43 hi hz0 hz1 hz2 rfl (by decide) v tr.length (tr.map (Value.int .u64)) rfl (World.ownsRow.alloc HH.out.trace _) ⟨w.heap.size, 0, none⟩ 1 1 [.int .u64 a] rfl rfl (cell_one_new _ _ _) (ints_oneCell .u64 [a]) (by unfold maxLen; omega) (by omega) (by simp) ?_; intro v' w1 hown' hgrow hnil hloc; have HN := Lib.hid (HH.out.noted (by simpa using hloc) hgrow hown'); obtain ⟨hc1, hf1⟩ := HN.out.2.2; obtain ⟨g, cap, rfl⟩ := ownsRow_form hown' (by omega); have HG := Lib.hid hgrow; clear hgrow hown' hnil hloc))
    go_ret2
    exact ⟨rfl, ⟨mb, _, D, HN.out.1, fun i hi => (HN.out.2.1 i hi).imp (hF i) id⟩, ((Turn.alloc F w _).trans (Turn.grown HG.out (fun i hi => Or.inl (hF i (Or.inr (Or.inr (Or.inl hi))))))).trans (Turn.setCell _ _ _ _ (Or.inl (hF m (Or.inl rfl))))⟩
  · rw [show loadT M tr a = tr from if_neg h1]
    go_enter Tryz.func56, Tryz.ntmps56
    go_wp2_with (go_at_call 38; refine (mpeek_any h _ ha).mono ?_; rintro e w' ⟨rfl, rfl⟩)
    go_ret2
    exact ⟨rfl, (h.mono (fun i hi => Or.inl hi)).more (Nat.le_succ _), Turn.refl _ _⟩

theorem clone_any (w : World) (v : Value) (xs : List Int) (hv : w.ownsRow 0 23 1 v xs.length (xs.map (Value.int .u64))) (hx : xs.length < 1000000) :
    Calls Tryz.prog 46 #[v] w fun e w' => ∃ v', e = .returned v' ∧ w'.ownsRow w.heap.size 23 1 v' xs.length (xs.map (Value.int .u64)) ∧ Below w.heap.size w w' := by
  have qS : ∀ (w : World) (a : Option Addr) (n c n' c' : Nat), (binOp .eql 43 (.slice a n c) (.slice none n' c')).run Tryz.prog w = .ok (.bool a.isNone) w := fun w a n c n' c' => Lib.run_eql_slice_nil w _ _ a n c n' c' Tryz.underlying43
  rcases hv.2 with ⟨rfl, hn⟩ | ⟨g, cap, cur, rfl, _, hg, h1, h2, h3, h4⟩
  · go_enter Tryz.func46, Tryz.ntmps46
    go_wp2
    go_ret
    have e : xs = [] := List.length_eq_zero_iff.1 hn
    subst e
    exact ⟨_, rfl, World.ownsRow_nil _ _ _ _, Below.refl _ _⟩
  · obtain ⟨i0, hi, hz0, hz1, hz2⟩ := info_parts info64
    have hlt := Lib.hid (lt_of_block hg)
    have HC := Lib.hid hv
    clear hg hv h4
    go_enter Tryz.func46, Tryz.ntmps46
    go_wp2_with (at_builtin; refine wpList_append_own_at _ rfl _ _ 43 rfl w.heap.size 23 i0 (.int .u64 0) 1 8 Tryz.underlying43 hi hz0 hz1 hz2 rfl (by decide) _ 0 [] rfl (World.ownsRow_made w #[] 0 (Nat.le_refl _) (Nat.zero_le _) rfl) ⟨g, 0, none⟩ xs.length cap (xs.map (Value.int .u64)) rfl (by simp) (fun j u hj => (HC.out.alloc _).cells rfl j u hj) (ints_oneCell .u64 xs) (by unfold maxLen; omega) (by omega) (by simp) ?_; intro v' w1 hown' hgrow hnil hloc; have HO := Lib.hid hown'; have HG := Lib.hid hgrow; clear hgrow hown' hnil hloc)
    go_ret
    refine ⟨_, rfl, by simpa using HO.out, ((Below.refl _ w).alloc (Nat.le_refl _) _).grown HG.out (by simp) (fun k hk => ?_)⟩
    have e : w.heap.size = k := Option.some.inj hk
    omega

theorem mtrace_any (h : Mem w F m M f tr n) (hn : n < 1000000) :
    Calls Tryz.prog 20 #[.pointer (some ⟨m, 0, none⟩)] w fun e w' => ∃ v', e = .returned v' ∧ w'.ownsRow w.heap.size 23 1 v' tr.length (tr.map (Value.int .u64)) ∧ Below w.heap.size w w' := by
  obtain ⟨mb, v, D, h, hF⟩ := h
  obtain ⟨c0, c1, c2, c3⟩ := h.cells
  have HH := Lib.hid h.trace
  have hfew := h.few
  clear h c0 c1
  go_enter Tryz.func20, Tryz.ntmps20
  go_wp2_with (go_at_call 46; refine (clone_any _ _ tr HH.out (by omega)).mono ?_; rintro e w' ⟨v', rfl, hO, hB⟩)
  go_ret
  exact ⟨_, rfl, by assumption, by assumption⟩

end

end Go.Proofs.YtopmmlcjlopmaaaGreatDoor
