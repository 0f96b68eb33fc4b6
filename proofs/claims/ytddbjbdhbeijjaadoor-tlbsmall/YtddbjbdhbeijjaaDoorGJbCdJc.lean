/- Several texts of ours in one: Jb, Cd, Jc. -/
import Derived.Test.YtddbjbdhbeijjaaDoorGMmCaNa
import Derived.Test.YtddbjbdhbeijjaaDoorGJaHmHn
import Derived.Test.YtddbjbdhbeijjaaDoorGCcHdSm
import Derived.Deep.Cut
import Derived.Deep.RegionHeld3
import Derived.Deep.RegionLaw
import Derived.Lib.SmallJoins
import Derived.Test.YtddbjbdhbeijjaaDoorGHeHfHg
import Derived.BigQuiet
/- Layer 11: what lies over an address: tags, keys, and what is filled, found and dropped. Nothing of the program. -/
namespace Go.Proofs.YtddbjbdhbeijjaaDoor
set_option linter.unusedVariables false
set_option linter.unusedSimpArgs false

/-- three caches' lines: of the levels 4, 3 and 2 -/
abbrev Ls := Nat → List Pr
end Go.Proofs.YtddbjbdhbeijjaaDoor
/- Contracts of package cache: New, Room, picked, Get. -/
namespace Go.Proofs.YtddbjbdhbeijjaaDoor
set_option linter.unusedVariables false
set_option linter.unusedSimpArgs false
open Go.ChangeShapes Go.WideShapes Go.ChangeAt Go.RowKit Go.Joins

section
variable {w : World} {b : Nat} {t : TypeId}
theorem Blk.cell {cs : Array Value} (h : Blk w b cs t) (i : Nat) {v : Value} (hv : cs[i]? = some v) : w.cell? ⟨b, i, none⟩ = some v := by
  unfold Blk at h; simp [World.cell?, h, hv]
theorem Blk.c2 {x0 x1 : Value} (h : Blk w b #[x0, x1] t) : w.cell? ⟨b, 0, none⟩ = some x0 ∧ w.cell? ⟨b, 1, none⟩ = some x1 := ⟨h.cell 0 rfl, h.cell 1 rfl⟩
theorem Blk.c3 {x0 x1 x2 : Value} (h : Blk w b #[x0, x1, x2] t) : w.cell? ⟨b, 0, none⟩ = some x0 ∧ w.cell? ⟨b, 1, none⟩ = some x1 ∧ w.cell? ⟨b, 2, none⟩ = some x2 := ⟨h.cell 0 rfl, h.cell 1 rfl, h.cell 2 rfl⟩
theorem Blk.c6 {x0 x1 x2 x3 x4 x5 : Value} (h : Blk w b #[x0, x1, x2, x3, x4, x5] t) : w.cell? ⟨b, 0, none⟩ = some x0 ∧ w.cell? ⟨b, 1, none⟩ = some x1 ∧ w.cell? ⟨b, 2, none⟩ = some x2 ∧ w.cell? ⟨b, 3, none⟩ = some x3 ∧ w.cell? ⟨b, 4, none⟩ = some x4 ∧ w.cell? ⟨b, 5, none⟩ = some x5 :=
  ⟨h.cell 0 rfl, h.cell 1 rfl, h.cell 2 rfl, h.cell 3 rfl, h.cell 4 rfl, h.cell 5 rfl⟩
theorem Blk.c9 {x0 x1 x2 x3 x4 x5 x6 x7 x8 : Value} (h : Blk w b #[x0, x1, x2, x3, x4, x5, x6, x7, x8] t) : w.cell? ⟨b, 0, none⟩ = some x0 ∧ w.cell? ⟨b, 1, none⟩ = some x1 ∧ w.cell? ⟨b, 2, none⟩ = some x2 ∧ w.cell? ⟨b, 3, none⟩ = some x3 ∧ w.cell? ⟨b, 4, none⟩ = some x4 ∧ w.cell? ⟨b, 5, none⟩ = some x5 ∧ w.cell? ⟨b, 6, none⟩ = some x6 ∧ w.cell? ⟨b, 7, none⟩ = some x7 ∧ w.cell? ⟨b, 8, none⟩ = some x8 :=
  ⟨h.cell 0 rfl, h.cell 1 rfl, h.cell 2 rfl, h.cell 3 rfl, h.cell 4 rfl, h.cell 5 rfl, h.cell 6 rfl, h.cell 7 rfl, h.cell 8 rfl⟩
theorem Blk.c11 {x0 x1 x2 x3 x4 x5 x6 x7 x8 x9 x10 : Value} (h : Blk w b #[x0, x1, x2, x3, x4, x5, x6, x7, x8, x9, x10] t) : w.cell? ⟨b, 0, none⟩ = some x0 ∧ w.cell? ⟨b, 1, none⟩ = some x1 ∧ w.cell? ⟨b, 2, none⟩ = some x2 ∧ w.cell? ⟨b, 3, none⟩ = some x3 ∧ w.cell? ⟨b, 4, none⟩ = some x4 ∧ w.cell? ⟨b, 5, none⟩ = some x5 ∧ w.cell? ⟨b, 6, none⟩ = some x6 ∧ w.cell? ⟨b, 7, none⟩ = some x7 ∧ w.cell? ⟨b, 8, none⟩ = some x8 ∧ w.cell? ⟨b, 9, none⟩ = some x9 ∧ w.cell? ⟨b, 10, none⟩ = some x10 :=
  ⟨h.cell 0 rfl, h.cell 1 rfl, h.cell 2 rfl, h.cell 3 rfl, h.cell 4 rfl, h.cell 5 rfl, h.cell 6 rfl, h.cell 7 rfl, h.cell 8 rfl, h.cell 9 rfl, h.cell 10 rfl⟩
end

/-- for how many there is room -/
def roomF (z : Int) : Nat := if z < 0 then 0 else if z ≤ 64 then z.toNat else 64
theorem roomF_le (z : Int) : roomF z ≤ 64 := by unfold roomF; split; (· omega); split <;> omega

theorem cch_new (w : World) (R : Nat) (h : R ≤ 64) : Cch ((w.alloc (.map #[] 0)).alloc (.cells #[.int .i64 R, .map (some w.heap.size), .slice none 0 0] 94)) (w.heap.size + 1) R [] w.heap.size (.slice none 0 0) := by
  have e1 : (w.alloc (.map #[] 0)).heap.size = w.heap.size + 1 := by simp
  refine ⟨?_, ?_, Or.inl ⟨rfl, rfl⟩, by simp [keysK], by simp [keysK], by simp, h⟩
  · have := Deep.blk_alloc_new (w.alloc (.map #[] 0)) (.cells #[.int .i64 R, .map (some w.heap.size), .slice none 0 0] 94)
    rwa [e1] at this
  · exact (MapAt.made w).same (Deep.blk_alloc_lt _ _ _ (by simp))

theorem newC_any (z : Int) (w : World) :
    Calls Tryd.prog 29 #[.int .i64 z] w fun e w' => e = .returned (.pointer (some ⟨w.heap.size + 1, 0, none⟩)) ∧ Cac w' (From w.heap.size) (w.heap.size + 1) (roomF z) [] ∧ Below w.heap.size w w' := by
  have hN := fun R h => cch_new w R h
  have fin : ∀ R : Nat, R ≤ 64 → Cac ((w.alloc (.map #[] 0)).alloc (.cells #[.int .i64 R, .map (some w.heap.size), .slice none 0 0] 94)) (From w.heap.size) (w.heap.size + 1) R [] := fun R h => by
    refine ⟨_, _, hN R h, ?_⟩
    rintro i (rfl | rfl | hv)
    · exact Nat.le_succ _
    · exact Nat.le_refl _
    · simp [Value.ownBlock] at hv
  have HF := Lib.hid fin
  clear hN fin
  have hmm := @run_makeMap Tryd.prog
  by_cases h0 : z < 0
  · have h1 : ¬ (0 < z) := by omega
    have HR : Hid (roomF z = 0) := Lib.hid (by unfold roomF; rw [if_pos h0])
    go_enter Tryd.func29, Tryd.ntmps29
    go_wp2
    go_ret
    rw [HR.out]
    exact ⟨by simp, HF.out 0 (by omega), ((Below.refl _ w).alloc (Nat.le_refl _) _).alloc (by simp) _⟩
  · have h1 : 0 ≤ z := by omega
    by_cases h2 : z ≤ 64
    · obtain ⟨n, rfl⟩ : ∃ n : Nat, z = n := ⟨z.toNat, by omega⟩
      have HR : Hid (roomF n = n) := Lib.hid (by unfold roomF; rw [if_neg h0, if_pos h2]; omega)
      have h3 : n ≤ 64 := by omega
      go_enter Tryd.func29, Tryd.ntmps29
      go_wp2
      go_ret
      rw [HR.out]
      exact ⟨by simp, HF.out n h3, ((Below.refl _ w).alloc (Nat.le_refl _) _).alloc (by simp) _⟩
    · have HR : Hid (roomF z = 64) := Lib.hid (by unfold roomF; rw [if_neg h0, if_neg h2])
      have h3 : 64 < z := by omega
      go_enter Tryd.func29, Tryd.ntmps29
      go_wp2
      go_ret
      rw [HR.out]
      exact ⟨by simp, HF.out 64 (by omega), ((Below.refl _ w).alloc (Nat.le_refl _) _).alloc (by simp) _⟩

section
variable {w : World} {F : Nat → Prop} {c R : Nat} {L : List Pr}
end

theorem tmod_bd (a : Int) {n : Nat} (h : 0 < n) : (a.tmod n + n).tmod n = (pickF a n : Int) ∧ -(n : Int) < a.tmod n ∧ a.tmod n < n := by
  have h1 := Int.emod_nonneg a (b := (n : Int)) (by omega)
  have h2 := Int.emod_lt_of_pos a (b := (n : Int)) (by omega)
  have h3 := Int.tmod_lt_of_pos a (b := (n : Int)) (by omega)
  have h4 : -(n : Int) < a.tmod n := by
    have := Int.tmod_lt_of_pos (-a) (b := (n : Int)) (by omega)
    rw [Int.neg_tmod] at this
    omega
  refine ⟨?_, h4, h3⟩
  unfold pickF
  rw [Int.tmod_eq_emod_of_nonneg (by omega)]
  have : (a.tmod n + n) % (n : Int) = a % n := by
    rw [Int.add_emod_right, Int.tmod_eq_emod]
    split
    · simp
    · simp
  rw [this]
  omega

theorem pickedC_any (a : Int) (n : Nat) (w : World) (ha : I64 a) (hn : 0 < n) (hl : n ≤ 1000000) :
    Calls Tryd.prog 70 #[.int .i64 a, .int .i64 n] w fun e w' => e = .returned (.int .i64 (pickF a n)) ∧ w = w' := by
  obtain ⟨h1, h2, h3⟩ := tmod_bd a hn
  obtain ⟨h4, h5⟩ := ha
  have HP := Lib.hid h1
  have hp := pickF_lt a hn
  have e0 : IntKind.i64.wrap (a.tmod n) = a.tmod n := by rw [IntKind.wrap_i64]; omega
  have e1 : IntKind.i64.wrap (a.tmod n + n) = a.tmod n + n := by rw [IntKind.wrap_i64]; omega
  have e3 : ¬ ((n : Int) = 0) := by omega
  have e4 : ¬ (n = 0) := by omega
  clear h1 h2 h3 h4 h5 hp
  go_enter Tryd.func70, Tryd.ntmps70
  go_wp2
  go_ret
  exact ⟨by rw [← HP.out]; rfl, rfl⟩

set_option maxRecDepth 100000 in
theorem getC_nil (p q t : Int) (w : World) :
    Calls Tryd.prog 65 #[.pointer none, .agg #[.int .i64 p, .int .i64 q, .int .u64 t]] w fun e w' => e = .returned (.tuple #[.agg #[.int .u64 0, .bool false, .bool false, .bool false, .bool false, .int .u8 0], .bool false]) ∧ Below w.heap.size w w' := by
  go_enter Tryd.func65, Tryd.ntmps65
  go_wp2
  refine bodyPost_ret (v := .tuple #[.agg #[.int .u64 0, .bool false, .bool false, .bool false, .bool false, .int .u8 0], .bool false]) ?_ rfl ⟨rfl, ((Below.refl _ w).alloc (Nat.le_refl _) _).alloc (by simp) _⟩
  rw [results_cell_tmp rfl]; go_simp

section
variable {w : World} {F : Nat → Prop} {c R : Nat} {L : List Pr}
set_option maxRecDepth 100000 in
theorem getC_any (h : Cac w F c R L) (p q t f m : Int) (x1 x2 x3 x4 : Bool) (hk : OkK (p, q, t)) (hl : (getK L (p, q, t)).getD zL = (f, x1, x2, x3, x4, m)) (is : Bool) (his : (getK L (p, q, t)).isSome = is) :
    Calls Tryd.prog 65 #[.pointer (some ⟨c, 0, none⟩), .agg #[.int .i64 p, .int .i64 q, .int .u64 t]] w fun e w' => e = .returned (.tuple #[.agg #[.int .u64 f, .bool x1, .bool x2, .bool x3, .bool x4, .int .u8 m], .bool is]) ∧ Below w.heap.size w w' := by
  obtain ⟨mb, v, h, _⟩ := h
  have HC := Lib.hid h
  have HQ : Hid (∀ w', Below w.heap.size w w' → (Instr.lookup 92 (.map (some mb)) (.agg #[.int .i64 p, .int .i64 q, .int .u64 t]) true).run Tryd.prog w' = .ok (.tuple #[.agg #[.int .u64 f, .bool x1, .bool x2, .bool x3, .bool x4, .int .u8 m], .bool is]) w') := Lib.hid fun w' hb => by
    have := (h.map.same (hb.block _ h.map.lt)).look hk
    rw [hl, his] at this
    exact this
  have H0 := Lib.hid (((Mine.start w).new rfl #[.int .i64 p, .int .i64 q, .int .u64 t] 88).new rfl #[.int .u64 0, .bool false, .bool false, .bool false, .bool false, .int .u8 0] 35)
  clear h hl his hk
  go_enter Tryd.func65, Tryd.ntmps65
  go_upto_region 3 with fail
  generalize hw0 : (w.alloc _).alloc _ = w0
  have H1 := Lib.hid (H0.out.world hw0)
  clear hw0 H0
  obtain ⟨p0, p1, p2⟩ := (H1.out.at_ 1 rfl).c3
  obtain ⟨d0, d1, d2, _⟩ := (HC.out.same fun i hi => H1.out.below.block i (HC.out.own_lt hi)).cells
  have hlt := (H1.out.at_ 1 rfl).lt
  have hlc : c < w0.heap.size := World.block_lt_of_cell? _ _ d0
  have q1 := HQ.out w0.drew (below_drewN H1.out.below 1)
  have q2 := fun o => HQ.out (w0.alloc o).drew (below_drewN (H1.out.below.alloc H1.out.size o) 1)
  go_region
  generalize hw1 : (w0.alloc _).drew = w1
  have H2 := Lib.hid (((H1.out.new rfl #[.int .u64 f, .bool x1, .bool x2, .bool x3, .bool x4, .int .u8 m] 35).quiet (Kept.drew0 _)).world hw1)
  clear hw1 H1 p0 p1 p2 d0 d1 d2 hlt hlc q1 q2
  obtain ⟨r0, r1, r2, r3, r4, r5⟩ := (H2.out.at_ 0 rfl).c6
  obtain ⟨s0, s1, s2, s3, s4, s5⟩ := (H2.out.at_ 1 rfl).c6
  have g0 := (H2.out.at_ 1 rfl).fz 0; have g1 := (H2.out.at_ 1 rfl).fz 1; have g2 := (H2.out.at_ 1 rfl).fz 2; have g3 := (H2.out.at_ 1 rfl).fz 3; have g4 := (H2.out.at_ 1 rfl).fz 4; have g5 := (H2.out.at_ 1 rfl).fz 5
  have e1 : (w.alloc (.cells #[.int .i64 p, .int .i64 q, .int .u64 t] 88)).heap.size = w.heap.size + 1 := by simp
  rw [e1] at s0 s1 s2 s3 s4 s5 g0 g1 g2 g3 g4 g5
  go_wp2
  refine bodyPost_ret (v := .tuple #[.agg #[.int .u64 f, .bool x1, .bool x2, .bool x3, .bool x4, .int .u8 m], .bool is]) ?_ rfl ⟨rfl, ?_⟩
  · rw [results_cell_tmp rfl]; go_simp
  · have H3 := H2.out.put6 1 rfl (y0 := .int .u64 f) (y1 := .bool x1) (y2 := .bool x2) (y3 := .bool x3) (y4 := .bool x4) (y5 := .int .u8 m) rfl
    rw [e1] at H3
    exact H3.below
end
end Go.Proofs.YtddbjbdhbeijjaaDoor
/- Package psc: what it is in the world; contracts of isKept, place, of, number, keyOf, leads. -/
namespace Go.Proofs.YtddbjbdhbeijjaaDoor
set_option linter.unusedVariables false
set_option linter.unusedSimpArgs false
open Go.ChangeShapes Go.WideShapes Go.ChangeAt Go.RowKit Go.Joins

abbrev ptrV (c : Nat) : Value := .pointer (some ⟨c, 0, none⟩)
section
variable {w w' : World} {G G' : Nat → Prop} {q R : Nat} {L : Ls} {c : Nat → Nat} {H : Nat → Nat → Prop} {k : Nat} {M : List Pr}

end

end Go.Proofs.YtddbjbdhbeijjaaDoor
