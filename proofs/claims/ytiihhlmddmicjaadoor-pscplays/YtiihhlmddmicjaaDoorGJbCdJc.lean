/- Several texts of ours in one: Jb, Cd, Jc. -/
import Derived.Test.YtiihhlmddmicjaaDoorGWdMmCa
import Derived.Test.YtiihhlmddmicjaaDoorGJaHmHn
import Derived.Test.YtiihhlmddmicjaaDoorGRjBxCc
import Derived.Deep.Cut
import Derived.Deep.RegionHeld3
import Derived.Deep.RegionLaw
import Derived.Lib.SmallJoins
import Derived.Test.YtiihhlmddmicjaaDoorGHeHfHg
import Derived.BigQuiet
/- Layer 11: what lies over an address: tags, keys, and what is filled, found and dropped. Nothing of the program. -/
namespace Go.Proofs.YtiihhlmddmicjaaDoor
set_option linter.unusedVariables false
set_option linter.unusedSimpArgs false

/-- the number of the places from a level on -/
def tagF (a l : Int) : Int := if l = 4 then a % 281474976710656 / 549755813888 else if l = 3 then a % 281474976710656 / 1073741824 else a % 281474976710656 / 2097152
def kyF (p a l : Int) : Ky := (p, l, tagF a l)
theorem tag_bd (a l : Int) : 0 ≤ tagF a l ∧ tagF a l < 134217728 := by unfold tagF; split; (· omega); split <;> omega
theorem tag_w (a l : Int) : W64 (tagF a l) := by have := tag_bd a l; unfold W64; omega
theorem tag4 (a : Int) : tagF a 4 = indexF a 4 := by unfold tagF indexF; simp; omega
theorem tag3 (a : Int) : tagF a 3 = indexF a 4 * 512 + indexF a 3 := by unfold tagF indexF; simp; omega
theorem tag2 (a : Int) : tagF a 2 = (indexF a 4 * 512 + indexF a 3) * 512 + indexF a 2 := by unfold tagF indexF; simp; omega
/-- three caches' lines: of the levels 4, 3 and 2 -/
abbrev Ls := Nat → List Pr
def noL : Ls := fun _ => []
def updL (L : Ls) (k : Nat) (M : List Pr) : Ls := fun j => if j = k then M else L j
theorem updL_same (L : Ls) (k : Nat) (M : List Pr) : updL L k M k = M := if_pos rfl
theorem updL_ne (L : Ls) {k j : Nat} (M : List Pr) (h : j ≠ k) : updL L k M j = L j := if_neg h
def kOf (l : Int) : Nat := (4 - l).toNat
theorem kOf_lt {l : Int} (h2 : 2 ≤ l) (h4 : l ≤ 4) : kOf l < 3 ∧ ((kOf l : Nat) : Int) = 4 - l := by unfold kOf; omega

/-- whether an entry names a table, of a level that is kept -/
def leadF (l x : Int) : Bool := bitF x 0 && (!leafF x l && (decide (2 ≤ l) && decide (l ≤ 4)))

abbrev Stp := Int × Int × Int
/-- what a walk's steps fill -/
def fillK (R : Nat) (p a : Int) (pk : Nat → Int) : List Stp → Bool → Bool → Bool → Ls → Ls
  | [], _, _, _, L => L
  | [_], _, _, _, L => L
  | s :: t :: S, W, U, X, L =>
    if leadF s.1 s.2.2 = true then
      fillK R p a pk (t :: S) (W && bitF s.2.2 1) (U && bitF s.2.2 2) (X && !bitF s.2.2 63)
        (updL L (kOf s.1) (putK R (L (kOf s.1)) (kyF p a s.1) (tableF s.2.2, W && bitF s.2.2 1, U && bitF s.2.2 2, X && !bitF s.2.2 63, false, 0) (pk (kOf s.1))))
    else L
theorem fill_few {R : Nat} {p a : Int} {pk : Nat → Int} {S : List Stp} {W U X : Bool} {L : Ls} (h : S.length ≤ 1) : fillK R p a pk S W U X L = L := by
  match S, h with
  | [], _ => rfl
  | [_], _ => rfl
theorem fill_no {R : Nat} {p a : Int} {pk : Nat → Int} {S : List Stp} {W U X : Bool} {L : Ls} {i : Nat} (hi : i + 1 < S.length) {l s x : Int} (hs : stepAt S i = (l, s, x)) (h : leadF l x = false) : fillK R p a pk (S.drop i) W U X L = L := by
  rw [List.drop_eq_getElem_cons (by omega), List.drop_eq_getElem_cons (by omega)]
  have e : S[i]'(by omega) = (l, s, x) := by rw [← hs, stepAt, List.getD, List.getElem?_eq_getElem (by omega)]; rfl
  rw [e]
  unfold fillK
  rw [if_neg (by simp [h])]
theorem fill_on {R : Nat} {p a : Int} {pk : Nat → Int} {S : List Stp} {W U X : Bool} {L : Ls} {i : Nat} (hi : i + 1 < S.length) {l s x : Int} (hs : stepAt S i = (l, s, x)) (h : leadF l x = true) :
    fillK R p a pk (S.drop i) W U X L = fillK R p a pk (S.drop (i + 1)) (W && bitF x 1) (U && bitF x 2) (X && !bitF x 63) (updL L (kOf l) (putK R (L (kOf l)) (kyF p a l) (tableF x, W && bitF x 1, U && bitF x 2, X && !bitF x 63, false, 0) (pk (kOf l)))) := by
  rw [List.drop_eq_getElem_cons (i := i) (by omega), List.drop_eq_getElem_cons (i := i + 1) (by omega)]
  have e : S[i]'(by omega) = (l, s, x) := by rw [← hs, stepAt, List.getD, List.getElem?_eq_getElem (by omega)]; rfl
  rw [e]
  conv => lhs; unfold fillK
  rw [if_pos h]
theorem lead_parts {l x : Int} (h : leadF l x = true) : bitF x 0 = true ∧ leafF x l = false ∧ 2 ≤ l ∧ l ≤ 4 := by
  unfold leadF at h
  simpa using h

/-- where a walk can go on: the level, and the line -/
def deepK (L : Ls) (p a : Int) : Option (Int × Ln) :=
  match getK (L 2) (kyF p a 2) with
  | some l => some (1, l)
  | none => match getK (L 1) (kyF p a 3) with
    | some l => some (2, l)
    | none => match getK (L 0) (kyF p a 4) with
      | some l => some (3, l)
      | none => none
/-- the same, from a level's turn on -/
def deepN (L : Ls) (p a : Int) : Nat → Option (Int × Ln)
  | 0 => none
  | n + 1 => match getK (L n) (kyF p a (4 - n)) with
    | some l => some (3 - n, l)
    | none => deepN L p a n
theorem deepN_all (L : Ls) (p a : Int) : deepN L p a 3 = deepK L p a := by
  unfold deepN deepN deepN deepN deepK
  rfl
def dropL (L : Ls) (p a : Int) : Ls := fun k => if k < 3 then dropK (L k) (kyF p a (4 - k)) else L k
def ofL (L : Ls) (p : Int) : Ls := fun k => if k < 3 then ofK (L k) p else L k
def noneL (L : Ls) : Ls := fun k => if k < 3 then [] else L k
def evL (L : Ls) (l a : Int) : Ls := if 2 ≤ l ∧ l ≤ 4 then updL L (kOf l) (evK (L (kOf l)) a) else L
/-- the first so many of the three, from the lowest level on, are done -/
def someL (n : Nat) (L' L : Ls) : Ls := fun k => if 3 ≤ k + n then L' k else L k
end Go.Proofs.YtiihhlmddmicjaaDoor
/- Contracts of package cache: New, Room, picked, Get. -/
namespace Go.Proofs.YtiihhlmddmicjaaDoor
set_option linter.unusedVariables false
set_option linter.unusedSimpArgs false
open Go.ChangeShapes Go.WideShapes Go.ChangeAt Go.RowKit Go.Joins

section
variable {w : World} {b : Nat} {t : TypeId}
theorem Blk.cell {cs : Array Value} (h : Blk w b cs t) (i : Nat) {v : Value} (hv : cs[i]? = some v) : w.cell? ⟨b, i, none⟩ = some v := by
  unfold Blk at h; simp [World.cell?, h, hv]
theorem Blk.c2 {x0 x1 : Value} (h : Blk w b #[x0, x1] t) : w.cell? ⟨b, 0, none⟩ = some x0 ∧ w.cell? ⟨b, 1, none⟩ = some x1 := ⟨h.cell 0 rfl, h.cell 1 rfl⟩
theorem Blk.c3 {x0 x1 x2 : Value} (h : Blk w b #[x0, x1, x2] t) : w.cell? ⟨b, 0, none⟩ = some x0 ∧ w.cell? ⟨b, 1, none⟩ = some x1 ∧ w.cell? ⟨b, 2, none⟩ = some x2 := ⟨h.cell 0 rfl, h.cell 1 rfl, h.cell 2 rfl⟩
theorem Blk.c6 {x0 x1 x2 x3 x4 x5 : Value} (h : Blk w b #[x0, x1, x2, x3, x4, x5] t) : w.cell? ⟨b, 0, none⟩ = some x0 ∧ w.cell? ⟨b, 1, none⟩ = some x1 ∧ w.cell? ⟨b, 2, none⟩ = some x2 ∧ w.cell? ⟨b, 3, none⟩ = some x3 ∧ w.cell? ⟨b, 4, none⟩ = some x4 ∧ w.cell? ⟨b, 5, none⟩ = some x5 :=
  ⟨h.cell 0 rfl, h.cell 1 rfl, h.cell 2 rfl, h.cell 3 rfl, h.cell 4 rfl, h.cell 5 rfl⟩
theorem Blk.c9 {x0 x1 x2 x3 x4 x5 x6 x7 x8 : Value} (h : Blk w b #[x0, x1, x2, x3, x4, x5, x6, x7, x8] t) : w.cell? ⟨b, 0, none⟩ = some x0 ∧ w.cell? ⟨b, 1, none⟩ = some x1 ∧ w.cell? ⟨b, 2, none⟩ = some x2 ∧ w.cell? ⟨b, 3, none⟩ = some x3 ∧ w.cell? ⟨b, 4, none⟩ = some x4 ∧ w.cell? ⟨b, 5, none⟩ = some x5 ∧ w.cell? ⟨b, 6, none⟩ = some x6 ∧ w.cell? ⟨b, 7, none⟩ = some x7 ∧ w.cell? ⟨b, 8, none⟩ = some x8 :=
  ⟨h.cell 0 rfl, h.cell 1 rfl, h.cell 2 rfl, h.cell 3 rfl, h.cell 4 rfl, h.cell 5 rfl, h.cell 6 rfl, h.cell 7 rfl, h.cell 8 rfl⟩
theorem Blk.c11 {x0 x1 x2 x3 x4 x5 x6 x7 x8 x9 x10 : Value} (h : Blk w b #[x0, x1, x2, x3, x4, x5, x6, x7, x8, x9, x10] t) : w.cell? ⟨b, 0, none⟩ = some x0 ∧ w.cell? ⟨b, 1, none⟩ = some x1 ∧ w.cell? ⟨b, 2, none⟩ = some x2 ∧ w.cell? ⟨b, 3, none⟩ = some x3 ∧ w.cell? ⟨b, 4, none⟩ = some x4 ∧ w.cell? ⟨b, 5, none⟩ = some x5 ∧ w.cell? ⟨b, 6, none⟩ = some x6 ∧ w.cell? ⟨b, 7, none⟩ = some x7 ∧ w.cell? ⟨b, 8, none⟩ = some x8 ∧ w.cell? ⟨b, 9, none⟩ = some x9 ∧ w.cell? ⟨b, 10, none⟩ = some x10 :=
  ⟨h.cell 0 rfl, h.cell 1 rfl, h.cell 2 rfl, h.cell 3 rfl, h.cell 4 rfl, h.cell 5 rfl, h.cell 6 rfl, h.cell 7 rfl, h.cell 8 rfl, h.cell 9 rfl, h.cell 10 rfl⟩
end

/-- for how many there is room -/
def roomF (z : Int) : Nat := if z < 0 then 0 else if z ≤ 64 then z.toNat else 64
theorem roomF_le (z : Int) : roomF z ≤ 64 := by unfold roomF; split; (· omega); split <;> omega

theorem cch_new (w : World) (R : Nat) (h : R ≤ 64) : Cch ((w.alloc (.map #[] 0)).alloc (.cells #[.int .i64 R, .map (some w.heap.size), .slice none 0 0] 133)) (w.heap.size + 1) R [] w.heap.size (.slice none 0 0) := by
  have e1 : (w.alloc (.map #[] 0)).heap.size = w.heap.size + 1 := by simp
  refine ⟨?_, ?_, Or.inl ⟨rfl, rfl⟩, by simp [keysK], by simp [keysK], by simp, h⟩
  · have := Deep.blk_alloc_new (w.alloc (.map #[] 0)) (.cells #[.int .i64 R, .map (some w.heap.size), .slice none 0 0] 133)
    rwa [e1] at this
  · exact (MapAt.made w).same (Deep.blk_alloc_lt _ _ _ (by simp))

theorem newC_any (z : Int) (w : World) :
    Calls Tryd.prog 30 #[.int .i64 z] w fun e w' => e = .returned (.pointer (some ⟨w.heap.size + 1, 0, none⟩)) ∧ Cac w' (From w.heap.size) (w.heap.size + 1) (roomF z) [] ∧ Below w.heap.size w w' := by
  have hN := fun R h => cch_new w R h
  have fin : ∀ R : Nat, R ≤ 64 → Cac ((w.alloc (.map #[] 0)).alloc (.cells #[.int .i64 R, .map (some w.heap.size), .slice none 0 0] 133)) (From w.heap.size) (w.heap.size + 1) R [] := fun R h => by
    refine ⟨_, _, hN R h, ?_⟩
    rintro i (rfl | rfl | hv)
    · exact Nat.le_succ _
    · exact Nat.le_refl _
    · simp [Value.ownBlock] at hv
  have HF := Lib.hid fin
  clear hN fin
  have hmm := @run_makeMap Tryd.prog
  by_cases h0 : z < 0
  · have h1 : ¬ (0 < z) := by omega
    have HR : Hid (roomF z = 0) := Lib.hid (by unfold roomF; rw [if_pos h0])
    go_enter Tryd.func30, Tryd.ntmps30
    go_wp2
    go_ret
    rw [HR.out]
    exact ⟨by simp, HF.out 0 (by omega), ((Below.refl _ w).alloc (Nat.le_refl _) _).alloc (by simp) _⟩
  · have h1 : 0 ≤ z := by omega
    by_cases h2 : z ≤ 64
    · obtain ⟨n, rfl⟩ : ∃ n : Nat, z = n := ⟨z.toNat, by omega⟩
      have HR : Hid (roomF n = n) := Lib.hid (by unfold roomF; rw [if_neg h0, if_pos h2]; omega)
      have h3 : n ≤ 64 := by omega
      go_enter Tryd.func30, Tryd.ntmps30
      go_wp2
      go_ret
      rw [HR.out]
      exact ⟨by simp, HF.out n h3, ((Below.refl _ w).alloc (Nat.le_refl _) _).alloc (by simp) _⟩
    · have HR : Hid (roomF z = 64) := Lib.hid (by unfold roomF; rw [if_neg h0, if_neg h2])
      have h3 : 64 < z := by omega
      go_enter Tryd.func30, Tryd.ntmps30
      go_wp2
      go_ret
      rw [HR.out]
      exact ⟨by simp, HF.out 64 (by omega), ((Below.refl _ w).alloc (Nat.le_refl _) _).alloc (by simp) _⟩

section
variable {w : World} {F : Nat → Prop} {c R : Nat} {L : List Pr}
end

theorem tmod_bd (a : Int) {n : Nat} (h : 0 < n) : (a.tmod n + n).tmod n = (pickF a n : Int) ∧ -(n : Int) < a.tmod n ∧ a.tmod n < n := by
  have h1 := Int.emod_nonneg a (b := (n : Int)) (by omega)
  have h2 := Int.emod_lt_of_pos a (b := (n : Int)) (by omega)
  have h3 := Int.tmod_lt_of_pos a (b := (n : Int)) (by omega)
  have h4 : -(n : Int) < a.tmod n := by
    have := Int.tmod_lt_of_pos (-a) (b := (n : Int)) (by omega)
    rw [Int.neg_tmod] at this
    omega
  refine ⟨?_, h4, h3⟩
  unfold pickF
  rw [Int.tmod_eq_emod_of_nonneg (by omega)]
  have : (a.tmod n + n) % (n : Int) = a % n := by
    rw [Int.add_emod_right, Int.tmod_eq_emod]
    split
    · simp
    · simp
  rw [this]
  omega

theorem pickedC_any (a : Int) (n : Nat) (w : World) (ha : I64 a) (hn : 0 < n) (hl : n ≤ 1000000) :
    Calls Tryd.prog 87 #[.int .i64 a, .int .i64 n] w fun e w' => e = .returned (.int .i64 (pickF a n)) ∧ w = w' := by
  obtain ⟨h1, h2, h3⟩ := tmod_bd a hn
  obtain ⟨h4, h5⟩ := ha
  have HP := Lib.hid h1
  have hp := pickF_lt a hn
  have e0 : IntKind.i64.wrap (a.tmod n) = a.tmod n := by rw [IntKind.wrap_i64]; omega
  have e1 : IntKind.i64.wrap (a.tmod n + n) = a.tmod n + n := by rw [IntKind.wrap_i64]; omega
  have e3 : ¬ ((n : Int) = 0) := by omega
  have e4 : ¬ (n = 0) := by omega
  clear h1 h2 h3 h4 h5 hp
  go_enter Tryd.func87, Tryd.ntmps87
  go_wp2
  go_ret
  exact ⟨by rw [← HP.out]; rfl, rfl⟩

section
variable {w : World} {F : Nat → Prop} {c R : Nat} {L : List Pr}
set_option maxRecDepth 100000 in
theorem getC_any (h : Cac w F c R L) (p q t f m : Int) (x1 x2 x3 x4 : Bool) (hk : OkK (p, q, t)) (hl : (getK L (p, q, t)).getD zL = (f, x1, x2, x3, x4, m)) (is : Bool) (his : (getK L (p, q, t)).isSome = is) :
    Calls Tryd.prog 39 #[.pointer (some ⟨c, 0, none⟩), .agg #[.int .i64 p, .int .i64 q, .int .u64 t]] w fun e w' => e = .returned (.tuple #[.agg #[.int .u64 f, .bool x1, .bool x2, .bool x3, .bool x4, .int .u8 m], .bool is]) ∧ Below w.heap.size w w' := by
  obtain ⟨mb, v, h, _⟩ := h
  have HC := Lib.hid h
  have HQ : Hid (∀ w', Below w.heap.size w w' → (Instr.lookup 131 (.map (some mb)) (.agg #[.int .i64 p, .int .i64 q, .int .u64 t]) true).run Tryd.prog w' = .ok (.tuple #[.agg #[.int .u64 f, .bool x1, .bool x2, .bool x3, .bool x4, .int .u8 m], .bool is]) w') := Lib.hid fun w' hb => by
    have := (h.map.same (hb.block _ h.map.lt)).look hk
    rw [hl, his] at this
    exact this
  have H0 := Lib.hid (((Mine.start w).new rfl #[.int .i64 p, .int .i64 q, .int .u64 t] 102).new rfl #[.int .u64 0, .bool false, .bool false, .bool false, .bool false, .int .u8 0] 98)
  clear h hl his hk
  go_enter Tryd.func39, Tryd.ntmps39
  go_upto_region 3 with fail
  generalize hw0 : (w.alloc _).alloc _ = w0
  have H1 := Lib.hid (H0.out.world hw0)
  clear hw0 H0
  obtain ⟨p0, p1, p2⟩ := (H1.out.at_ 1 rfl).c3
  obtain ⟨d0, d1, d2, _⟩ := (HC.out.same fun i hi => H1.out.below.block i (HC.out.own_lt hi)).cells
  have hlt := (H1.out.at_ 1 rfl).lt
  have hlc : c < w0.heap.size := World.block_lt_of_cell? _ _ d0
  have q1 := HQ.out w0.drew (below_drewN H1.out.below 1)
  have q2 := fun o => HQ.out (w0.alloc o).drew (below_drewN (H1.out.below.alloc H1.out.size o) 1)
  go_region
  generalize hw1 : (w0.alloc _).drew = w1
  have H2 := Lib.hid (((H1.out.new rfl #[.int .u64 f, .bool x1, .bool x2, .bool x3, .bool x4, .int .u8 m] 98).quiet (Kept.drew0 _)).world hw1)
  clear hw1 H1 p0 p1 p2 d0 d1 d2 hlt hlc q1 q2
  obtain ⟨r0, r1, r2, r3, r4, r5⟩ := (H2.out.at_ 0 rfl).c6
  obtain ⟨s0, s1, s2, s3, s4, s5⟩ := (H2.out.at_ 1 rfl).c6
  have g0 := (H2.out.at_ 1 rfl).fz 0; have g1 := (H2.out.at_ 1 rfl).fz 1; have g2 := (H2.out.at_ 1 rfl).fz 2; have g3 := (H2.out.at_ 1 rfl).fz 3; have g4 := (H2.out.at_ 1 rfl).fz 4; have g5 := (H2.out.at_ 1 rfl).fz 5
  have e1 : (w.alloc (.cells #[.int .i64 p, .int .i64 q, .int .u64 t] 102)).heap.size = w.heap.size + 1 := by simp
  rw [e1] at s0 s1 s2 s3 s4 s5 g0 g1 g2 g3 g4 g5
  go_wp2
  refine bodyPost_ret (v := .tuple #[.agg #[.int .u64 f, .bool x1, .bool x2, .bool x3, .bool x4, .int .u8 m], .bool is]) ?_ rfl ⟨rfl, ?_⟩
  · rw [results_cell_tmp rfl]; go_simp
  · have H3 := H2.out.put6 1 rfl (y0 := .int .u64 f) (y1 := .bool x1) (y2 := .bool x2) (y3 := .bool x3) (y4 := .bool x4) (y5 := .int .u8 m) rfl
    rw [e1] at H3
    exact H3.below
end
end Go.Proofs.YtiihhlmddmicjaaDoor
/- Package psc: what it is in the world; contracts of isKept, place, of, number, keyOf, leads. -/
namespace Go.Proofs.YtiihhlmddmicjaaDoor
set_option linter.unusedVariables false
set_option linter.unusedSimpArgs false
open Go.ChangeShapes Go.WideShapes Go.ChangeAt Go.RowKit Go.Joins

abbrev ptrV (c : Nat) : Value := .pointer (some ⟨c, 0, none⟩)
abbrev pscCells (c : Nat → Nat) : Array Value := #[ptrV (c 0), ptrV (c 1), ptrV (c 2)]

/-- block q is a psc of room R with the lines L; c: its caches, H: their blocks -/
structure PscIs (w : World) (G : Nat → Prop) (q R : Nat) (L : Ls) (c : Nat → Nat) (H : Nat → Nat → Prop) : Prop where
  here : Blk w q (pscCells c) 85
  own : G q
  one : ∀ k, k < 3 → Cac w (H k) (c k) R (L k) ∧ ∀ i, H k i → G i ∧ i < w.heap.size ∧ i ≠ q
  apart : ∀ j k, j < 3 → k < 3 → j ≠ k → ∀ i, H j i → ¬ H k i
def pscT (q R : Nat) (L : Ls) : Thing := fun w G => ∃ c H, PscIs w G q R L c H

section
variable {w w' : World} {G G' : Nat → Prop} {q R : Nat} {L : Ls} {c : Nat → Nat} {H : Nat → Nat → Prop} {k : Nat} {M : List Pr}

theorem firm_psc (q R : Nat) (L : Ls) : Firm (pscT q R L) :=
  ⟨fun {w w' G} h hs he => by
    obtain ⟨c, H, h⟩ := h
    refine ⟨c, H, (he q h.here.lt h.own).trans h.here, h.own, fun k hk => ?_, h.apart⟩
    obtain ⟨h1, h2⟩ := h.one k hk
    exact ⟨(firm_cac _ _ _).same h1 hs fun i hi hg => he i hi (h2 i hg).1, fun i hi => ⟨(h2 i hi).1, Nat.lt_of_lt_of_le (h2 i hi).2.1 hs, (h2 i hi).2.2⟩⟩,
   fun {w G G'} h hG => by
    obtain ⟨c, H, h⟩ := h
    exact ⟨c, H, h.here, hG q h.here.lt h.own, fun k hk => ⟨(h.one k hk).1, fun i hi => ⟨hG i ((h.one k hk).2 i hi).2.1 ((h.one k hk).2 i hi).1, ((h.one k hk).2 i hi).2⟩⟩, h.apart⟩⟩

/-- a call turned one of its caches -/
theorem PscIs.did (h : PscIs w G q R L c H) (hk : k < 3) (hm : Cac w' (Since (H k) w) (c k) R M) (ht : Turn (H k) w w') :
    PscIs w' (Since G w) q R (updL L k M) c (fun j => if j = k then (fun i => Since (H k) w i ∧ i < w'.heap.size) else H j) ∧ Turn G w w' := by
  have hkk := (h.one k hk).2
  refine ⟨⟨h.here.turn ht fun hg => (hkk q hg).2.2 rfl, Or.inl h.own, fun j hj => ?_, fun i j hi hj hij x hx hy => ?_⟩, ht.mono fun i _ hi => (hkk i hi).1⟩
  · by_cases e : j = k
    · subst e
      simp only [if_pos, updL_same]
      refine ⟨(firm_cac _ _ _).more hm fun i hi hg => ⟨hg, hi⟩, fun i hi => ⟨?_, hi.2, ?_⟩⟩
      · rcases hi.1 with h1 | h1
        · exact Or.inl (hkk i h1).1
        · exact Or.inr h1
      · rcases hi.1 with h1 | h1
        · exact (hkk i h1).2.2
        · have := h.here.lt; omega
    · simp only [if_neg e, updL_ne L M e]
      obtain ⟨h1, h2⟩ := h.one j hj
      exact ⟨(firm_cac _ _ _).same h1 ht.size fun i hi hg => ht.block i hi (h.apart j k hj hk e i hg), fun i hi => ⟨Or.inl (h2 i hi).1, Nat.lt_of_lt_of_le (h2 i hi).2.1 ht.size, (h2 i hi).2.2⟩⟩
  · by_cases e1 : i = k
    · subst e1
      simp only [if_pos] at hx
      rw [if_neg (fun e => hij e.symm)] at hy
      rcases hx.1 with h1 | h1
      · exact h.apart i j hi hj hij x h1 hy
      · have := ((h.one j hj).2 x hy).2.1; omega
    · simp only [if_neg e1] at hx
      by_cases e2 : j = k
      · subst e2
        simp only [if_pos] at hy
        rcases hy.1 with h1 | h1
        · exact h.apart i j hi hj hij x hx h1
        · have := ((h.one i hi).2 x hx).2.1; omega
      · simp only [if_neg e2] at hy
        exact h.apart i j hi hj hij x hx hy
theorem PscIs.quiet (h : PscIs w G q R L c H) (hb : Below w.heap.size w w') : PscIs w' G q R L c H :=
  ⟨h.here.below hb, h.own, fun k hk => ⟨(h.one k hk).1.kept hb, fun i hi => ⟨((h.one k hk).2 i hi).1, Nat.lt_of_lt_of_le ((h.one k hk).2 i hi).2.1 hb.size, ((h.one k hk).2 i hi).2.2⟩⟩, h.apart⟩
theorem pscT.len (h : pscT q R L w G) (hk : k < 3) : (L k).length ≤ R ∧ R ≤ 64 := by
  obtain ⟨c, H, h⟩ := h
  exact ⟨(h.one k hk).1.len, (h.one k hk).1.room⟩
theorem pscT.nodup (h : pscT q R L w G) (hk : k < 3) : (keysK (L k)).Nodup := by
  obtain ⟨c, H, h⟩ := h
  exact (h.one k hk).1.nodup
end

/-- the world as it was -/
def SameW (w w' : World) : Prop := w = w'

theorem isKept_yes (l : Int) (w : World) (h2 : 2 ≤ l) (h4 : l ≤ 4) :
    Calls Tryd.prog 72 #[.int .i64 l] w fun e w' => e = .returned (.bool true) ∧ w = w' := by
  go_enter Tryd.func72, Tryd.ntmps72
  go_wp2
  go_ret
  exact ⟨rfl, rfl⟩
theorem isKept_no (l : Int) (w : World) (h : ¬ (2 ≤ l ∧ l ≤ 4)) :
    Calls Tryd.prog 72 #[.int .i64 l] w fun e w' => e = .returned (.bool false) ∧ w = w' := by
  by_cases h2 : 2 ≤ l
  · have h4 : decide (l ≤ 4) = false := decide_eq_false (by omega)
    clear h
    go_enter Tryd.func72, Tryd.ntmps72
    go_wp2
    go_ret
    exact ⟨rfl, rfl⟩
  · have h4 : l < 2 := by omega
    clear h h2
    go_enter Tryd.func72, Tryd.ntmps72
    go_wp2
    go_ret
    exact ⟨rfl, rfl⟩
theorem isKept_any (l : Int) (w : World) :
    Calls Tryd.prog 72 #[.int .i64 l] w fun e w' => e = .returned (.bool (decide (2 ≤ l) && decide (l ≤ 4))) ∧ w = w' := by
  by_cases h : 2 ≤ l ∧ l ≤ 4
  · rw [show (decide (2 ≤ l) && decide (l ≤ 4)) = true by simp [h.1, h.2]]
    exact isKept_yes l w h.1 h.2
  · rw [show (decide (2 ≤ l) && decide (l ≤ 4)) = false by simp only [Bool.and_eq_false_iff, decide_eq_false_iff_not]; omega]
    exact isKept_no l w h
theorem placeP_any (l : Int) (w : World) (h2 : 2 ≤ l) (h4 : l ≤ 4) :
    Calls Tryd.prog 59 #[.int .i64 l] w fun e w' => e = .returned (.int .i64 (4 - l)) ∧ w = w' := by
  have e : IntKind.i64.wrap (4 - l) = 4 - l := by rw [IntKind.wrap_i64]; omega
  clear h2 h4
  go_enter Tryd.func59, Tryd.ntmps59
  go_wp2
  go_ret
  exact ⟨rfl, rfl⟩

theorem ofP_out (q : Option Addr) (l : Int) (w : World) (h : ¬ (2 ≤ l ∧ l ≤ 4)) :
    Calls Tryd.prog 38 #[.pointer q, .int .i64 l] w fun e w' => e = .returned (.pointer none) ∧ Below w.heap.size w w' := by
  cases q with
  | none =>
    go_enter Tryd.func38, Tryd.ntmps38
    go_wp2_with (go_at_call 72; refine (isKept_no _ _ h).mono ?_; rintro e w' ⟨rfl, rfl⟩)
    go_ret
    exact ⟨rfl, Below.refl _ _⟩
  | some a =>
    go_enter Tryd.func38, Tryd.ntmps38
    go_wp2_with (go_at_call 72; refine (isKept_no _ _ h).mono ?_; rintro e w' ⟨rfl, rfl⟩)
    go_ret
    exact ⟨rfl, Below.refl _ _⟩
theorem ofP_three {w : World} {q : Nat} {p0 p1 p2 : Value} (hb : Blk w q #[p0, p1, p2] 85) (l : Int) (h2 : 2 ≤ l) (h4 : l ≤ 4) :
    Calls Tryd.prog 38 #[.pointer (some ⟨q, 0, none⟩), .int .i64 l] w fun e w' => e = .returned (if l = 4 then p0 else if l = 3 then p1 else p2) ∧ Below w.heap.size w w' := by
  obtain ⟨b0, b1, b2⟩ := hb.c3
  have hl : l = 2 ∨ l = 3 ∨ l = 4 := by omega
  clear hb h2 h4
  rcases hl with rfl | rfl | rfl
  all_goals
    go_enter Tryd.func38, Tryd.ntmps38
    go_wp2_with (go_at_call 72; refine (isKept_yes _ _ (by decide) (by decide)).mono ?_; rintro e w' ⟨rfl, rfl⟩)
    go_quiet (first | (go_at_call 59; exact quietOf (placeP_any _ _ (by decide) (by decide))))
    go_wp2
    go_ret
    exact ⟨rfl, below_drewN (Below.refl _ _) _⟩
theorem ofP_any {w : World} {G : Nat → Prop} {q R : Nat} {L : Ls} {c : Nat → Nat} {H : Nat → Nat → Prop} (h : PscIs w G q R L c H) (l : Int) (h2 : 2 ≤ l) (h4 : l ≤ 4) :
    Calls Tryd.prog 38 #[.pointer (some ⟨q, 0, none⟩), .int .i64 l] w fun e w' => e = .returned (ptrV (c (kOf l))) ∧ Below w.heap.size w w' := by
  have e : (if l = 4 then ptrV (c 0) else if l = 3 then ptrV (c 1) else ptrV (c 2)) = ptrV (c (kOf l)) := by
    have hl : l = 2 ∨ l = 3 ∨ l = 4 := by omega
    rcases hl with rfl | rfl | rfl <;> rfl
  exact e ▸ ofP_three h.here l h2 h4

/-- the number of the first k places -/
def numF (a : Int) : Nat → Int
  | 0 => 0
  | k + 1 => numF a k * 512 + indexF a (4 - k)
theorem num_bd (a : Int) : ∀ k, k ≤ 3 → 0 ≤ numF a k ∧ numF a k < 134217728 := by
  intro k hk
  have a2 := index_bd0 a 2; have a3 := index_bd0 a 3; have a4 := index_bd0 a 4
  have h1 : numF a 1 = indexF a 4 := by simp [numF]
  have h2 : numF a 2 = numF a 1 * 512 + indexF a 3 := rfl
  have h3 : numF a 3 = numF a 2 * 512 + indexF a 2 := rfl
  have h0 : numF a 0 = 0 := rfl
  have : k = 0 ∨ k = 1 ∨ k = 2 ∨ k = 3 := by omega
  rcases this with rfl | rfl | rfl | rfl <;> omega
theorem num_tag (a l : Int) (h2 : 2 ≤ l) (h4 : l ≤ 4) {k : Nat} (hk : (k : Int) = 5 - l) : numF a k = tagF a l := by
  have hl : l = 2 ∨ l = 3 ∨ l = 4 := by omega
  have e1 : numF a 1 = indexF a 4 := by simp [numF]
  have e2 : numF a 2 = numF a 1 * 512 + indexF a 3 := rfl
  have e3 : numF a 3 = numF a 2 * 512 + indexF a 2 := rfl
  rcases hl with rfl | rfl | rfl
  · obtain rfl : k = 3 := by omega
    rw [tag2, e3, e2, e1]
  · obtain rfl : k = 2 := by omega
    rw [tag3, e2, e1]
  · obtain rfl : k = 1 := by omega
    rw [tag4, e1]

set_option maxRecDepth 100000 in
theorem numberP_any (a l : Int) (w : World) (hs : Shifts w) (ha : W64 a) (h2 : 2 ≤ l) (h4 : l ≤ 4) :
    Calls Tryd.prog 73 #[.int .u64 a, .int .i64 l] w fun e w' => e = .returned (.int .u64 (tagF a l)) ∧ w = w' := by
  obtain ⟨n, hn⟩ : ∃ n : Nat, (n : Int) = 5 - l := ⟨(5 - l).toNat, by omega⟩
  have HT := Lib.hid (num_tag a l h2 h4 hn)
  have HI := Lib.hid fun l => index_any a l w hs ha
  have hn3 : n ≤ 3 := by omega
  have e : IntKind.i64.wrap (5 - l) = n := by rw [IntKind.wrap_i64]; omega
  clear hs ha h2 h4 hn
  go_enter Tryd.func73, Tryd.ntmps73
  go_wp2
  go_loopw [5, 9] (fun u i wr => ∃ k : Nat, k ≤ n ∧ i = .int .i64 k ∧ u = .int .u64 (numF a k) ∧ SameW w wr) (fun _ i _ => (n - intOf i).toNat)
  case atStart => exact ⟨0, by omega, rfl, rfl, rfl⟩
  case round =>
    obtain ⟨k, hk, rfl, rfl, hw⟩ := hrel
    obtain rfl : w = wr := hw
    by_cases hlt : k < n
    · obtain ⟨b0, b1⟩ := num_bd a k (by omega)
      obtain ⟨c0, c1⟩ := num_bd a (k + 1) (by omega)
      have HS : Hid (numF a (k + 1) = numF a k * 512 + indexF a (4 - k)) := Lib.hid rfl
      have HB := index_bd0 a (4 - k)
      rw [HS.out] at c0 c1
      generalize numF a k = u at *
      have HC := HI.out (4 - k)
      generalize indexF a (4 - k) = j at *
      have e0 : IntKind.i64.wrap (4 - (k : Int)) = 4 - k := by rw [IntKind.wrap_i64]; omega
      have e1 : IntKind.u64.wrap (u * 512) = u * 512 := wrap_in (by omega) (by omega)
      have e2 : IntKind.u64.wrap j = j := wrap_in (by omega) (by omega)
      have e3 : IntKind.u64.wrap (u * 512 + j) = u * 512 + j := wrap_in (by omega) (by omega)
      have HC2 := Lib.hid HC
      clear b0 b1 c0 c1 HB HC
      go_wp2_with (go_at_call 79; refine HC2.out.mono ?_; rintro e w' ⟨rfl, rfl⟩)
      go_roundw
      case rel => exact ⟨k + 1, by omega, by go_num, by rw [HS.out], rfl⟩
      case measure => simp [intOf]; omega
    · obtain rfl : k = n := by omega
      go_wp2
      go_ret
      exact ⟨by rw [HT.out]; rfl, rfl⟩

set_option maxRecDepth 100000 in
theorem keyP_any (p a l : Int) (w : World) (hs : Shifts w) (ha : W64 a) (h2 : 2 ≤ l) (h4 : l ≤ 4) :
    Calls Tryd.prog 40 #[.int .i64 p, .int .u64 a, .int .i64 l] w fun e w' => e = .returned (.agg #[.int .i64 p, .int .i64 l, .int .u64 (tagF a l)]) ∧ Below w.heap.size w w' := by
  have HC := Lib.hid (fun w' (hb : Below w.heap.size w w') => numberP_any a l w' (shifts_turn hs (Turn.of_below hb) (by have := size_shifts hs; omega)) ha h2 h4)
  have H0 := Lib.hid ((Mine.start w).new (b := w.heap.size) rfl #[.int .i64 0, .int .i64 0, .int .u64 0] 102)
  generalize tagF a l = t at *
  clear hs ha h2 h4
  go_enter Tryd.func40, Tryd.ntmps40
  go_upto_region 1 with fail
  generalize hw0 : w.alloc _ = w0
  have H1 := Lib.hid (H0.out.world hw0)
  clear hw0 H0
  obtain ⟨r0, r1, r2⟩ := (H1.out.at_ 0 rfl).c3
  have f0 := (H1.out.at_ 0 rfl).fz 0; have f1 := (H1.out.at_ 0 rfl).fz 1; have f2 := (H1.out.at_ 0 rfl).fz 2
  have HC1 := Lib.hid (HC.out w0 H1.out.below)
  clear HC
  go_wp2_with (go_at_call 73; refine HC1.out.mono ?_; rintro e w' ⟨rfl, rfl⟩)
  refine bodyPost_ret (results_cell_row rfl _ _ w.heap.size _ _ _ _ rfl (setB3 (H1.out.at_ 0 rfl) _ _ _) Tryd.underlying102 rfl rfl) rfl ⟨rfl, (H1.out.put3 0 rfl rfl).below⟩

theorem leadsP_any (l s x : Int) (w : World) :
    Calls Tryd.prog 57 #[.agg #[.int .i64 l, .int .u64 s, .int .u64 x]] w fun e w' => e = .returned (.bool (leadF l x)) ∧ Below w.heap.size w w' := by
  have hb : (bits .and .u64 x 1 != 0) = bitF x 0 := has_b0 x
  unfold leadF
  cases hP : bitF x 0
  · rw [hP] at hb
    simp only [Bool.false_and]
    go_enter Tryd.func57, Tryd.ntmps57
    go_wp2
    go_ret
    exact ⟨rfl, below_alloc1 _ _⟩
  · rw [hP] at hb
    simp only [Bool.true_and]
    cases hL : leafF x l
    · simp only [Bool.not_false, Bool.true_and]
      go_enter Tryd.func57, Tryd.ntmps57
      go_wp2_with (first | (go_at_call 52; refine (leaf_any _ _ _).mono ?_; rw [hL]; rintro e w' ⟨rfl, rfl⟩) | (go_at_call 72; refine (isKept_any _ _).mono ?_; rintro e w' ⟨rfl, rfl⟩))
      go_ret
      exact ⟨rfl, below_alloc1 _ _⟩
    · simp only [Bool.not_true, Bool.false_and]
      go_enter Tryd.func57, Tryd.ntmps57
      go_wp2_with (first | (go_at_call 52; refine (leaf_any _ _ _).mono ?_; rw [hL]; rintro e w' ⟨rfl, rfl⟩) | (go_at_call 72; refine (isKept_any _ _).mono ?_; rintro e w' ⟨rfl, rfl⟩))
      go_ret
      exact ⟨rfl, below_alloc1 _ _⟩
end Go.Proofs.YtiihhlmddmicjaaDoor
