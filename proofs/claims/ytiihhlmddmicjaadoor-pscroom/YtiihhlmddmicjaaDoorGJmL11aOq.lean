/- Several texts of ours in one: Jm, L11a, Oq. -/
import Derived.Test.YtiihhlmddmicjaaDoorGJhJkJl
import Derived.Test.YtiihhlmddmicjaaDoorGHeHfHg
import Derived.Test.YtiihhlmddmicjaaDoorGVaVrFr
import Derived.Deep.Slices
import Derived.Deep.Strs
import Derived.Deep.FieldsWide
/- Layer 11: facts of laws over a warm psc. -/
namespace Go.Proofs.YtiihhlmddmicjaaDoor
set_option linter.unusedVariables false
set_option linter.unusedSimpArgs false
open Go.ChangeShapes Go.WideShapes Go.ChangeAt Go.RowKit Go.Joins

theorem ns_off {w : World} {G : Nat → Prop} {A : Option Addr} {ns : List Int} (h : NsIn w A ns) (hG : ∀ i, G i → w.heap.size ≤ i) : ∀ ad, A = some ad → 0 < ns.length → ¬ G ad.block := fun ad hA hl hg => by
  obtain ⟨ad', hA', c0⟩ := h 0 hl
  obtain rfl : ad = ad' := Option.some.inj (hA.symm.trans hA')
  have hb := World.block_lt_of_cell? _ _ c0
  rw [add_block] at hb
  have := hG _ hg
  omega
theorem Has.late {w wr : World} {os : List ObjT} {bs : List BoxD} {rs : List RowD} {P : Thing} {G : Nat → Prop} (h : Has w wr (fun _ => False) os bs rs) (k : Nat) (hk : os[k]? = some ⟨P, G⟩) : ∀ i, G i → w.heap.size ≤ i := fun i hi => by
  rcases (h.foot k hk i hi).2 with h1 | h1
  · exact h1.elim
  · exact h1
theorem ns_same {w w' : World} {A : Option Addr} {ns : List Int} (h : NsIn w A ns) (ht : Turn (fun _ => False) w w') : NsIn w' A ns := ns_turn h ht fun _ _ _ h => h

theorem eqlPlace (l t : Int) (W U X : Bool) (w : World) : (binOp .eql 41 (.agg #[.int .i64 l, .int .u64 t, .bool W, .bool U, .bool X]) (.agg #[.int .i64 l, .int .u64 t, .bool W, .bool U, .bool X])).run Tryd.prog w = .ok (.bool true) w := by
  have hs : Tryd.prog.stoodInHeld 41 = false := by kernel_rfl
  have hs2 : Tryd.prog.stoodInHeld 37 = false := by kernel_rfl
  simp only [binOp]
  simp [Op.equal, Op.maxDepth, run_equalIn_struct w 9999 41 _ _ (by simp [Program.fieldsOf, Tryd.underlying41]) hs, Program.fieldsOf, Tryd.underlying41, Op.eqFields, go_sem]
theorem neqStep (l s x : Int) (w : World) : (binOp .neq 65 (.agg #[.int .i64 l, .int .u64 s, .int .u64 x]) (.agg #[.int .i64 l, .int .u64 s, .int .u64 x])).run Tryd.prog w = .ok (.bool false) w := by
  have hs : Tryd.prog.stoodInHeld 65 = false := by kernel_rfl
  simp only [binOp]
  simp [Op.equal, Op.maxDepth, run_equalIn_struct w 9999 65 _ _ (by simp [Program.fieldsOf, Tryd.underlying65]) hs, Program.fieldsOf, Tryd.underlying65, Op.eqFields, go_sem]
theorem neqRight (W U X : Bool) (w : World) : (binOp .neq 37 (.agg #[.bool W, .bool U, .bool X]) (.agg #[.bool W, .bool U, .bool X])).run Tryd.prog w = .ok (.bool false) w := by
  have hs : Tryd.prog.stoodInHeld 37 = false := by kernel_rfl
  simp only [binOp]
  simp [Op.equal, Op.maxDepth, run_equalIn_struct w 9999 37 _ _ (by simp [Program.fieldsOf, Tryd.underlying37]) hs, Program.fieldsOf, Tryd.underlying37, Op.eqFields, go_sem]
theorem putSt_w (ds : List (Int × Int × Int × Int)) : ∀ (k : Nat) (s : Int), W64 (putSt ds k s)
  | 0, s => ⟨by simp [putSt], by simp [putSt]⟩
  | k + 1, s => by
    have h1 := putSt_w ds k s
    have h2 := atX_w (ds.getD k (0, 0, 0, 0)).2.1 (ds.getD k (0, 0, 0, 0)).2.2.1 (ds.getD k (0, 0, 0, 0)).2.2.2
    unfold putSt storeS
    split
    · unfold updF
      split
      · exact h2
      · exact h1
    · exact h1
theorem step_behind (S T : List Stp) (i : Nat) : stepAt (S ++ T) (S.length + i) = stepAt T i := by
  unfold stepAt
  rw [List.getD, List.getD, List.getElem?_append_right (by omega), Nat.add_sub_cancel_left]
theorem i64_2 : I64 2 := ⟨by decide, by decide⟩
/-- what Deepest answers, as letters -/
def deepZ (o : Option (Int × Ln)) : Int × Int × Bool × Bool × Bool × Bool := match o with
  | some (l, t, W, U, X, _, _) => (l, t, W, U, X, true)
  | none => (0, 0, false, false, false, false)
theorem deepV_z {o : Option (Int × Ln)} {l t : Int} {W U X is : Bool} (h : deepZ o = (l, t, W, U, X, is)) : deepV o = .tuple #[placeV l t W U X, .bool is] := by
  cases o with
  | none => simp [deepZ] at h; obtain ⟨rfl, rfl, rfl, rfl, rfl, rfl⟩ := h; rfl
  | some y => obtain ⟨l', t', W', U', X', d, m⟩ := y; simp [deepZ] at h; obtain ⟨rfl, rfl, rfl, rfl, rfl, rfl⟩ := h; rfl

section
variable {f : Int → Int} {ns : List Int} {n : Nat} {L : Ls}
/-- nothing is found for another PCID -/
theorem Warm.other (h : Warm f ns n L) {p a : Int} (hp : p ≠ 1) : deepK L p a = none := by
  cases hd : deepK L p a with
  | none => rfl
  | some y =>
    obtain ⟨l, x⟩ := y
    obtain ⟨k, hk, _, hm⟩ := deep_mem hd
    obtain ⟨j, _, h1, _⟩ := h k hk _ hm
    exact absurd (congrArg (fun y : Ky => y.1) h1) hp
theorem near_lt (z : Int) : 0 ≤ nearF z ∧ nearF z < 4398046511104 := by unfold nearF; omega
theorem tag_near {a b : Int} (ha : 0 ≤ a ∧ a < 4398046511104) (hb : 0 ≤ b ∧ b < 4398046511104) {l : Int} (h2 : 2 ≤ l) (h4 : l ≤ 4) (h : tagF a l = tagF b l) : a / 549755813888 = b / 549755813888 := by
  have := tag_down (j := 4) h2 h4 (by decide) h
  unfold tagF at this
  simp at this
  omega

theorem getK_drop {M : List Pr} (hn : (keysK M).Nodup) (k k' : Ky) : getK (dropK M k) k' = if k' = k then none else getK M k' := by
  rw [dropK_filter hn]
  unfold getK
  rw [List.find?_filter]
  by_cases e : k' = k
  · subst e
    rw [if_pos rfl]
    simp
  · rw [if_neg e]
    congr 2
    funext x
    by_cases e2 : x.1 = k'
    · simp [e2, e]
    · simp [e2]
theorem getK_ofK (M : List Pr) (p : Int) (k' : Ky) : getK (ofK M p) k' = if k'.1 = p then none else getK M k' := by
  unfold ofK getK
  rw [List.find?_filter]
  by_cases e : k'.1 = p
  · rw [if_pos e, Option.map_eq_none_iff, List.find?_eq_none]
    intro x _ hh
    simp only [Bool.and_eq_true, decide_eq_true_eq] at hh
    exact hh.1 (by rw [hh.2]; exact e)
  · rw [if_neg e]
    congr 2
    funext x
    by_cases e2 : x.1 = k'
    · simp [e2, e]
    · simp [e2]
theorem deep_congr {L L' : Ls} {p b : Int} (h : ∀ k : Nat, k < 3 → getK (L' k) (kyF p b (4 - (k : Int))) = getK (L k) (kyF p b (4 - (k : Int)))) : deepK L' p b = deepK L p b := by
  have h2 : getK (L' 2) (kyF p b 2) = getK (L 2) (kyF p b 2) := h 2 (by decide)
  have h1 : getK (L' 1) (kyF p b 3) = getK (L 1) (kyF p b 3) := h 1 (by decide)
  have h0 : getK (L' 0) (kyF p b 4) = getK (L 0) (kyF p b 4) := h 0 (by decide)
  unfold deepK
  rw [h2, h1, h0]
theorem deep_none {L : Ls} {p b : Int} (h : ∀ k : Nat, k < 3 → getK (L k) (kyF p b (4 - (k : Int))) = none) : deepK L p b = none := by
  have h2 : getK (L 2) (kyF p b 2) = none := h 2 (by decide)
  have h1 : getK (L 1) (kyF p b 3) = none := h 1 (by decide)
  have h0 : getK (L 0) (kyF p b 4) = none := h 0 (by decide)
  unfold deepK
  rw [h2, h1, h0]
def NdL (L : Ls) : Prop := ∀ k : Nat, k < 3 → (keysK (L k)).Nodup
theorem drop_self (h : NdL L) (p a : Int) : deepK (dropL L p a) p a = none := deep_none fun k hk => by
  unfold dropL
  rw [if_pos hk, getK_drop (h k hk), if_pos rfl]
theorem drop_far (h : NdL L) (p a b : Int) (hab : ∀ l, 2 ≤ l → l ≤ 4 → tagF b l ≠ tagF a l) : deepK (dropL L p a) p b = deepK L p b := deep_congr fun k hk => by
  unfold dropL
  rw [if_pos hk, getK_drop (h k hk), if_neg fun e => hab (4 - (k : Int)) (by omega) (by omega) (congrArg (fun y : Ky => y.2.2) e)]
theorem drop_nd (h : NdL L) (p a : Int) : NdL (dropL L p a) := fun k hk => by
  unfold dropL
  rw [if_pos hk, dropK_filter (h k hk)]
  exact nodupK_filter (h k hk) _
theorem drop_pcid (h : NdL L) {p p' : Int} (hp : p' ≠ p) (a b : Int) : deepK (dropL L p a) p' b = deepK L p' b := deep_congr fun k hk => by
  unfold dropL
  rw [if_pos hk, getK_drop (h k hk), if_neg fun e => hp (congrArg (fun y : Ky => y.1) e)]
theorem of_pcid {p p' : Int} (hp : p' ≠ p) (b : Int) : deepK (ofL L p) p' b = deepK L p' b := deep_congr fun k hk => by
  unfold ofL
  rw [if_pos hk, getK_ofK]
  exact if_neg hp
theorem Warm.none (h : Warm f ns n L) (l : Int) : lenF (ofL (ofL L 2) 1) l = 0 := by
  unfold lenF
  split
  · rename_i hl
    have hk := (kOf_lt hl.1 hl.2).1
    generalize kOf l = k at hk
    unfold ofL
    rw [if_pos hk, if_pos hk]
    have : ofK (ofK (L k) 2) 1 = [] := by
      unfold ofK
      rw [List.filter_eq_nil_iff]
      intro x hx
      obtain ⟨j, _, h1, _⟩ := h k hk x (List.mem_filter.1 hx).1
      rw [h1]
      simp [kyF]
    rw [this]; rfl
  · rfl
theorem tag_apart {a b : Int} (ha : 0 ≤ a ∧ a < 4398046511104) (hb : 0 ≤ b ∧ b < 4398046511104) (h : a / 549755813888 ≠ b / 549755813888) : ∀ l, 2 ≤ l → l ≤ 4 → tagF b l ≠ tagF a l := fun _ h2 h4 e => h (tag_near hb ha h2 h4 e).symm
/-- whether one of the first j addresses has the place of the level 4 -/
def nearN (ns : List Int) (a : Int) : Nat → Bool
  | 0 => false
  | j + 1 => nearN ns a j || (nearF (ns.getD j 0) / 549755813888 == a / 549755813888)
theorem nearN_mem {a : Int} : ∀ (n : Nat) {j : Nat}, j < n → nearF (ns.getD j 0) / 549755813888 = a / 549755813888 → nearN ns a n = true
  | 0, j, h, _ => by omega
  | n + 1, j, h, e => by
    unfold nearN
    by_cases hj : j < n
    · rw [nearN_mem n hj e]; rfl
    · obtain rfl : j = n := by omega
      rw [e]; simp
end
end Go.Proofs.YtiihhlmddmicjaaDoor
/- The walk of PscApart. (Laid by tools/gen_l11.py.) -/
namespace Go.Proofs.YtiihhlmddmicjaaDoor
set_option linter.unusedVariables false
set_option linter.unusedSimpArgs false
open Go.ChangeShapes Go.WideShapes Go.ChangeAt Go.RowKit Go.Joins

set_option maxRecDepth 100000 in
set_option maxHeartbeats 6400000 in
theorem pscApart_walk (A : Option Addr) (c : Nat) (ds : List (Int × Int × Int × Int)) (B : Option Addr) (d : Nat) (ns : List Int) (n : Int) (w : World) (hs : Shifts w) (hl : ds.length ≤ maxLen) (hd : PutsIn w A ds) (hok : PutsOk ds) (hl2 : ns.length ≤ maxLen) (hn : NsIn w B ns) (hnk : NsOk ns) (n0 : 0 ≤ n) (n1 : n < 4294967296) :
    Calls Tryd.prog 8 #[.slice A ds.length c, .slice B ns.length d, .int .u32 n] w fun e w' => e = .returned (.bool true) ∧ Below w.heap.size w w' := by
  have HS := Lib.hid hs
  have HD := Lib.hid hd
  have HOK := Lib.hid hok
  have HL1 := Lib.hid hl
  obtain ⟨f, hf⟩ : ∃ f, putSt ds (mostP ds) = f := ⟨_, rfl⟩
  have HFF := Lib.hid hf
  clear hs hd hok hl hf
  have HN := Lib.hid hn
  have HNK := Lib.hid hnk
  have HL2 := Lib.hid hl2
  obtain ⟨R, hR⟩ : ∃ R : Nat, roomF 8 = R := ⟨_, rfl⟩
  have HRR := Lib.hid hR
  obtain ⟨L, hL⟩ : ∃ L, warmN f R ns (mostN ns) = L := ⟨_, rfl⟩
  have HLL := Lib.hid hL
  have HW := Lib.hid (hL ▸ warm_warm f R ns (mostN ns))
  clear hn hnk hR hL hl2
  obtain ⟨a, ha⟩ : ∃ a, nearF n = a := ⟨_, rfl⟩
  have HAWa := Lib.hid (ha ▸ near_w n)
  have HABa := Lib.hid (ha ▸ near_lt n)
  have HNEa := Lib.hid (ha ▸ fun w => near_any n w n0 n1)
  clear ha
  have HO2 : Hid (deepK L 2 a = none) := Lib.hid (HW.out.other (by decide))
  obtain ⟨o, ho⟩ : ∃ o, deepK L 1 a = o := ⟨_, rfl⟩
  have HO1 := Lib.hid ho
  have HI : Hid ((deepZ o).2.2.2.2.2 = true → nearN ns a (mostN ns) = true) := Lib.hid (by
    intro hi
    cases o with
    | none => simp [deepZ] at hi
    | some y =>
      obtain ⟨l, t, W, U, X, d, m⟩ := y
      obtain ⟨hr, hl3, j, hj, ht⟩ := HW.out.deep ho
      exact nearN_mem _ hj (tag_near (near_lt _) HABa.out (by have := hr.lev; omega) (by omega) ht.symm))
  clear ho n0 n1
  obtain ⟨⟨l1, t1, W1, U1, X1, is1⟩, hV1⟩ : ∃ z, deepZ o = z := ⟨_, rfl⟩
  rw [hV1] at HI
  have HV1 := Lib.hid hV1
  clear hV1
  have hm : mostN ns ≤ 20 ∧ mostN ns ≤ ns.length ∧ (mostN ns = 20 ∨ mostN ns = ns.length) := by unfold mostN; omega
  obtain ⟨mn, hmn⟩ : ∃ m, mostN ns = m := ⟨_, rfl⟩
  rw [hmn] at hm HI
  obtain ⟨hm0, hm1, hm2⟩ := hm
  have HM2 := Lib.hid hm2
  clear hm2 hmn
  go_enter Tryd.func8, Tryd.ntmps8
  go_upto_region 8 with (first | (go_at_call 9; refine (awake11_any _ HS.out).mono ?_; rintro e w1 ⟨rfl, hb1⟩; have H1 := Lib.hid ((Has.start0 w (fun _ => False)).quiet hb1); clear hb1) | (go_at_call 17; refine (builtH_any _ _ c ds HL1.out (puts_below HD.out H1.out.below0) HOK.out).mono ?_; rw [HFF.out]; rintro e w2 ⟨m, G, rfl, hH⟩; have H2 := Lib.hid (H1.out.join hH); clear hH H1) | (go_at_call 18; refine (warm_any (H2.out.the 0 rfl) (by decide) (H2.out.shifts HS.out (fun h => h)) (H2.out.no0 HS.out (fun h => h) 0 rfl) 8 B ns d HL2.out (ns_same HN.out H2.out.turn) (ns_off HN.out (H2.out.late 0 rfl)) HNK.out).mono ?_; rw [HRR.out, HLL.out]; rintro e w3 ⟨q, rfl, tr, Gm, Gp, hH⟩; have H3 : Hid (Has w w3 (fun _ => False) [⟨memT m 16 f tr 200, Gm⟩, ⟨pscT q R L, Gp⟩] [] []) := Lib.hid (H2.out.call 0 rfl hH); clear hH H2) | (go_at_call 19; refine (HNEa.out _).mono ?_; rintro e _ ⟨rfl, rfl⟩) | (go_at_call 13; refine (deepP_any (H3.out.the 1 rfl) (H3.out.shifts HS.out (fun h => h)) 2 a i64_2 HAWa.out).mono ?_; rw [HO2.out, deepV_none]; rintro e w4 ⟨rfl, hb⟩; have H4 := Lib.hid (H3.out.quiet hb); clear hb H3))
  generalize hq : w4.alloc _ = w5
  have H5 := Lib.hid ((H4.out.quiet (below_alloc1 w4 (.cells #[.int .i64 0, .int .u64 0, .bool false, .bool false, .bool false] 41))).world hq)
  clear hq H4
  go_upto_region 9 with (first | (go_at_call 13; refine (deepP_any (H5.out.the 1 rfl) (H5.out.shifts HS.out (fun h => h)) 1 a i64_1 HAWa.out).mono ?_; rw [HO1.out, deepV_z HV1.out]; rintro e w6 ⟨rfl, hb⟩; have H6 := Lib.hid (H5.out.quiet hb); clear hb H5))
  generalize hq : w6.alloc _ = w7
  have H7 := Lib.hid ((H6.out.quiet (below_alloc1 w6 (.cells #[.int .i64 l1, .int .u64 t1, .bool W1, .bool U1, .bool X1] 41))).world hq)
  clear hq H6
  go_wp2
  go_loopw [15, 16] (fun u i wr => ∃ (k : Nat), k ≤ mn ∧ i = .int .i64 k ∧ u = .bool (nearN ns a k) ∧ SameW w7 wr) (fun _ i _ => (20 - intOf i).toNat)
  case atStart => exact ⟨0, by omega, rfl, rfl, rfl⟩
  case round =>
    obtain ⟨k, hk, rfl, rfl, hw⟩ := hrel
    obtain rfl : w7 = wr := hw
    by_cases hlt : k < mn
    · have hlt2 := hlt
      have hkN : k < ns.length := by omega
      have h20 : (k : Int) < 20 := by omega
      obtain ⟨ad, hAd, c0⟩ := ns_same HN.out H7.out.turn k hkN
      subst hAd
      have hz := HNK.out k
      have HX : Hid (nearN ns a (k + 1) = (nearN ns a k || (nearF (ns.getD k 0) / 549755813888 == a / 549755813888))) := Lib.hid rfl
      generalize ns.getD k 0 = z at *
      have HNZ := Lib.hid (near_any z w7 hz.1 hz.2)
      have hb0 := near_lt z
      generalize nearF z = b at *
      have HBB := Lib.hid hb0
      clear hz hb0
      cases hnb : nearN ns a k with
      | true =>
        rw [hnb] at HX
        go_wp2
        go_roundw
        case rel => exact ⟨k + 1, by omega, by go_num, by rw [HX.out]; rfl, rfl⟩
        case measure => simp [intOf]; omega
      | false =>
        rw [hnb] at HX
        go_wp2_with (go_at_call 19; refine HNZ.out.mono ?_; rintro e _ ⟨rfl, rfl⟩)
        go_roundw
        case rel => exact ⟨k + 1, by omega, by go_num, by rw [HX.out, Bool.false_or], rfl⟩
        case measure => simp [intOf]; omega
    · have e : k = mn := by omega
      subst e
      have fin : (!is1 || nearN ns a k) = true := by
        cases is1 with
        | false => rfl
        | true => simpa using HI.out rfl
      by_cases h2 : k < ns.length
      · have h3 : decide ((k : Int) < 20) = false := by
          have := HM2.out
          exact decide_eq_false (by omega)
        cases hnb : nearN ns a k <;> cases is1 <;> simp [hnb] at fin
        all_goals
          go_wp2
          go_ret
          exact ⟨rfl, H7.out.below0⟩
      · cases hnb : nearN ns a k <;> cases is1 <;> simp [hnb] at fin
        all_goals
          go_wp2
          go_ret
          exact ⟨rfl, H7.out.below0⟩
end Go.Proofs.YtiihhlmddmicjaaDoor
/- A slice of puts that came in. -/
namespace Go.Proofs.YtiihhlmddmicjaaDoor
set_option linter.unusedVariables false
set_option linter.unusedSimpArgs false
open Go.ChangeShapes Go.WideShapes Go.ChangeAt Go.RowKit Go.Joins

section
variable {H : Type} {enc : TypeId × Value → H} {w : World} {base : Nat} {spare : Nat → Bool} {held : Bool}

theorem list4q {α : Type} {zs : List α} (h : zs.length = 4) : ∃ t u v x, zs = [t, u, v, x] := by
  match zs, h with
  | [t, u, v, x], _ => exact ⟨t, u, v, x, rfl⟩

abbrev Put4 (y : Int × Int × Int × Int) : Prop := (0 ≤ y.1 ∧ y.1 < 65536) ∧ (0 ≤ y.2.1 ∧ y.2.1 < 65536) ∧ (0 ≤ y.2.2.1 ∧ y.2.2.1 < 256)

set_option maxRecDepth 100000 in
theorem open_put {n : Nat} {cs : List Value} {x : DataW H × List MemPlace} (h : DataW.trod enc Tryd.prog w base spare held n 81 cs = some x) :
    ∃ y : Int × Int × Int × Int, cs = [.int .u16 y.1, .int .u16 y.2.1, .int .u8 y.2.2.1, .int .u64 y.2.2.2] ∧ Put4 y := by
  obtain ⟨y0, y1, y2, y3, m, _, hl, h0, h1, h2, h3⟩ := Joins.trod_struct4 Tryd.underlying81 h
  rw [show Tryd.prog.cellsOf 81 = 4 by kernel_rfl] at hl
  have e1 : Tryd.prog.cellsOf 79 = 1 := by kernel_rfl
  have e2 : Tryd.prog.cellsOf 5 = 1 := by kernel_rfl
  have e3 : Tryd.prog.cellsOf 34 = 1 := by kernel_rfl
  obtain ⟨a, b, c, d, rfl⟩ := list4q hl
  simp [e1, e2, e3] at h0 h1 h2 h3
  obtain ⟨k, e4, _, w4⟩ := DataW.trod_int Tryd.underlying79 h0
  obtain ⟨p, e5, _, w5⟩ := DataW.trod_int Tryd.underlying79 h1
  obtain ⟨q, e6, _, w6⟩ := DataW.trod_int Tryd.underlying5 h2
  obtain ⟨r, e7, _, w7⟩ := DataW.trod_int Tryd.underlying34 h3
  simp at e4 e5 e6 e7
  subst e4 e5 e6 e7
  have b4 := bounds_u16 w4
  have b5 := bounds_u16 w5
  have b6 := bounds_u8 w6
  exact ⟨(k, p, q, r), rfl, ⟨b4.1, by show k < 65536; omega⟩, ⟨b5.1, by show p < 65536; omega⟩, ⟨b6.1, by show q < 256; omega⟩⟩

set_option maxRecDepth 100000 in
theorem open_puts {r : Reach} {b0 : Nat} {v : Value} {d : DataW H} {p : List MemPlace} (hv : Value.okWide Tryd.prog w r b0 55 v) (h : DataW.Trod enc Tryd.prog w base spare held 55 v d p) :
    ∃ A ds c, v = .slice A ds.length c ∧ ds.length ≤ maxLen ∧ PutsIn w A ds ∧ PutsOk ds := by
  obtain ⟨a, len, cap, rfl⟩ := okWide_slice Tryd.underlying55 hv
  obtain ⟨fuel, hf⟩ := h
  rcases Deep.open_slice Tryd.underlying55 hf with ⟨hcs, _⟩ | ⟨ad, len', cap', m, n, D, Pl, hcs, _, hl, hm, hmm, _, hel⟩
  · have e : Value.slice a len cap = .slice none 0 0 := by simpa [Value.cells] using hcs
    rw [e]
    exact ⟨none, [], 0, rfl, by simp [maxLen], fun k hk => absurd hk (by simp), fun k hk => absurd hk (by simp)⟩
  · have e : Value.slice a len cap = .slice (some ad) len' cap' := by simpa [Value.cells] using hcs
    rw [e]
    have e3 : Tryd.prog.cellsOf 81 = 4 := by kernel_rfl
    rw [e3] at hel
    have hle : len' ≤ m := by rw [hmm]; split <;> omega
    obtain ⟨g, hg⟩ := Deep.choose_lt (α := Int × Int × Int × Int) (n := len') (p := fun k y => (w.cell? (ad.add (k * 4)) = some (.int .u16 y.1) ∧ w.cell? ((ad.add (k * 4)).add 1) = some (.int .u16 y.2.1) ∧ w.cell? ((ad.add (k * 4)).add 2) = some (.int .u8 y.2.2.1) ∧ w.cell? ((ad.add (k * 4)).add 3) = some (.int .u64 y.2.2.2)) ∧ Put4 y) (fun k hk => by
      obtain ⟨cs', h1, h2⟩ := hel k (by omega)
      obtain ⟨y, rfl, w1⟩ := open_put h2
      obtain ⟨_, _, hc⟩ := World.cells?_some h1
      exact ⟨y, ⟨by simpa [Addr.add] using hc 0 (by omega), hc 1 (by omega), hc 2 (by omega), hc 3 (by omega)⟩, w1⟩)
    have hget : ∀ k, k < len' → ((List.range len').map g).getD k (0, 0, 0, 0) = g k := fun k hk => by simp [List.getD, hk]
    refine ⟨some ad, (List.range len').map g, cap', by simp, by simp; omega, fun k hk => ⟨ad, rfl, ?_⟩, fun k hk => ?_⟩
    · have hk' : k < len' := by simpa using hk
      rw [hget k hk']; exact (hg k hk').1
    · have hk' : k < len' := by simpa using hk
      rw [hget k hk']; exact (hg k hk').2
end

theorem bounds_u32 {a : Int} (h : (Lit.int .u32 a).wf = true) : 0 ≤ a ∧ a < 4294967296 := by
  have h' : IntKind.u32.min ≤ a ∧ a ≤ IntKind.u32.max := by simpa [Lit.wf] using h
  have e1 : IntKind.u32.min = 0 := by decide
  have e2 : IntKind.u32.max = 4294967295 := by decide
  omega
end Go.Proofs.YtiihhlmddmicjaaDoor
