/- Several texts of ours in one: Ji, Jh, Jk. -/
import Derived.Test.YtiihhlmddmicjaaDoorGJbCdJc
import Derived.Test.YtiihhlmddmicjaaDoorGHeHfHg
import Derived.Test.YtiihhlmddmicjaaDoorGHqHsJg
/- Layer 11: what a warm psc's lines lead to. Nothing of the program. -/
namespace Go.Proofs.YtiihhlmddmicjaaDoor
set_option linter.unusedVariables false
set_option linter.unusedSimpArgs false

/-- a place to which a walk from the top comes, by the places ix -/
inductive Rch (f : Int → Int) (ix : Int → Int) : Int → Int → Bool → Bool → Bool → Prop
  | top : Rch f ix 4 0 true true true
  | down {l t : Int} {W U X : Bool} {x : Int} (h : Rch f ix l t W U X) (h2 : 2 ≤ l) (he : errS 16 (tableF t + 8 * ix l) = 0) (hx : f ((tableF t + 8 * ix l) / 8) = x) (hP : bitF x 0 = true) (hR : resF x l 16 true = false) (hL : leafF x l = false) :
      Rch f ix (l - 1) (tableF x) (W && bitF x 1) (U && bitF x 2) (X && !bitF x 63)

section
variable {f : Int → Int} {ix iy : Int → Int} {l t : Int} {W U X : Bool}
theorem Rch.lev (h : Rch f ix l t W U X) : 1 ≤ l ∧ l ≤ 4 ∧ W64 t ∧ tableF t = t := by
  induction h with
  | top => exact ⟨by decide, by decide, ⟨by decide, by decide⟩, by decide⟩
  | down h h2 _ _ _ _ _ ih => exact ⟨by omega, by omega, w64_table _, table_table _⟩
theorem Rch.same (h : Rch f ix l t W U X) : (∀ j, l < j → j ≤ 4 → ix j = iy j) → Rch f iy l t W U X := by
  induction h with
  | top => intro _; exact Rch.top
  | down h h2 he hx hP hR hL ih =>
    intro hi
    have e := hi _ (Int.sub_lt_self _ (by decide)) h.lev.2.1
    exact Rch.down (ih fun j h1 h4 => hi j (by omega) h4) h2 (by rw [← e]; exact he) (by rw [← e]; exact hx) hP hR hL
/-- a walk from the top goes through it -/
theorem Rch.through {a : Int} (h : Rch f (indexF a) l t W U X) : ∃ S : List Stp, walkZ 16 f a true 4 0 true true true = preP S (walkZ 16 f a true l t W U X) ∧ (S.length : Int) = 4 - l := by
  induction h with
  | top => exact ⟨[], rfl, rfl⟩
  | @down l t W U X x h h2 he hx hP hR hL ih =>
    obtain ⟨S, hS, hl⟩ := ih
    refine ⟨S ++ [(l, slotF t a l, x)], ?_, by simp; omega⟩
    have hw := walk_at (M := 16) (f := f) (a := a) (nxe := true) (W := W) (U := U) (X := X) (lev := l) (t := t) (s := slotF t a l) (x := x) (by omega) h.lev.2.1 rfl he hx
    rw [hS, hw, on_on hP hR hL, preP_preP]
/-- each step but the last leads to such a place -/
theorem Rch.steps {a : Int} : ∀ (i : Nat) {l t : Int} {W U X : Bool}, Rch f (indexF a) l t W U X → i + 1 < (walkZ 16 f a true l t W U X).steps.length →
    Rch f (indexF a) (l - (i + 1)) (tableF (stepAt (walkZ 16 f a true l t W U X).steps i).2.2) (rgtF W U X (walkZ 16 f a true l t W U X).steps (i + 1)).1 (rgtF W U X (walkZ 16 f a true l t W U X).steps (i + 1)).2.1 (rgtF W U X (walkZ 16 f a true l t W U X).steps (i + 1)).2.2
      ∧ (stepAt (walkZ 16 f a true l t W U X).steps i).1 = l - i ∧ 2 ≤ l - i ∧ leadF (l - i) (stepAt (walkZ 16 f a true l t W U X).steps i).2.2 = true := by
  intro i
  induction i with
  | zero =>
    intro l t W U X h hi
    have hl := h.lev
    by_cases he : errS 16 (slotF t a l) = 0
    · have hw := walk_at (M := 16) (f := f) (a := a) (nxe := true) (W := W) (U := U) (X := X) hl.1 hl.2.1 rfl he rfl
      generalize hx : f (slotF t a l / 8) = x at *
      rw [hw] at hi ⊢
      have hlen : 0 < (onP 16 true l x W U X (walkZ 16 f a true (l - 1))).steps.length := by simpa [preP] using hi
      have h2 : 2 ≤ l ∧ bitF x 0 = true ∧ resF x l 16 true = false ∧ leafF x l = false := by
        cases hP : bitF x 0
        · rw [on_abs hP] at hlen; simp [offP] at hlen
        · cases hR : resF x l 16 true
          · cases hL : leafF x l
            · rw [on_on hP hR hL] at hlen
              refine ⟨?_, rfl, rfl, rfl⟩
              apply Classical.byContradiction
              intro hn
              rw [walk_off (by omega)] at hlen
              simp [offP] at hlen
            · rw [on_leaf hP hR hL] at hlen; simp at hlen
          · rw [on_res hP hR] at hlen; simp [offP] at hlen
      obtain ⟨h2, hP, hR, hL⟩ := h2
      have := Rch.down h h2 he hx hP hR hL
      refine ⟨by simpa [preP, stepAt, rgtF] using this, by simp [preP, stepAt], by omega, ?_⟩
      unfold leadF
      simp [preP, stepAt, hP, hL]
      omega
    · rw [walk_err hl.1 hl.2.1 he] at hi; simp [offP] at hi
  | succ i ih =>
    intro l t W U X h hi
    have hl := h.lev
    by_cases he : errS 16 (slotF t a l) = 0
    · have hw := walk_at (M := 16) (f := f) (a := a) (nxe := true) (W := W) (U := U) (X := X) hl.1 hl.2.1 rfl he rfl
      generalize hx : f (slotF t a l / 8) = x at *
      rw [hw] at hi ⊢
      have hlen : i + 1 < (onP 16 true l x W U X (walkZ 16 f a true (l - 1))).steps.length := by simpa [preP] using hi
      have h2 : 2 ≤ l ∧ bitF x 0 = true ∧ resF x l 16 true = false ∧ leafF x l = false := by
        cases hP : bitF x 0
        · rw [on_abs hP] at hlen; simp [offP] at hlen
        · cases hR : resF x l 16 true
          · cases hL : leafF x l
            · rw [on_on hP hR hL] at hlen
              refine ⟨?_, rfl, rfl, rfl⟩
              apply Classical.byContradiction
              intro hn
              rw [walk_off (by omega)] at hlen
              simp [offP] at hlen
            · rw [on_leaf hP hR hL] at hlen; simp at hlen
          · rw [on_res hP hR] at hlen; simp [offP] at hlen
      obtain ⟨h2, hP, hR, hL⟩ := h2
      have hd := Rch.down h h2 he hx hP hR hL
      rw [on_on hP hR hL] at hlen ⊢
      have := ih hd hlen
      generalize walkZ 16 f a true (l - 1) (tableF x) (W && bitF x 1) (U && bitF x 2) (X && !bitF x 63) = Q at *
      have e1 : stepAt (preP [(l, slotF t a l, x)] Q).steps (i + 1) = stepAt Q.steps i := by simp [preP, stepAt]
      have e2 : rgtF W U X (preP [(l, slotF t a l, x)] Q).steps (i + 1 + 1) = rgtF (W && bitF x 1) (U && bitF x 2) (X && !bitF x 63) Q.steps (i + 1) := rfl
      rw [e1, e2, show l - (((i + 1 : Nat) : Int) + 1) = l - 1 - ((i : Int) + 1) by omega, show l - ((i + 1 : Nat) : Int) = l - 1 - (i : Int) by omega]
      exact this
    · rw [walk_err hl.1 hl.2.1 he] at hi; simp [offP] at hi
end

theorem getK_mem {L : List Pr} {k : Ky} {l : Ln} (h : getK L k = some l) : (k, l) ∈ L := by
  unfold getK at h
  obtain ⟨x, hx, rfl⟩ := Option.map_eq_some_iff.1 h
  have h1 := List.find?_some hx
  have h2 := List.mem_of_find?_eq_some hx
  simp at h1
  rw [← h1]; exact h2
theorem deep_mem {L : Ls} {p a l : Int} {x : Ln} (h : deepK L p a = some (l, x)) : ∃ k : Nat, k < 3 ∧ l = 3 - (k : Int) ∧ (kyF p a (4 - (k : Int)), x) ∈ L k := by
  unfold deepK at h
  cases h2 : getK (L 2) (kyF p a 2) with
  | some y => rw [h2] at h; simp at h; obtain ⟨rfl, rfl⟩ := h; exact ⟨2, by decide, by decide, getK_mem h2⟩
  | none =>
    rw [h2] at h
    cases h1 : getK (L 1) (kyF p a 3) with
    | some y => rw [h1] at h; simp at h; obtain ⟨rfl, rfl⟩ := h; exact ⟨1, by decide, by decide, getK_mem h1⟩
    | none =>
      rw [h1] at h
      cases h0 : getK (L 0) (kyF p a 4) with
      | some y => rw [h0] at h; simp at h; obtain ⟨rfl, rfl⟩ := h; exact ⟨0, by decide, by decide, getK_mem h0⟩
      | none => rw [h0] at h; simp at h

/-- what each line of a warm psc is -/
def Warm (f : Int → Int) (ns : List Int) (n : Nat) (L : Ls) : Prop := ∀ (k : Nat), k < 3 → ∀ x ∈ L k, ∃ j, j < n ∧ x.1 = kyF 1 (nearF (ns.getD j 0)) (4 - (k : Int)) ∧ Rch f (indexF (nearF (ns.getD j 0))) (3 - (k : Int)) x.2.1 x.2.2.1 x.2.2.2.1 x.2.2.2.2.1
end Go.Proofs.YtiihhlmddmicjaaDoor
/- Layer 11: a walk of a memory, as an object's turn; built of the law's own. -/
namespace Go.Proofs.YtiihhlmddmicjaaDoor
set_option linter.unusedVariables false
set_option linter.unusedSimpArgs false
open Go.ChangeShapes Go.WideShapes Go.ChangeAt Go.RowKit Go.Joins

set_option maxRecDepth 100000 in
theorem built11_any (w : World) (A : Option Addr) (c : Nat) (ds : List (Int × Int × Int × Int)) (hl : ds.length ≤ maxLen) (hd : PutsIn w A ds) (hok : PutsOk ds) :
    Calls Tryd.prog 17 #[.slice A ds.length c] w fun e w' => e = .returned (.pointer (some ⟨w.heap.size + 1, 0, none⟩)) ∧ Mem w' (From w.heap.size) (w.heap.size + 1) 16 (putSt ds (mostP ds)) [] 100 ∧ Below w.heap.size w w' := by
  unfold maxLen at hl
  go_enter Tryd.func17, Tryd.ntmps17
  go_wp2_with (go_at_call 44; refine (newMem_any 16 _ ⟨by decide, by decide⟩).mono ?_; rintro e w1 ⟨rfl, hM1, hB1⟩)
  go_loopw [4] (fun i wr => ∃ k : Nat, k ≤ mostP ds ∧ i = .int .i64 k ∧ Mem wr (From w.heap.size) (w.heap.size + 1) 16 (putSt ds k) [] k ∧ Below w.heap.size w wr) (fun i _ => (100 - intOf i).toNat)
  case atStart => exact ⟨0, Nat.zero_le _, rfl, hM1, hB1⟩
  case round =>
    obtain ⟨k, hk, rfl, hM, hB⟩ := hrel
    have hm0 : mostP ds ≤ 100 := by unfold mostP; omega
    have hm1 : mostP ds ≤ ds.length := by unfold mostP; omega
    by_cases hlt : k < mostP ds
    · obtain ⟨ad, rfl, c0, c1, c2, c3⟩ := puts_below hd hB k (by omega)
      obtain ⟨⟨s0, s1⟩, ⟨f0, f1⟩, l0, l1⟩ := hok k (by omega)
      have hF : putSt ds (k + 1) = storeS 16 (putSt ds k) (atS (ds.getD k (0, 0, 0, 0)).1) (atX (ds.getD k (0, 0, 0, 0)).2.1 (ds.getD k (0, 0, 0, 0)).2.2.1 (ds.getD k (0, 0, 0, 0)).2.2.2) := rfl
      have c1' : wr.cell? ⟨(ad.add (k * 4)).block, (ad.add (k * 4)).off + 1, none⟩ = some (.int .u16 (ds.getD k (0, 0, 0, 0)).2.1) := c1
      have c2' : wr.cell? ⟨(ad.add (k * 4)).block, (ad.add (k * 4)).off + 2, none⟩ = some (.int .u8 (ds.getD k (0, 0, 0, 0)).2.2.1) := c2
      have c3' : wr.cell? ⟨(ad.add (k * 4)).block, (ad.add (k * 4)).off + 3, none⟩ = some (.int .u64 (ds.getD k (0, 0, 0, 0)).2.2.2) := c3
      have hks : k < ds.length := by omega
      have h100 : (k : Int) < 100 := by omega
      generalize (ds.getD k (0, 0, 0, 0)).1 = sl at *
      generalize (ds.getD k (0, 0, 0, 0)).2.1 = fr at *
      generalize (ds.getD k (0, 0, 0, 0)).2.2.1 = fl at *
      generalize (ds.getD k (0, 0, 0, 0)).2.2.2 = mo at *
      have HF := Lib.hid hF
      have CA := fun w' => at_any sl fr fl mo w' s0 s1 f0 f1 l0 l1
      clear hF c1 c2 c3 hd hok s0 s1 f0 f1 l0 l1
      go_wp2_with (first | (go_at_call 45; refine (CA _).mono ?_; rintro e w2 ⟨rfl, hB2⟩; have hM2 := hM.kept hB2) | (go_at_call 46; refine (bstore hM2 (by omega) _ _ (atS_w _) (atX_w _ _ _)).mono ?_; rintro e w3 ⟨rfl, hM3, hB3⟩))
      rw [← HF.out] at hM3
      have RB := (hB.trans (hB2.mono hB.size)).trans hB3
      go_roundw
      case rel => exact ⟨k + 1, by omega, by go_num, hM3, RB⟩
      case measure => simp [intOf]; omega
    · have e : k = mostP ds := by omega
      by_cases h1 : k < ds.length
      · have h2 : k = 100 := by unfold mostP at e; omega
        subst h2
        go_wp2
        go_ret
        exact ⟨rfl, by rw [e] at hM; rw [← e]; rw [← e] at hM; exact hM, hB⟩
      · have h2 : ds.length ≤ k := by omega
        clear hd hok
        go_wp2
        go_ret
        exact ⟨rfl, by rw [← e]; exact hM.more (by omega), hB⟩


theorem off_block' {n c k : Nat} {A : Option Addr} {G : Nat → Prop} (hn : ∀ i, (Value.slice A n c).ownBlock = some i → ¬ G i) : ∀ ad, A = some ad → 0 < k → ¬ G ad.block := fun ad h _ => hn _ (by rw [h]; rfl)

/-- built, as an object of the law's own -/
theorem builtH_any (w : World) (A : Option Addr) (c : Nat) (ds : List (Int × Int × Int × Int)) (hl : ds.length ≤ maxLen) (hd : PutsIn w A ds) (hok : PutsOk ds) :
    Calls Tryd.prog 17 #[.slice A ds.length c] w fun e w' => ∃ m G, e = .returned (ptrV m) ∧ Has w w' (fun _ => False) [⟨memT m 16 (putSt ds (mostP ds)) [] 100, G⟩] [] [] := by
  refine (built11_any w A c ds hl hd hok).mono ?_
  rintro e w' ⟨rfl, hM, hB⟩
  exact ⟨_, _, rfl, (Has.start0 w _).made (firm_mem _ _ _ _ _) hM hB⟩

section
variable {w wr : World} {F G : Nat → Prop} {os : List ObjT} {bs : List BoxD} {rs : List RowD} {m k : Nat} {f : Int → Int} {tr : List Int} {n : Nat}
/-- a walk through the memory at a place: it, and the steps that it answers -/
theorem Has.walk (h : Has w wr F os bs rs) (hs : Shifts w) (h0 : ¬ F 0) (k : Nat) (hk : os[k]? = some ⟨memT m 16 f tr n, G⟩) (hn : n < 900000) (lev t a : Int) (W U X nxe : Bool) (ht : W64 t) (ha : W64 a) (P : Pth) (hP : walkZ 16 f a nxe lev t W U X = P) (l : Nat) (hl : P.steps.length = l) :
    Calls Tryd.prog 20 #[.pointer (some ⟨m, 0, none⟩), placeV lev t W U X, .int .u64 a, .bool nxe] wr fun e w' =>
      ∃ A c G' tr', e = .returned (pathV (.slice A l c) P.why P.W P.U P.X P.lev P.fr) ∧ Has w w' F (os.set k ⟨memT m 16 f tr' (n + 5), G'⟩) bs (⟨65, 3, .slice A l c, l, stepCells P.steps⟩ :: rs) := by
  subst hP
  refine (from_any (h.the k hk) hn (h.no0 hs h0 k hk) (h.shifts hs h0) lev t a W U X nxe ht ha).mono ?_
  rintro e w' ⟨v, G', rfl, hW, hS, hv, _⟩
  obtain ⟨A, c, rfl⟩ := hS.form
  rw [hl] at hS hv
  refine ⟨A, c, G', tr ++ slotsP (walkZ 16 f a nxe lev t W U X).steps, by rw [hl], ?_⟩
  have h1 := h.call k hk (Has.walked hW)
  rw [List.append_nil] at h1
  refine h1.got (B := wr.heap.size + 3) (by unfold StepsOwn at hS; rw [hl] at hS; exact hS) fun i hi ⟨o, ho, hg⟩ => ?_
  have hkl : k < os.length := by
    rcases Nat.lt_or_ge k os.length with h1 | h1
    · exact h1
    · rw [List.getElem?_eq_none h1] at hk; cases hk
  obtain ⟨j, hj, hjo⟩ := List.mem_iff_getElem.1 ho
  have hj' : j < os.length := by simpa using hj
  by_cases e : k = j
  · subst e
    rw [List.getElem_set_self] at hjo
    subst hjo
    exact hv i hi hg
  · rw [List.getElem_set_ne e] at hjo
    subst hjo
    have h2 := ((h.obj _ (List.getElem_mem hj')).2.2 i hg).1
    have h3 := (hS.lt hi).1
    omega
theorem own_steps {w : World} {B l c : Nat} {A : Option Addr} {S : List Stp} (h : w.ownsRow B 65 3 (.slice A l c) l (stepCells S)) (hl : S.length = l) : StepsIn w (.slice A l c) S := by
  subst hl; exact StepsOwn.into (base := B) h
end
end Go.Proofs.YtiihhlmddmicjaaDoor
/- Layer 11: warm, a psc behind walks to some addresses. (Laid by tools/gen_jk.py.) -/
namespace Go.Proofs.YtiihhlmddmicjaaDoor
set_option linter.unusedVariables false
set_option linter.unusedSimpArgs false
open Go.ChangeShapes Go.WideShapes Go.ChangeAt Go.RowKit Go.Joins

theorem deepV_some (l t : Int) (W U X d : Bool) (m : Int) : deepV (some (l, t, W, U, X, d, m)) = .tuple #[placeV l t W U X, .bool true] := rfl
theorem deepV_none : deepV none = .tuple #[placeV 0 0 false false false, .bool false] := rfl
theorem i64_0 : I64 0 := ⟨by decide, by decide⟩
end Go.Proofs.YtiihhlmddmicjaaDoor
