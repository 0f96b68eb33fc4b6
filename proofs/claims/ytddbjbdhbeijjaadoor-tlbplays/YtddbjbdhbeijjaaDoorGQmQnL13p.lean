/- Several texts of ours in one: Qm, Qn, L13p. -/
import Derived.Test.YtddbjbdhbeijjaaDoorGEtNcQa
import Derived.Test.YtddbjbdhbeijjaaDoorGQiQjQk
import Derived.Deep.RegionHeld3
/- Layer 13: mathematics of the laws. Nothing of the program. -/
namespace Go.Proofs.YtddbjbdhbeijjaaDoor
set_option linter.unusedVariables false
set_option linter.unusedSimpArgs false

section
variable {R : Nat} {L : List Pr}
theorem get_put (hn : (keysK L).Nodup) (hR : 0 < R) (k : Ky) (l : Ln) (a : Int) : getK (putK R L k l a) k = some l := by
  unfold putK
  cases hx : idxF (keysK L) k with
  | some i =>
    obtain ⟨h1, h2⟩ := idxF_of hx
    show getK (L.set i (k, l)) k = _
    rw [getK_set hn (by rwa [keysK_len] at h1) h2]
    simp [updG]
  | none =>
    have hk := idxF_no hx
    simp only []
    rw [if_neg (by omega)]
    have hk2 : k ∉ keysK (if R ≤ L.length then evK L a else L) := by
      split
      · exact fun h => hk ((List.Sublist.map _ (evK_sub L a)).subset h)
      · exact hk
    rw [getK_push hk2]
    simp [updG]

theorem run_same {L L' : List Pr} {p b : Int} (h : getK L' (kyT p b 1) = getK L (kyT p b 1)) : runT L' p b = runT L p b := by unfold runT; rw [h]
theorem great_same {L L' : List Pr} {p b lv : Int} (h : getK L' (kyT p b lv) = getK L (kyT p b lv)) : greatT L' p b lv = greatT L p b lv := by unfold greatT; rw [h]

theorem ky_tag {p a b l : Int} (h : tagT a l = tagT b l) : kyT p a l = kyT p b l := by unfold kyT; rw [h]
theorem ky_ntag {p a b l : Int} (h : tagT a l ≠ tagT b l) : kyT p b l ≠ kyT p a l := fun e => h (congrArg (fun k : Ky => k.2.2) e).symm

theorem wth_zL (i : Int) : wthG zL i = zL := by
  have h : hasM 0 i = false := by
    cases h : hasM 0 i with
    | false => rfl
    | true => unfold hasM at h; simp [tb] at h
  unfold wthG
  rw [if_pos (by show clrM 0 i = 0; unfold clrM; rw [h]; rfl)]
theorem get_split_other (hn : (keysK L).Nodup) (p a : Int) {j : Ky} (hj : j ≠ kyT p a 1) : getK (splitT R L p a) j = getK L j := by
  unfold splitT
  cases hx : getK L (kyT p a 1) with
  | none => rfl
  | some l =>
    simp only []
    split
    · exact get_drop hn hj
    · rw [putK_swap hn hx, get_swap hn hx, if_neg hj]
theorem get_split_own (hn : (keysK L).Nodup) (p a : Int) : (getK (splitT R L p a) (kyT p a 1)).getD zL = wthG ((getK L (kyT p a 1)).getD zL) (plT a) := by
  unfold splitT
  cases hx : getK L (kyT p a 1) with
  | none => simp only [Option.getD_none]; rw [hx]; exact (wth_zL _).symm
  | some l =>
    simp only [Option.getD_some]
    split
    · rename_i hz
      rw [getK_dropped hn, (zero_wth _ _).1 hz]; rfl
    · rw [putK_swap hn hx, get_swap hn hx, if_pos rfl]; rfl
theorem nodup_split (hn : (keysK L).Nodup) (p a : Int) : (keysK (splitT R L p a)).Nodup := by
  unfold splitT
  cases hx : getK L (kyT p a 1) with
  | none => exact hn
  | some l =>
    simp only []
    split
    · exact nodup_dropK hn _
    · rw [putK_swap hn hx, keysK_swap]; exact hn
theorem get_dropT (hn : (keysK L).Nodup) (p a : Int) {j : Ky} (h2 : j ≠ kyT p a 2) (h3 : j ≠ kyT p a 3) : getK (dropT R L p a) j = getK (splitT R L p a) j := by
  unfold dropT
  have hs := nodup_split (R := R) hn p a
  rw [get_drop (nodup_dropK hs _) h3, get_drop hs h2]
theorem get_dropT_great (hn : (keysK L).Nodup) (p a : Int) : getK (dropT R L p a) (kyT p a 2) = none ∧ getK (dropT R L p a) (kyT p a 3) = none := by
  unfold dropT
  have hs := nodup_split (R := R) hn p a
  refine ⟨?_, getK_dropped (nodup_dropK hs _) _⟩
  rw [get_drop (nodup_dropK hs _) (ky_ne (by decide)), getK_dropped hs]

theorem run_drop_same (hn : (keysK L).Nodup) (ho : OkLs L) {p a b : Int} (ht : tagT a 1 = tagT b 1) : runT (dropT R L p a) p b = if plT a = plT b then none else runT L p b := by
  have hk := ky_tag (p := p) ht
  have hg : (getK (dropT R L p a) (kyT p b 1)).getD zL = wthG ((getK L (kyT p b 1)).getD zL) (plT a) := by
    rw [get_dropT hn p a (ky_ne (by decide)) (ky_ne (by decide)), ← hk, get_split_own hn]
  have hok := ok_get ho (kyT p b 1)
  unfold runT
  rw [hg]
  generalize (getK L (kyT p b 1)).getD zL = l at *
  rw [has_wth hok]
  by_cases e : plT a = plT b
  · rw [if_pos e, decide_eq_false (by simp [e])]; simp
  · rw [if_neg e, decide_eq_true e, Bool.and_true]
    by_cases hh : hasG l (plT b)
    · rw [if_pos hh, if_pos hh]
      have hz : wthG l (plT a) ≠ zL := fun h0 => by
        have h1 := has_wth hok (plT a) (plT b)
        rw [h0, hh, decide_eq_true e] at h1
        have h2 : hasG zL (plT b) = false := by
          cases h : hasG zL (plT b) with
          | false => rfl
          | true => unfold hasG hasM at h; simp [zL, tb] at h
        rw [h2] at h1; cases h1
      have hc : wthG l (plT a) = cutG l (plT a) := by
        unfold wthG
        rw [if_neg]
        intro h0
        exact hz ((zero_wth _ _).1 (by rw [mask_wth]; exact h0))
      rw [hc]; rfl
    · rw [if_neg hh, if_neg hh]
theorem run_drop_other (hn : (keysK L).Nodup) {p a b : Int} (ht : tagT a 1 ≠ tagT b 1) : runT (dropT R L p a) p b = runT L p b :=
  run_same (by rw [get_dropT hn p a (ky_ne (by decide)) (ky_ne (by decide)), get_split_other hn p a (ky_ntag ht)])
theorem great_drop_other (hn : (keysK L).Nodup) {p a b lv : Int} (hl : lv = 2 ∨ lv = 3) (ht : tagT a lv ≠ tagT b lv) : greatT (dropT R L p a) p b lv = greatT L p b lv := by
  refine great_same ?_
  have h1 : kyT p b lv ≠ kyT p a 1 := ky_ne (by omega)
  rw [get_dropT hn p a, get_split_other hn p a h1]
  · rcases hl with rfl | rfl
    · exact ky_ntag ht
    · exact ky_ne (by decide)
  · rcases hl with rfl | rfl
    · exact ky_ne (by decide)
    · exact ky_ntag ht
theorem great_drop_same (hn : (keysK L).Nodup) {p a b lv : Int} (hl : lv = 2 ∨ lv = 3) (ht : tagT a lv = tagT b lv) : greatT (dropT R L p a) p b lv = none := by
  unfold greatT
  rw [← ky_tag ht]
  obtain ⟨h2, h3⟩ := get_dropT_great (R := R) hn p a
  rcases hl with rfl | rfl
  · rw [h2]; rfl
  · rw [h3]; rfl

theorem look_eq {L L' : List Pr} {p q b : Int} (h1 : runT L' p b = runT L q b) (h2 : greatT L' p b 2 = greatT L q b 2) (h3 : greatT L' p b 3 = greatT L q b 3) : lookT L' p b = lookT L q b := by unfold lookT; rw [h1, h2, h3]
theorem look_none {L : List Pr} {p b : Int} : lookT L p b = none ↔ runT L p b = none ∧ greatT L p b 2 = none ∧ greatT L p b 3 = none := by
  unfold lookT
  cases h1 : runT L p b <;> cases h2 : greatT L p b 2 <;> cases h3 : greatT L p b 3 <;> simp

/-- a page that is dropped isn't found -/
theorem dropT_gone (hn : (keysK L).Nodup) (ho : OkLs L) (p a : Int) : lookT (dropT R L p a) p a = none :=
  look_none.2 ⟨by rw [run_drop_same hn ho rfl, if_pos rfl], great_drop_same hn (Or.inl rfl) rfl, great_drop_same hn (Or.inr rfl) rfl⟩
/-- another PCID's pages are as they were -/
theorem dropT_pcid (hn : (keysK L).Nodup) {p q : Int} (hpq : q ≠ p) (a b : Int) : lookT (dropT R L p a) q b = lookT L q b := by
  have h : ∀ l, getK (dropT R L p a) (kyT q b l) = getK L (kyT q b l) := fun l => by
    rw [get_dropT hn p a (ky_pcid hpq) (ky_pcid hpq), get_split_other hn p a (ky_pcid hpq)]
  exact look_eq (run_same (h 1)) (great_same (h 2)) (great_same (h 3))
theorem run_less (hn : (keysK L).Nodup) (ho : OkLs L) {p a b : Int} (h : runT L p b = none) : runT (dropT R L p a) p b = none := by
  by_cases e : tagT a 1 = tagT b 1
  · rw [run_drop_same hn ho e, h]; split <;> rfl
  · rw [run_drop_other hn e, h]
theorem great_less (hn : (keysK L).Nodup) {p a b lv : Int} (hl : lv = 2 ∨ lv = 3) (h : greatT L p b lv = none) : greatT (dropT R L p a) p b lv = none := by
  by_cases e : tagT a lv = tagT b lv
  · exact great_drop_same hn hl e
  · rw [great_drop_other hn hl e, h]
theorem dropT_less (hn : (keysK L).Nodup) (ho : OkLs L) {p a b : Int} (h : lookT L p b = none) : lookT (dropT R L p a) p b = none := by
  obtain ⟨h1, h2, h3⟩ := look_none.1 h
  exact look_none.2 ⟨run_less hn ho h1, great_less hn (Or.inl rfl) h2, great_less hn (Or.inr rfl) h3⟩
/-- of which level what a look finds is -/
theorem look_parts {p b : Int} {x : Ht} (h : lookT L p b = some x) :
    (runT L p b = some x ∧ x.2.1 = 1) ∨ (runT L p b = none ∧ greatT L p b 2 = some x ∧ x.2.1 = 2) ∨ (runT L p b = none ∧ greatT L p b 2 = none ∧ greatT L p b 3 = some x ∧ x.2.1 = 3) := by
  have hl : ∀ lv y, greatT L p b lv = some y → y.2.1 = lv := fun lv y hy => by
    unfold greatT at hy
    obtain ⟨l, _, rfl⟩ := Option.map_eq_some_iff.1 hy
    rfl
  have hr : ∀ y, runT L p b = some y → y.2.1 = 1 := fun y hy => by
    unfold runT at hy
    split at hy
    · rw [← Option.some.inj hy]; rfl
    · cases hy
  unfold lookT at h
  cases h1 : runT L p b with
  | some y => rw [h1] at h; simp only [] at h; rw [h] at h1; exact Or.inl ⟨h, hr _ h1⟩
  | none =>
    rw [h1] at h
    cases h2 : greatT L p b 2 with
    | some y => rw [h2] at h; simp only [] at h; rw [h] at h2; exact Or.inr (Or.inl ⟨rfl, h, hl _ _ h2⟩)
    | none => rw [h2] at h; simp only [] at h; exact Or.inr (Or.inr ⟨rfl, rfl, h, hl _ _ h⟩)
theorem look_run {L : List Pr} {p b : Int} {x : Ht} (h : runT L p b = some x) : lookT L p b = some x := by unfold lookT; rw [h]
theorem look_two {L : List Pr} {p b : Int} {x : Ht} (h1 : runT L p b = none) (h : greatT L p b 2 = some x) : lookT L p b = some x := by unfold lookT; rw [h1]; simp only []; rw [h]
theorem look_three {L : List Pr} {p b : Int} {x : Ht} (h1 : runT L p b = none) (h2 : greatT L p b 2 = none) (h : greatT L p b 3 = some x) : lookT L p b = some x := by unfold lookT; rw [h1]; simp only []; rw [h2]; exact h
theorem page_tag {a b lv : Int} (hl : lv = 2 ∨ lv = 3) (h : pageF a lv ≠ pageF b lv) : tagT a lv ≠ tagT b lv := by
  rcases hl with rfl | rfl
  · rw [tagT2, tagT2]; unfold pageF lowF sizeF at h; simp at h; omega
  · rw [tagT3, tagT3]; unfold pageF lowF sizeF at h; simp at h; omega
theorem page_one {a b : Int} (h : pageF a 1 ≠ pageF b 1) : tagT a 1 ≠ tagT b 1 ∨ plT a ≠ plT b := by
  rw [tag1, tag1]; unfold plT; unfold pageF lowF sizeF at h; simp at h; omega
/-- a page that was found, of another page than the one that is dropped, is as it was -/
theorem dropT_stays (hn : (keysK L).Nodup) (ho : OkLs L) {p a b : Int} {x : Ht} (h : lookT L p b = some x) (hp : pageF a x.2.1 ≠ pageF b x.2.1) : lookT (dropT R L p a) p b = some x := by
  rcases look_parts h with ⟨h1, e⟩ | ⟨h1, h2, e⟩ | ⟨h1, h2, h3, e⟩
  · rw [e] at hp
    refine look_run ?_
    by_cases et : tagT a 1 = tagT b 1
    · rw [run_drop_same hn ho et, if_neg ((page_one hp).resolve_left fun h => h et), h1]
    · rw [run_drop_other hn et, h1]
  · rw [e] at hp
    exact look_two (run_less hn ho h1) (by rw [great_drop_other hn (Or.inl rfl) (page_tag (Or.inl rfl) hp), h2])
  · rw [e] at hp
    exact look_three (run_less hn ho h1) (great_less hn (Or.inl rfl) h2) (by rw [great_drop_other hn (Or.inr rfl) (page_tag (Or.inr rfl) hp), h3])

/-- all of a PCID are gone, and no others -/
theorem get_of (hn : (keysK L).Nodup) (p : Int) (k : Ky) : getK (ofK L p) k = if k.1 = p then none else getK L k := by
  unfold ofK
  by_cases e : k.1 = p
  · rw [if_pos e, getK_none]
    intro h
    unfold keysK at h
    obtain ⟨x, hx, hk⟩ := List.mem_map.1 h
    have := (List.mem_filter.1 hx).2
    rw [hk] at this
    simp [e] at this
  · rw [if_neg e]
    apply Option.ext
    intro l
    rw [getK_iff (nodupK_filter hn _), getK_iff hn, List.mem_filter]
    simp [e]
theorem ofT_gone (hn : (keysK L).Nodup) (p b : Int) : lookT (ofK L p) p b = none := by
  have h : ∀ l, getK (ofK L p) (kyT p b l) = none := fun l => by rw [get_of hn]; exact if_pos rfl
  refine look_none.2 ⟨?_, ?_, ?_⟩
  · unfold runT; rw [h]
    rw [show hasG ((none : Option Ln).getD zL) (plT b) = false from ?_]; rfl
    cases h : hasG ((none : Option Ln).getD zL) (plT b) with
    | false => rfl
    | true => unfold hasG hasM at h; simp [zL, tb] at h
  · unfold greatT; rw [h]; rfl
  · unfold greatT; rw [h]; rfl
theorem ofT_pcid (hn : (keysK L).Nodup) {p q : Int} (hpq : q ≠ p) (b : Int) : lookT (ofK L p) q b = lookT L q b := by
  have h : ∀ l, getK (ofK L p) (kyT q b l) = getK L (kyT q b l) := fun l => by rw [get_of hn]; exact if_neg hpq
  exact look_eq (run_same (h 1)) (great_same (h 2)) (great_same (h 3))

/-- an address of the i-th page of a's group -/
def adT (a i : Int) : Int := a / 32768 * 32768 + 4096 * i + a % 4096
theorem ad_bd {a i : Int} (h : W64 a) (i0 : 0 ≤ i) (i7 : i ≤ 7) : W64 (adT a i) := by obtain ⟨h0, h1⟩ := h; unfold adT W64; omega
theorem ad_tag {a i : Int} (i0 : 0 ≤ i) (i7 : i ≤ 7) : tagT (adT a i) 1 = tagT a 1 := by rw [tag1, tag1]; unfold adT; omega
theorem ad_pl {a i : Int} (i0 : 0 ≤ i) (i7 : i ≤ 7) : plT (adT a i) = i := by unfold plT adT; omega
/-- a run that is put is found for each page that it has; for no other one on the level 1 -/
theorem small_has (hn : (keysK L).Nodup) (hR : 0 < R) (p a k : Int) {l : Ln} (hz : l.2.2.2.2.2 ≠ 0) {i : Int} (i0 : 0 ≤ i) (i7 : i ≤ 7) (hh : hasG l i = true) : lookT (smallT R L p a l k) p (adT a i) = some (hitL l (atG l i) 1) := by
  refine look_run ?_
  unfold smallT runT
  rw [if_neg hz, ky_tag (ad_tag i0 i7), get_put hn hR, ad_pl i0 i7]
  show (if hasG l i then some (hitL l (frmF l.1 i) 1) else none) = _
  unfold atG
  rw [hh]; rfl
theorem small_none (hn : (keysK L).Nodup) (hR : 0 < R) (p a k : Int) {l : Ln} (hz : l.2.2.2.2.2 ≠ 0) {i : Int} (i0 : 0 ≤ i) (i7 : i ≤ 7) (hh : hasG l i = false) {x : Ht} (hx : lookT (smallT R L p a l k) p (adT a i) = some x) : x.2.1 ≠ 1 := by
  have hr : runT (smallT R L p a l k) p (adT a i) = none := by
    unfold smallT runT
    rw [if_neg hz, ky_tag (ad_tag i0 i7), get_put hn hR, ad_pl i0 i7]
    show (if hasG l i then some (hitL l (frmF l.1 i) 1) else none) = _
    rw [hh]; rfl
  rcases look_parts hx with ⟨h1, _⟩ | ⟨_, _, e⟩ | ⟨_, _, _, e⟩
  · rw [hr] at h1; cases h1
  · omega
  · omega
/-- a great page that is put is found all over it, or one of a lower level is -/
theorem big_found (hn : (keysK L).Nodup) (hR : 0 < R) (p a k : Int) {g : Ht} (h2 : g.2.1 = 2 ∨ g.2.1 = 3) {b : Int} (ht : tagT b g.2.1 = tagT a g.2.1) : ∃ x, lookT (bigT R L p a g k) p b = some x ∧ (x = g ∨ x.2.1 < g.2.1) := by
  have hg : greatT (bigT R L p a g k) p b g.2.1 = some g := by
    unfold bigT greatT
    rw [if_pos h2, ky_tag ht, get_put hn hR]
    rfl
  obtain ⟨x, hx⟩ : ∃ x, lookT (bigT R L p a g k) p b = some x := by
    cases hx : lookT (bigT R L p a g k) p b with
    | some x => exact ⟨x, rfl⟩
    | none =>
      obtain ⟨_, e2, e3⟩ := look_none.1 hx
      rcases h2 with e | e
      · rw [e, e2] at hg; cases hg
      · rw [e, e3] at hg; cases hg
  refine ⟨x, hx, ?_⟩
  rcases look_parts hx with ⟨_, e⟩ | ⟨_, e2, e⟩ | ⟨_, e2, e3, e⟩
  · exact Or.inr (by omega)
  · rcases h2 with e4 | e4
    · rw [e4, e2] at hg; exact Or.inl (Option.some.inj hg)
    · exact Or.inr (by omega)
  · rcases h2 with e4 | e4
    · rw [e4, e2] at hg; cases hg
    · rw [e4, e3] at hg; exact Or.inl (Option.some.inj hg)
/-- an address of a's great page -/
def agT (a o s : Int) : Int := a / s * s + o % s
theorem ag_bd {a o s : Int} (h : W64 a) (hs : s = 2097152 ∨ s = 1073741824) : W64 (agT a o s) := by
  obtain ⟨h0, h1⟩ := h
  unfold agT W64
  rcases hs with rfl | rfl <;> omega
theorem ag_tag2 (a o : Int) : tagT (agT a o 2097152) 2 = tagT a 2 := by rw [tagT2, tagT2]; unfold agT; omega
theorem ag_tag3 (a o : Int) : tagT (agT a o 1073741824) 3 = tagT a 3 := by rw [tagT3, tagT3]; unfold agT; omega
theorem pcid_next {p : Int} (h : I64 p) : IntKind.i64.wrap (p + 1) ≠ p ∧ I64 (IntKind.i64.wrap (p + 1)) := by
  obtain ⟨h0, h1⟩ := h
  rw [IntKind.wrap_i64]
  unfold I64
  omega
end
end Go.Proofs.YtddbjbdhbeijjaaDoor
/- Layer 13: what the laws' walks share. (Laid by tools/gen_l13.py.) -/
namespace Go.Proofs.YtddbjbdhbeijjaaDoor
set_option linter.unusedVariables false
set_option linter.unusedSimpArgs false
open Go.ChangeShapes Go.WideShapes Go.ChangeAt Go.RowKit Go.Joins

theorem dts_below {w w' : World} {A : Option Addr} {ds : List Dt} (h : DtsIn w A ds) (hb : Below w.heap.size w w') : DtsIn w' A ds := fun k hk => by
  obtain ⟨ad, e, hd⟩ := h k hk
  exact ⟨ad, e, hd.below hb⟩
theorem ans_h (o : Option Ht) : ∃ g is, ansT o = .tuple #[.agg #[.int .u64 g.1, .int .i64 g.2.1, .bool g.2.2.1, .bool g.2.2.2.1, .bool g.2.2.2.2.1, .bool g.2.2.2.2.2], .bool is] ∧ o.getD zH = g ∧ o.isSome = is := ⟨_, _, rfl, rfl, rfl⟩
theorem bits_one (x : Int) : bits .and .i64 x 1 = 0 ∨ bits .and .i64 x 1 = 1 := by
  have e : bits .and .i64 x 1 = IntKind.i64.wrap (((BitVec.ofInt 64 x &&& BitVec.ofInt 64 1).toNat : Nat) : Int) := rfl
  have h : (BitVec.ofInt 64 x &&& BitVec.ofInt 64 1).toNat ≤ 1 := by
    rw [BitVec.toNat_and]
    have := Nat.and_le_right (n := (BitVec.ofInt 64 x).toNat) (m := (BitVec.ofInt 64 1).toNat)
    have h1 : (BitVec.ofInt 64 1).toNat = 1 := by decide
    omega
  rw [e, IntKind.wrap_i64]
  omega
theorem own_lenT {w : World} {M : List Pr} {A : Option Addr} {n c : Nat} (h : PairsOwn w 0 (.slice A n c) M) : n = M.length := by
  obtain ⟨A', c', e⟩ := h.form
  simp at e
  exact e.2.1
end Go.Proofs.YtddbjbdhbeijjaaDoor
/- The walk of TlbPlays. (Laid by tools/gen_l13.py.) -/
namespace Go.Proofs.YtddbjbdhbeijjaaDoor
set_option linter.unusedVariables false
set_option linter.unusedSimpArgs false
open Go.ChangeShapes Go.WideShapes Go.ChangeAt Go.RowKit Go.Joins

set_option maxRecDepth 100000 in
set_option maxHeartbeats 6400000 in
theorem tlbPlays_walk (z : Int) (A : Option Addr) (c : Nat) (ds : List Dt) (w : World) (ht : Tabs w) (hl : ds.length ≤ maxLen) (hd : DtsIn w A ds) (hok : DtsOk ds) :
    Calls Tryd.prog 3 #[.int .i64 z, .slice A ds.length c] w fun e w' => e = .returned (.bool true) ∧ Below w.heap.size w w' := by
  have HT := Lib.hid ht
  have HL1 := Lib.hid hl
  have HD := Lib.hid hd
  have HOK := Lib.hid hok
  obtain ⟨R, hR⟩ : ∃ R, roomF z = R := ⟨_, rfl⟩
  have HRM := Lib.hid hR
  have HR64 : Hid (R ≤ 64) := Lib.hid (hR ▸ roomF_le z)
  have hmm : mostT ds ≤ 100 ∧ mostT ds ≤ ds.length ∧ (mostT ds = 100 ∨ mostT ds = ds.length) := by unfold mostT; omega
  obtain ⟨mn, hmn⟩ : ∃ m, mostT ds = m := ⟨_, rfl⟩
  rw [hmn] at hmm
  obtain ⟨hm0, hm1, hm3⟩ := hmm
  have HM2 := Lib.hid hm3
  have hl9 : ds.length ≤ 9223372036854775807 := by unfold maxLen at hl; omega
  have H0 := Lib.hid (Has.start0 w (fun _ => False))
  clear ht hl hd hok hm3 hmn hR
  go_enter Tryd.func3, Tryd.ntmps3
  go_upto_region 6 with (first | (go_at_call 9; refine (awake13_any _ (H0.out.tabs HT.out off_no)).mono ?_; rintro e w1 ⟨rfl, hb1⟩; have H1 := Lib.hid (H0.out.quiet hb1); clear hb1 H0) | (go_at_call 10; refine (newT_any z _).mono ?_; rw [HRM.out]; rintro e w2 ⟨q, Gp, rfl, hH⟩; have H2 := Lib.hid (H1.out.join hH); clear hH H1) | (go_at_call 11; refine (rnewC_any z _).mono ?_; rw [HRM.out]; rintro e w3 ⟨rfl, hb⟩; have H3 := Lib.hid (H2.out.quiet hb); clear hb H2))
  generalize hq : w3.alloc _ = w4
  have H4 : Hid (Has w w4 (fun _ => False) [⟨tlbT q R [], Gp⟩] [⟨w3.heap.size, #[.slice none 0 0, .int .i64 (R : Int)], 28⟩] [rowQ (.slice none 0 0) []]) := Lib.hid (((H3.out.got (PairsOwn.nil _ 0) (by simp [Value.ownBlock])).new (b := w3.heap.size) rfl #[.slice none 0 0, .int .i64 (R : Int)] 28).world hq)
  clear hq H3
  generalize w3.heap.size = bx at *
  go_wp2
  go_loopw [8] (fun i wr => ∃ (k : Nat) (G : Nat → Prop) (A0 : Option Addr) (n0 c0 : Nat), k ≤ mn ∧ i = .int .i64 k ∧ Hid (Has w wr (fun _ => False) [⟨tlbT q R (playD R ds k), G⟩] [⟨bx, #[.slice A0 n0 c0, .int .i64 (R : Int)], 28⟩] [rowQ (.slice A0 n0 c0) (playD R ds k)])) (fun i _ => (100 - intOf i).toNat)
  case atStart => exact ⟨0, _, none, 0, 0, by omega, rfl, H4⟩
  case round =>
    obtain ⟨k, G, A0, n0, c0, hk, rfl, HL⟩ := hrel
    clear H4
    by_cases hlt : k < mn
    · have hlt2 := hlt
      have hks : k < ds.length := by omega
      have h100 : (k : Int) < 100 := by omega
      obtain ⟨ad, hAd, hde⟩ := HD.out k hks
      subst hAd
      have HY := Lib.hid (HOK.out k hks)
      have HNX : Hid (playD R ds (k + 1) = doD R (playD R ds k) (ds.getD k zDt)) := Lib.hid rfl
      generalize playD R ds k = L at *
      generalize ds.getD k zDt = y at *
      have HDE := Lib.hid hde
      clear hde
      obtain ⟨L2, hL2⟩ : ∃ L2, doD R L y = L2 := ⟨_, rfl⟩
      have HL2 := Lib.hid hL2
      have HNX2 : Hid (playD R ds (k + 1) = L2) := Lib.hid (HNX.out.trans hL2)
      clear HNX hL2
      go_upto_region 9 with fail
      have H5 := Lib.hid (HL.out.quiet (Kept.drew0 wr))
      clear HL
      refine wp_region_held_drew (S := fun w' => Below w.heap.size w w') (by kernel_rfl) H5.out.below0 (fun hHeld => ?_)
      generalize wr.drew = w5 at *
      refine tk (v := ?_) 0 ?_ ?_
      rotate_left
      · intro w hSw
        go_simp
        (try with_reducible rfl)
      (try simp only [Act.put, List.setIfInBounds_toArray, List.set_cons_zero, List.set_cons_succ])
      refine tk (v := ?_) 2 ?_ ?_
      rotate_left
      · intro w hSw
        go_simp
        (try with_reducible rfl)
      (try simp only [Act.put, List.setIfInBounds_toArray, List.set_cons_zero, List.set_cons_succ])
      refine tk (v := ?_) 3 ?_ ?_
      rotate_left
      · intro w hSw
        go_simp
        (try with_reducible rfl)
      (try simp only [Act.put, List.setIfInBounds_toArray, List.set_cons_zero, List.set_cons_succ])
      refine tk (v := ?_) 4 ?_ ?_
      rotate_left
      · intro w hSw
        go_simp
        (try with_reducible rfl)
      (try simp only [Act.put, List.setIfInBounds_toArray, List.set_cons_zero, List.set_cons_succ])
      refine tk (v := .agg (deedC y)) 5 ?_ ?_
      · intro w hSw
        exact exec_loadT rfl rfl (HDE.out.below hSw).load
      (try simp only [Act.put, List.setIfInBounds_toArray, List.set_cons_zero, List.set_cons_succ])
      refine wpAnyH_ready (rs := [1]) (by kernel_rfl) (by simp) ?_
      refine anyH_one rfl (fun K hK => ?_) ?_
      · obtain ⟨a0, a1⟩ := (H5.out.at_ 0 rfl).c2
        go_simp
        clear a0 a1
        refine hK.out _ _ (hHeld) (fun hHeld => ?_)
        clear hK K
        (try simp only [Act.put, List.setIfInBounds_toArray, List.set_cons_zero, List.set_cons_succ])
        refine wpAnyH_ready (rs := [6]) (by kernel_rfl) (by simp) ?_
        refine anyH_one rfl (fun K hK => ?_) ?_
        · go_simp
          refine (do13_any (H5.out.the 0 rfl) HR64.out (H5.out.tabs HT.out off_no) (H5.out.offs HT.out off_no 0 rfl) _ H5.out.own1 (fun i hi hg => H5.out.off 0 rfl i hi ⟨_, List.mem_cons_self .., hg⟩) y HY.out).mono ?_
          rw [HL2.out]
          rintro e w6 ⟨u0, rfl, G2, hH⟩
          obtain ⟨Z0, z0, y0, rfl⟩ := hH.own1.slice
          have H6 := Lib.hid (H5.out.doesT hH)
          clear hH H5
          refine hK.out _ _ (H6.out.below0) (fun hHeld => ?_)
          clear hK K
          (try simp only [Act.put, List.setIfInBounds_toArray, List.set_cons_zero, List.set_cons_succ])
          refine wpAnyH_ready (rs := [7]) (by kernel_rfl) (by simp) ?_
          refine anyH_one rfl (fun K hK => ?_) ?_
          · obtain ⟨a0, a1⟩ := (H6.out.at_ 0 rfl).c2
            have g0 := (H6.out.at_ 0 rfl).fz 0; have g1 := (H6.out.at_ 0 rfl).fz 1
            go_simp
            generalize hq9 : (w6.setCell _ _).setCell _ _ = w7
            have H7 := Lib.hid ((H6.out.put 0 rfl (turnB2 _ _ _ _) (setB2 (H6.out.at_ 0 rfl) _ _)).world hq9)
            clear hq9 H6 a0 a1 g0 g1
            refine hK.out _ _ (H7.out.below0) (fun hHeld => ?_)
            clear hK K
            (try simp only [Act.put, List.setIfInBounds_toArray, List.set_cons_zero, List.set_cons_succ])
            refine wpAnyH_done (by kernel_rfl) ?_ _
            clear hHeld
            have HZL : Hid (z0 = L2.length) := Lib.hid (own_lenT H7.out.own1)
            have HLEN : Hid (L2.length ≤ 900) := Lib.hid (by have := (H7.out.the 0 rfl).len.1; have := HR64.out; omega)
            have HKL := Lib.hid (H7.out.the 0 rfl).ok
            have hd0 := H7
            clear H7
            go_wp2
            go_loopw [9] (fun i wq => ∃ j : Nat, j ≤ k + 1 ∧ i = .int .i64 j ∧ Hid (Has w wq (fun _ => False) [⟨tlbT q R L2, _⟩] [⟨bx, #[.slice Z0 z0 y0, .int .i64 (R : Int)], 28⟩] [rowQ (.slice Z0 z0 y0) L2])) (fun i _ => (k + 1 - intOf i).toNat)
            case atStart => exact ⟨0, by omega, rfl, hd0⟩
            case round =>
              generalize wr = wq at *
              obtain ⟨j, hj, rfl, HQ⟩ := hrel
              clear hd0
              by_cases hjk : j < k + 1
              · have hle : decide ((j : Int) ≤ (k : Int)) = true := decide_eq_true (by omega)
                have hjs : j < ds.length := by omega
                obtain ⟨ad9, hAd9, hdj⟩ := HD.out j hjs
                obtain rfl : ad = ad9 := Option.some.inj hAd9
                have HYJ := Lib.hid (HOK.out j hjs)
                have HDJ := Lib.hid hdj
                clear hdj hAd9
                generalize ds.getD j zDt = yj at *
                obtain ⟨g9, is9, hx9, _⟩ := ans_h (lookT L2 yj.p yj.a)
                have HXJ := Lib.hid hx9
                clear hx9
                have hqr := neqHR g9
                go_upto_region 13 with fail
                have H5 := Lib.hid (HQ.out.quiet (Kept.drew0 wq))
                clear HQ
                refine wp_region_held_drew (S := fun w' => Below w.heap.size w w') (by kernel_rfl) H5.out.below0 (fun hHeld => ?_)
                generalize wq.drew = w5 at *
                refine tk (v := ?_) 0 ?_ ?_
                rotate_left
                · intro w hSw
                  go_simp
                  (try with_reducible rfl)
                (try simp only [Act.put, List.setIfInBounds_toArray, List.set_cons_zero, List.set_cons_succ])
                refine tk (v := ?_) 1 ?_ ?_
                rotate_left
                · intro w hSw
                  go_simp
                  (try with_reducible rfl)
                (try simp only [Act.put, List.setIfInBounds_toArray, List.set_cons_zero, List.set_cons_succ])
                refine tk (v := ?_) 2 ?_ ?_
                rotate_left
                · intro w hSw
                  go_simp
                  (try with_reducible rfl)
                (try simp only [Act.put, List.setIfInBounds_toArray, List.set_cons_zero, List.set_cons_succ])
                refine tk (v := ?_) 3 ?_ ?_
                rotate_left
                · intro w hSw
                  go_simp
                  (try with_reducible rfl)
                (try simp only [Act.put, List.setIfInBounds_toArray, List.set_cons_zero, List.set_cons_succ])
                refine tk (v := ?_) 4 ?_ ?_
                rotate_left
                · intro w hSw
                  go_simp
                  (try with_reducible rfl)
                (try simp only [Act.put, List.setIfInBounds_toArray, List.set_cons_zero, List.set_cons_succ])
                refine tk (v := ?_) 5 ?_ ?_
                rotate_left
                · intro w hSw
                  obtain ⟨e0, e1, e2, e3, e4, e5, e6, e7, e8, e9, e10, e11, e12, e13, e14, e15⟩ := HDJ.out.below hSw
                  go_simp
                  (try with_reducible rfl)
                (try simp only [Act.put, List.setIfInBounds_toArray, List.set_cons_zero, List.set_cons_succ])
                refine tk (v := ?_) 6 ?_ ?_
                rotate_left
                · intro w hSw
                  go_simp
                  (try with_reducible rfl)
                (try simp only [Act.put, List.setIfInBounds_toArray, List.set_cons_zero, List.set_cons_succ])
                refine tk (v := ?_) 7 ?_ ?_
                rotate_left
                · intro w hSw
                  go_simp
                  (try with_reducible rfl)
                (try simp only [Act.put, List.setIfInBounds_toArray, List.set_cons_zero, List.set_cons_succ])
                refine tk (v := ?_) 8 ?_ ?_
                rotate_left
                · intro w hSw
                  go_simp
                  (try with_reducible rfl)
                (try simp only [Act.put, List.setIfInBounds_toArray, List.set_cons_zero, List.set_cons_succ])
                refine tk (v := ?_) 9 ?_ ?_
                rotate_left
                · intro w hSw
                  go_simp
                  (try with_reducible rfl)
                (try simp only [Act.put, List.setIfInBounds_toArray, List.set_cons_zero, List.set_cons_succ])
                refine tk (v := ?_) 10 ?_ ?_
                rotate_left
                · intro w hSw
                  obtain ⟨e0, e1, e2, e3, e4, e5, e6, e7, e8, e9, e10, e11, e12, e13, e14, e15⟩ := HDJ.out.below hSw
                  go_simp
                  (try with_reducible rfl)
                (try simp only [Act.put, List.setIfInBounds_toArray, List.set_cons_zero, List.set_cons_succ])
                refine wpAnyH_ready (rs := [11, 15]) (by kernel_rfl) (by simp) ?_
                refine anyH_one rfl (fun K hK => ?_) ?_
                · go_simp
                  refine (H5.out.tLook HT.out off_no yj.p yj.a HYJ.out.p HYJ.out.a).mono ?_
                  rw [HXJ.out]
                  rintro e w6 ⟨rfl, hb⟩
                  have H6 := Lib.hid (H5.out.quiet hb)
                  clear hb H5
                  refine hK.out _ _ (H6.out.below0) (fun hHeld => ?_)
                  clear hK K
                  (try simp only [Act.put, List.setIfInBounds_toArray, List.set_cons_zero, List.set_cons_succ])
                  refine tk (v := ?_) 12 ?_ ?_
                  rotate_left
                  · intro w hSw
                    go_simp
                    (try with_reducible rfl)
                  (try simp only [Act.put, List.setIfInBounds_toArray, List.set_cons_zero, List.set_cons_succ])
                  refine tk (v := ?_) 13 ?_ ?_
                  rotate_left
                  · intro w hSw
                    go_simp
                    (try with_reducible rfl)
                  (try simp only [Act.put, List.setIfInBounds_toArray, List.set_cons_zero, List.set_cons_succ])
                  refine tk (v := ?_) 14 ?_ ?_
                  rotate_left
                  · intro w hSw
                    go_simp
                    (try with_reducible rfl)
                  (try simp only [Act.put, List.setIfInBounds_toArray, List.set_cons_zero, List.set_cons_succ])
                  refine wpAnyH_ready (rs := [15]) (by kernel_rfl) (by simp) ?_
                  refine anyH_one rfl (fun K hK => ?_) ?_
                  · go_simp
                    generalize hq9 : w6.alloc _ = w7
                    have H7 := Lib.hid ((H6.out.new (b := w6.heap.size) rfl #[.int .u64 0, .int .i64 0, .bool false, .bool false, .bool false, .bool false] 37).world hq9)
                    clear hq9 H6
                    generalize w6.heap.size = b13 at H7 ⊢
                    refine hK.out _ _ (H7.out.below0) (fun hHeld => ?_)
                    clear hK K
                    (try simp only [Act.put, List.setIfInBounds_toArray, List.set_cons_zero, List.set_cons_succ])
                    refine wpAnyH_ready (rs := [16]) (by kernel_rfl) (by simp) ?_
                    refine anyH_one rfl (fun K hK => ?_) ?_
                    · obtain ⟨r0, r1, r2, r3, r4, r5⟩ := (H7.out.at_ 0 rfl).c6
                      have g0 := (H7.out.at_ 0 rfl).fz 0; have g1 := (H7.out.at_ 0 rfl).fz 1; have g2 := (H7.out.at_ 0 rfl).fz 2; have g3 := (H7.out.at_ 0 rfl).fz 3; have g4 := (H7.out.at_ 0 rfl).fz 4; have g5 := (H7.out.at_ 0 rfl).fz 5
                      go_simp
                      generalize hq9 : (((((w7.setCell _ _).setCell _ _).setCell _ _).setCell _ _).setCell _ _).setCell _ _ = w8
                      have H8 := Lib.hid ((H7.out.put 0 rfl (turnB6 _ _ _ _ _ _ _ _) (setB6 (H7.out.at_ 0 rfl) _ _ _ _ _ _)).world hq9)
                      clear hq9 H7 r0 r1 r2 r3 r4 r5 g0 g1 g2 g3 g4 g5
                      refine hK.out _ _ (H8.out.below0) (fun hHeld => ?_)
                      clear hK K
                      (try simp only [Act.put, List.setIfInBounds_toArray, List.set_cons_zero, List.set_cons_succ])
                      refine tk (v := ?_) 17 ?_ ?_
                      rotate_left
                      · intro w hSw
                        go_simp
                        (try with_reducible rfl)
                      (try simp only [Act.put, List.setIfInBounds_toArray, List.set_cons_zero, List.set_cons_succ])
                      refine wpAnyH_done (by kernel_rfl) ?_ _
                      clear hHeld
                      go_upto_region 14 with fail
                      have H9 := Lib.hid (H8.out.quiet (Kept.drew0 w8))
                      clear H8
                      refine wp_region_held_drew (S := fun w' => Below w.heap.size w w' ∧ Blk w' bx #[.slice Z0 z0 y0, .int .i64 (R : Int)] 28) (by kernel_rfl) ⟨H9.out.below0, H9.out.at_ 1 rfl⟩ (fun hHeld => ?_)
                      generalize w8.drew = w9 at *
                      refine tk (v := ?_) 0 ?_ ?_
                      rotate_left
                      · intro w hSw
                        obtain ⟨a0, a1⟩ := hSw.2.c2
                        go_simp
                        (try with_reducible rfl)
                      (try simp only [Act.put, List.setIfInBounds_toArray, List.set_cons_zero, List.set_cons_succ])
                      refine tk (v := ?_) 1 ?_ ?_
                      rotate_left
                      · intro w hSw
                        go_simp
                        (try with_reducible rfl)
                      (try simp only [Act.put, List.setIfInBounds_toArray, List.set_cons_zero, List.set_cons_succ])
                      refine tk (v := ?_) 2 ?_ ?_
                      rotate_left
                      · intro w hSw
                        go_simp
                        (try with_reducible rfl)
                      (try simp only [Act.put, List.setIfInBounds_toArray, List.set_cons_zero, List.set_cons_succ])
                      refine tk (v := ?_) 3 ?_ ?_
                      rotate_left
                      · intro w hSw
                        go_simp
                        (try with_reducible rfl)
                      (try simp only [Act.put, List.setIfInBounds_toArray, List.set_cons_zero, List.set_cons_succ])
                      refine tk (v := ?_) 4 ?_ ?_
                      rotate_left
                      · intro w hSw
                        go_simp
                        (try with_reducible rfl)
                      (try simp only [Act.put, List.setIfInBounds_toArray, List.set_cons_zero, List.set_cons_succ])
                      refine tk (v := ?_) 5 ?_ ?_
                      rotate_left
                      · intro w hSw
                        obtain ⟨e0, e1, e2, e3, e4, e5, e6, e7, e8, e9, e10, e11, e12, e13, e14, e15⟩ := HDJ.out.below hSw.1
                        go_simp
                        (try with_reducible rfl)
                      (try simp only [Act.put, List.setIfInBounds_toArray, List.set_cons_zero, List.set_cons_succ])
                      refine tk (v := ?_) 6 ?_ ?_
                      rotate_left
                      · intro w hSw
                        go_simp
                        (try with_reducible rfl)
                      (try simp only [Act.put, List.setIfInBounds_toArray, List.set_cons_zero, List.set_cons_succ])
                      refine tk (v := ?_) 7 ?_ ?_
                      rotate_left
                      · intro w hSw
                        go_simp
                        (try with_reducible rfl)
                      (try simp only [Act.put, List.setIfInBounds_toArray, List.set_cons_zero, List.set_cons_succ])
                      refine tk (v := ?_) 8 ?_ ?_
                      rotate_left
                      · intro w hSw
                        go_simp
                        (try with_reducible rfl)
                      (try simp only [Act.put, List.setIfInBounds_toArray, List.set_cons_zero, List.set_cons_succ])
                      refine tk (v := ?_) 9 ?_ ?_
                      rotate_left
                      · intro w hSw
                        go_simp
                        (try with_reducible rfl)
                      (try simp only [Act.put, List.setIfInBounds_toArray, List.set_cons_zero, List.set_cons_succ])
                      refine tk (v := ?_) 10 ?_ ?_
                      rotate_left
                      · intro w hSw
                        obtain ⟨e0, e1, e2, e3, e4, e5, e6, e7, e8, e9, e10, e11, e12, e13, e14, e15⟩ := HDJ.out.below hSw.1
                        go_simp
                        (try with_reducible rfl)
                      (try simp only [Act.put, List.setIfInBounds_toArray, List.set_cons_zero, List.set_cons_succ])
                      refine wpAnyH_ready (rs := [11, 15]) (by kernel_rfl) (by simp) ?_
                      refine anyH_one rfl (fun K hK => ?_) ?_
                      · go_simp
                        refine (rlookT_any yj.p yj.a _ (R : Int) H9.out.own1 HLEN.out HKL.out HYJ.out.a).mono ?_
                        rw [HXJ.out]
                        rintro e w10 ⟨rfl, hb⟩
                        have H10 := Lib.hid (H9.out.quiet hb)
                        clear hb H9
                        refine hK.out _ _ (⟨H10.out.below0, H10.out.at_ 1 rfl⟩) (fun hHeld => ?_)
                        clear hK K
                        (try simp only [Act.put, List.setIfInBounds_toArray, List.set_cons_zero, List.set_cons_succ])
                        refine tk (v := ?_) 12 ?_ ?_
                        rotate_left
                        · intro w hSw
                          go_simp
                          (try with_reducible rfl)
                        (try simp only [Act.put, List.setIfInBounds_toArray, List.set_cons_zero, List.set_cons_succ])
                        refine tk (v := ?_) 13 ?_ ?_
                        rotate_left
                        · intro w hSw
                          go_simp
                          (try with_reducible rfl)
                        (try simp only [Act.put, List.setIfInBounds_toArray, List.set_cons_zero, List.set_cons_succ])
                        refine tk (v := ?_) 14 ?_ ?_
                        rotate_left
                        · intro w hSw
                          go_simp
                          (try with_reducible rfl)
                        (try simp only [Act.put, List.setIfInBounds_toArray, List.set_cons_zero, List.set_cons_succ])
                        refine wpAnyH_ready (rs := [15]) (by kernel_rfl) (by simp) ?_
                        refine anyH_one rfl (fun K hK => ?_) ?_
                        · go_simp
                          generalize hq9 : w10.alloc _ = w11
                          have H11 := Lib.hid ((H10.out.new (b := w10.heap.size) rfl #[.int .u64 0, .int .i64 0, .bool false, .bool false, .bool false, .bool false] 44).world hq9)
                          clear hq9 H10
                          generalize w10.heap.size = b14 at H11 ⊢
                          refine hK.out _ _ (⟨H11.out.below0, H11.out.at_ 2 rfl⟩) (fun hHeld => ?_)
                          clear hK K
                          (try simp only [Act.put, List.setIfInBounds_toArray, List.set_cons_zero, List.set_cons_succ])
                          refine wpAnyH_ready (rs := [16]) (by kernel_rfl) (by simp) ?_
                          refine anyH_one rfl (fun K hK => ?_) ?_
                          · obtain ⟨r0, r1, r2, r3, r4, r5⟩ := (H11.out.at_ 0 rfl).c6
                            have g0 := (H11.out.at_ 0 rfl).fz 0; have g1 := (H11.out.at_ 0 rfl).fz 1; have g2 := (H11.out.at_ 0 rfl).fz 2; have g3 := (H11.out.at_ 0 rfl).fz 3; have g4 := (H11.out.at_ 0 rfl).fz 4; have g5 := (H11.out.at_ 0 rfl).fz 5
                            go_simp
                            generalize hq9 : (((((w11.setCell _ _).setCell _ _).setCell _ _).setCell _ _).setCell _ _).setCell _ _ = w12
                            have H12 := Lib.hid ((H11.out.put 0 rfl (turnB6 _ _ _ _ _ _ _ _) (setB6 (H11.out.at_ 0 rfl) _ _ _ _ _ _)).world hq9)
                            clear hq9 H11 r0 r1 r2 r3 r4 r5 g0 g1 g2 g3 g4 g5
                            refine hK.out _ _ (⟨H12.out.below0, H12.out.at_ 2 rfl⟩) (fun hHeld => ?_)
                            clear hK K
                            (try simp only [Act.put, List.setIfInBounds_toArray, List.set_cons_zero, List.set_cons_succ])
                            refine tk (v := ?_) 17 ?_ ?_
                            rotate_left
                            · intro w hSw
                              go_simp
                              (try with_reducible rfl)
                            (try simp only [Act.put, List.setIfInBounds_toArray, List.set_cons_zero, List.set_cons_succ])
                            refine wpAnyH_done (by kernel_rfl) ?_ _
                            clear hHeld
                            go_upto_region 15 with fail
                            have H13 := Lib.hid (H12.out.quiet (Kept.drew0 w12))
                            clear H12
                            refine wp_region_held_drew (S := fun w' => Blk w' b13 #[.int .u64 g9.1, .int .i64 g9.2.1, .bool g9.2.2.1, .bool g9.2.2.2.1, .bool g9.2.2.2.2.1, .bool g9.2.2.2.2.2] 37 ∧ Blk w' b14 #[.int .u64 g9.1, .int .i64 g9.2.1, .bool g9.2.2.1, .bool g9.2.2.2.1, .bool g9.2.2.2.2.1, .bool g9.2.2.2.2.2] 44) (by kernel_rfl) ⟨H13.out.at_ 1 rfl, H13.out.at_ 0 rfl⟩ (fun hHeld => ?_)
                            generalize w12.drew = w13 at *
                            refine tk (v := ?_) 0 ?_ ?_
                            rotate_left
                            · intro w hSw
                              obtain ⟨q0, q1, q2, q3, q4, q5⟩ := hSw.1.c6
                              go_simp
                              (try with_reducible rfl)
                            (try simp only [Act.put, List.setIfInBounds_toArray, List.set_cons_zero, List.set_cons_succ])
                            refine tk (v := ?_) 2 ?_ ?_
                            rotate_left
                            · intro w hSw
                              obtain ⟨q0, q1, q2, q3, q4, q5⟩ := hSw.2.c6
                              go_simp
                              (try with_reducible rfl)
                            (try simp only [Act.put, List.setIfInBounds_toArray, List.set_cons_zero, List.set_cons_succ])
                            refine wpAnyH_ready (rs := [1]) (by kernel_rfl) (by simp) ?_
                            refine anyH_one rfl (fun K hK => ?_) ?_
                            · go_simp
                              refine (hit13_any g9 _).mono ?_
                              rintro e w14 ⟨rfl, hb⟩
                              have H14 := Lib.hid (H13.out.quiet hb)
                              clear hb H13
                              refine hK.out _ _ (⟨H14.out.at_ 1 rfl, H14.out.at_ 0 rfl⟩) (fun hHeld => ?_)
                              clear hK K
                              (try simp only [Act.put, List.setIfInBounds_toArray, List.set_cons_zero, List.set_cons_succ])
                              refine tk (v := ?_) 3 ?_ ?_
                              rotate_left
                              · intro w hSw
                                go_simp
                                (try with_reducible rfl)
                              (try simp only [Act.put, List.setIfInBounds_toArray, List.set_cons_zero, List.set_cons_succ])
                              refine tk (v := ?_) 4 ?_ ?_
                              rotate_left
                              · intro w hSw
                                go_simp
                                (try with_reducible rfl)
                              (try simp only [Act.put, List.setIfInBounds_toArray, List.set_cons_zero, List.set_cons_succ])
                              refine tk (v := ?_) 5 ?_ ?_
                              rotate_left
                              · intro w hSw
                                go_simp
                                (try with_reducible rfl)
                              (try simp only [Act.put, List.setIfInBounds_toArray, List.set_cons_zero, List.set_cons_succ])
                              refine tk (v := ?_) 6 ?_ ?_
                              rotate_left
                              · intro w hSw
                                go_simp
                                (try with_reducible rfl)
                              (try simp only [Act.put, List.setIfInBounds_toArray, List.set_cons_zero, List.set_cons_succ])
                              refine tk (v := ?_) 7 ?_ ?_
                              rotate_left
                              · intro w hSw
                                go_simp
                                (try with_reducible rfl)
                              (try simp only [Act.put, List.setIfInBounds_toArray, List.set_cons_zero, List.set_cons_succ])
                              refine tk (v := ?_) 8 ?_ ?_
                              rotate_left
                              · intro w hSw
                                go_simp
                                (try with_reducible rfl)
                              (try simp only [Act.put, List.setIfInBounds_toArray, List.set_cons_zero, List.set_cons_succ])
                              refine wpAnyH_done (by kernel_rfl) ?_ _
                              clear hHeld
                              have HN9 := Lib.hid (H14.out.pick [2] [0])
                              clear H14
                              go_wp2
                              go_roundw
                              case rel => exact ⟨j + 1, by omega, by go_num, HN9⟩
                              case measure => simp [intOf]; omega
                            exact AllReadyH.nil
                          exact AllReadyH.nil
                        exact AllReadyH.nil
                      refine anyH_one rfl (fun K hK => ?_) ?_
                      · go_simp
                        generalize hq9 : w9.alloc _ = w10
                        have H10 := Lib.hid ((H9.out.new (b := w9.heap.size) rfl #[.int .u64 0, .int .i64 0, .bool false, .bool false, .bool false, .bool false] 44).world hq9)
                        clear hq9 H9
                        generalize w9.heap.size = b14 at H10 ⊢
                        refine hK.out _ _ (⟨H10.out.below0, H10.out.at_ 2 rfl⟩) (fun hHeld => ?_)
                        clear hK K
                        (try simp only [Act.put, List.setIfInBounds_toArray, List.set_cons_zero, List.set_cons_succ])
                        refine wpAnyH_ready (rs := [11]) (by kernel_rfl) (by simp) ?_
                        refine anyH_one rfl (fun K hK => ?_) ?_
                        · go_simp
                          refine (rlookT_any yj.p yj.a _ (R : Int) H10.out.own1 HLEN.out HKL.out HYJ.out.a).mono ?_
                          rw [HXJ.out]
                          rintro e w11 ⟨rfl, hb⟩
                          have H11 := Lib.hid (H10.out.quiet hb)
                          clear hb H10
                          refine hK.out _ _ (⟨H11.out.below0, H11.out.at_ 2 rfl⟩) (fun hHeld => ?_)
                          clear hK K
                          (try simp only [Act.put, List.setIfInBounds_toArray, List.set_cons_zero, List.set_cons_succ])
                          refine tk (v := ?_) 12 ?_ ?_
                          rotate_left
                          · intro w hSw
                            go_simp
                            (try with_reducible rfl)
                          (try simp only [Act.put, List.setIfInBounds_toArray, List.set_cons_zero, List.set_cons_succ])
                          refine tk (v := ?_) 13 ?_ ?_
                          rotate_left
                          · intro w hSw
                            go_simp
                            (try with_reducible rfl)
                          (try simp only [Act.put, List.setIfInBounds_toArray, List.set_cons_zero, List.set_cons_succ])
                          refine tk (v := ?_) 14 ?_ ?_
                          rotate_left
                          · intro w hSw
                            go_simp
                            (try with_reducible rfl)
                          (try simp only [Act.put, List.setIfInBounds_toArray, List.set_cons_zero, List.set_cons_succ])
                          refine wpAnyH_ready (rs := [16]) (by kernel_rfl) (by simp) ?_
                          refine anyH_one rfl (fun K hK => ?_) ?_
                          · obtain ⟨r0, r1, r2, r3, r4, r5⟩ := (H11.out.at_ 0 rfl).c6
                            have g0 := (H11.out.at_ 0 rfl).fz 0; have g1 := (H11.out.at_ 0 rfl).fz 1; have g2 := (H11.out.at_ 0 rfl).fz 2; have g3 := (H11.out.at_ 0 rfl).fz 3; have g4 := (H11.out.at_ 0 rfl).fz 4; have g5 := (H11.out.at_ 0 rfl).fz 5
                            go_simp
                            generalize hq9 : (((((w11.setCell _ _).setCell _ _).setCell _ _).setCell _ _).setCell _ _).setCell _ _ = w12
                            have H12 := Lib.hid ((H11.out.put 0 rfl (turnB6 _ _ _ _ _ _ _ _) (setB6 (H11.out.at_ 0 rfl) _ _ _ _ _ _)).world hq9)
                            clear hq9 H11 r0 r1 r2 r3 r4 r5 g0 g1 g2 g3 g4 g5
                            refine hK.out _ _ (⟨H12.out.below0, H12.out.at_ 2 rfl⟩) (fun hHeld => ?_)
                            clear hK K
                            (try simp only [Act.put, List.setIfInBounds_toArray, List.set_cons_zero, List.set_cons_succ])
                            refine tk (v := ?_) 17 ?_ ?_
                            rotate_left
                            · intro w hSw
                              go_simp
                              (try with_reducible rfl)
                            (try simp only [Act.put, List.setIfInBounds_toArray, List.set_cons_zero, List.set_cons_succ])
                            refine wpAnyH_done (by kernel_rfl) ?_ _
                            clear hHeld
                            go_upto_region 15 with fail
                            have H13 := Lib.hid (H12.out.quiet (Kept.drew0 w12))
                            clear H12
                            refine wp_region_held_drew (S := fun w' => Blk w' b13 #[.int .u64 g9.1, .int .i64 g9.2.1, .bool g9.2.2.1, .bool g9.2.2.2.1, .bool g9.2.2.2.2.1, .bool g9.2.2.2.2.2] 37 ∧ Blk w' b14 #[.int .u64 g9.1, .int .i64 g9.2.1, .bool g9.2.2.1, .bool g9.2.2.2.1, .bool g9.2.2.2.2.1, .bool g9.2.2.2.2.2] 44) (by kernel_rfl) ⟨H13.out.at_ 1 rfl, H13.out.at_ 0 rfl⟩ (fun hHeld => ?_)
                            generalize w12.drew = w13 at *
                            refine tk (v := ?_) 0 ?_ ?_
                            rotate_left
                            · intro w hSw
                              obtain ⟨q0, q1, q2, q3, q4, q5⟩ := hSw.1.c6
                              go_simp
                              (try with_reducible rfl)
                            (try simp only [Act.put, List.setIfInBounds_toArray, List.set_cons_zero, List.set_cons_succ])
                            refine tk (v := ?_) 2 ?_ ?_
                            rotate_left
                            · intro w hSw
                              obtain ⟨q0, q1, q2, q3, q4, q5⟩ := hSw.2.c6
                              go_simp
                              (try with_reducible rfl)
                            (try simp only [Act.put, List.setIfInBounds_toArray, List.set_cons_zero, List.set_cons_succ])
                            refine wpAnyH_ready (rs := [1]) (by kernel_rfl) (by simp) ?_
                            refine anyH_one rfl (fun K hK => ?_) ?_
                            · go_simp
                              refine (hit13_any g9 _).mono ?_
                              rintro e w14 ⟨rfl, hb⟩
                              have H14 := Lib.hid (H13.out.quiet hb)
                              clear hb H13
                              refine hK.out _ _ (⟨H14.out.at_ 1 rfl, H14.out.at_ 0 rfl⟩) (fun hHeld => ?_)
                              clear hK K
                              (try simp only [Act.put, List.setIfInBounds_toArray, List.set_cons_zero, List.set_cons_succ])
                              refine tk (v := ?_) 3 ?_ ?_
                              rotate_left
                              · intro w hSw
                                go_simp
                                (try with_reducible rfl)
                              (try simp only [Act.put, List.setIfInBounds_toArray, List.set_cons_zero, List.set_cons_succ])
                              refine tk (v := ?_) 4 ?_ ?_
                              rotate_left
                              · intro w hSw
                                go_simp
                                (try with_reducible rfl)
                              (try simp only [Act.put, List.setIfInBounds_toArray, List.set_cons_zero, List.set_cons_succ])
                              refine tk (v := ?_) 5 ?_ ?_
                              rotate_left
                              · intro w hSw
                                go_simp
                                (try with_reducible rfl)
                              (try simp only [Act.put, List.setIfInBounds_toArray, List.set_cons_zero, List.set_cons_succ])
                              refine tk (v := ?_) 6 ?_ ?_
                              rotate_left
                              · intro w hSw
                                go_simp
                                (try with_reducible rfl)
                              (try simp only [Act.put, List.setIfInBounds_toArray, List.set_cons_zero, List.set_cons_succ])
                              refine tk (v := ?_) 7 ?_ ?_
                              rotate_left
                              · intro w hSw
                                go_simp
                                (try with_reducible rfl)
                              (try simp only [Act.put, List.setIfInBounds_toArray, List.set_cons_zero, List.set_cons_succ])
                              refine tk (v := ?_) 8 ?_ ?_
                              rotate_left
                              · intro w hSw
                                go_simp
                                (try with_reducible rfl)
                              (try simp only [Act.put, List.setIfInBounds_toArray, List.set_cons_zero, List.set_cons_succ])
                              refine wpAnyH_done (by kernel_rfl) ?_ _
                              clear hHeld
                              have HN9 := Lib.hid (H14.out.pick [2] [0])
                              clear H14
                              go_wp2
                              go_roundw
                              case rel => exact ⟨j + 1, by omega, by go_num, HN9⟩
                              case measure => simp [intOf]; omega
                            exact AllReadyH.nil
                          exact AllReadyH.nil
                        exact AllReadyH.nil
                      exact AllReadyH.nil
                    exact AllReadyH.nil
                  exact AllReadyH.nil
                refine anyH_one rfl (fun K hK => ?_) ?_
                · go_simp
                  generalize hq9 : w5.alloc _ = w6
                  have H6 := Lib.hid ((H5.out.new (b := w5.heap.size) rfl #[.int .u64 0, .int .i64 0, .bool false, .bool false, .bool false, .bool false] 37).world hq9)
                  clear hq9 H5
                  generalize w5.heap.size = b13 at H6 ⊢
                  refine hK.out _ _ (H6.out.below0) (fun hHeld => ?_)
                  clear hK K
                  (try simp only [Act.put, List.setIfInBounds_toArray, List.set_cons_zero, List.set_cons_succ])
                  refine wpAnyH_ready (rs := [11]) (by kernel_rfl) (by simp) ?_
                  refine anyH_one rfl (fun K hK => ?_) ?_
                  · go_simp
                    refine (H6.out.tLook HT.out off_no yj.p yj.a HYJ.out.p HYJ.out.a).mono ?_
                    rw [HXJ.out]
                    rintro e w7 ⟨rfl, hb⟩
                    have H7 := Lib.hid (H6.out.quiet hb)
                    clear hb H6
                    refine hK.out _ _ (H7.out.below0) (fun hHeld => ?_)
                    clear hK K
                    (try simp only [Act.put, List.setIfInBounds_toArray, List.set_cons_zero, List.set_cons_succ])
                    refine tk (v := ?_) 12 ?_ ?_
                    rotate_left
                    · intro w hSw
                      go_simp
                      (try with_reducible rfl)
                    (try simp only [Act.put, List.setIfInBounds_toArray, List.set_cons_zero, List.set_cons_succ])
                    refine tk (v := ?_) 13 ?_ ?_
                    rotate_left
                    · intro w hSw
                      go_simp
                      (try with_reducible rfl)
                    (try simp only [Act.put, List.setIfInBounds_toArray, List.set_cons_zero, List.set_cons_succ])
                    refine tk (v := ?_) 14 ?_ ?_
                    rotate_left
                    · intro w hSw
                      go_simp
                      (try with_reducible rfl)
                    (try simp only [Act.put, List.setIfInBounds_toArray, List.set_cons_zero, List.set_cons_succ])
                    refine wpAnyH_ready (rs := [16]) (by kernel_rfl) (by simp) ?_
                    refine anyH_one rfl (fun K hK => ?_) ?_
                    · obtain ⟨r0, r1, r2, r3, r4, r5⟩ := (H7.out.at_ 0 rfl).c6
                      have g0 := (H7.out.at_ 0 rfl).fz 0; have g1 := (H7.out.at_ 0 rfl).fz 1; have g2 := (H7.out.at_ 0 rfl).fz 2; have g3 := (H7.out.at_ 0 rfl).fz 3; have g4 := (H7.out.at_ 0 rfl).fz 4; have g5 := (H7.out.at_ 0 rfl).fz 5
                      go_simp
                      generalize hq9 : (((((w7.setCell _ _).setCell _ _).setCell _ _).setCell _ _).setCell _ _).setCell _ _ = w8
                      have H8 := Lib.hid ((H7.out.put 0 rfl (turnB6 _ _ _ _ _ _ _ _) (setB6 (H7.out.at_ 0 rfl) _ _ _ _ _ _)).world hq9)
                      clear hq9 H7 r0 r1 r2 r3 r4 r5 g0 g1 g2 g3 g4 g5
                      refine hK.out _ _ (H8.out.below0) (fun hHeld => ?_)
                      clear hK K
                      (try simp only [Act.put, List.setIfInBounds_toArray, List.set_cons_zero, List.set_cons_succ])
                      refine tk (v := ?_) 17 ?_ ?_
                      rotate_left
                      · intro w hSw
                        go_simp
                        (try with_reducible rfl)
                      (try simp only [Act.put, List.setIfInBounds_toArray, List.set_cons_zero, List.set_cons_succ])
                      refine wpAnyH_done (by kernel_rfl) ?_ _
                      clear hHeld
                      go_upto_region 14 with fail
                      have H9 := Lib.hid (H8.out.quiet (Kept.drew0 w8))
                      clear H8
                      refine wp_region_held_drew (S := fun w' => Below w.heap.size w w' ∧ Blk w' bx #[.slice Z0 z0 y0, .int .i64 (R : Int)] 28) (by kernel_rfl) ⟨H9.out.below0, H9.out.at_ 1 rfl⟩ (fun hHeld => ?_)
                      generalize w8.drew = w9 at *
                      refine tk (v := ?_) 0 ?_ ?_
                      rotate_left
                      · intro w hSw
                        obtain ⟨a0, a1⟩ := hSw.2.c2
                        go_simp
                        (try with_reducible rfl)
                      (try simp only [Act.put, List.setIfInBounds_toArray, List.set_cons_zero, List.set_cons_succ])
                      refine tk (v := ?_) 1 ?_ ?_
                      rotate_left
                      · intro w hSw
                        go_simp
                        (try with_reducible rfl)
                      (try simp only [Act.put, List.setIfInBounds_toArray, List.set_cons_zero, List.set_cons_succ])
                      refine tk (v := ?_) 2 ?_ ?_
                      rotate_left
                      · intro w hSw
                        go_simp
                        (try with_reducible rfl)
                      (try simp only [Act.put, List.setIfInBounds_toArray, List.set_cons_zero, List.set_cons_succ])
                      refine tk (v := ?_) 3 ?_ ?_
                      rotate_left
                      · intro w hSw
                        go_simp
                        (try with_reducible rfl)
                      (try simp only [Act.put, List.setIfInBounds_toArray, List.set_cons_zero, List.set_cons_succ])
                      refine tk (v := ?_) 4 ?_ ?_
                      rotate_left
                      · intro w hSw
                        go_simp
                        (try with_reducible rfl)
                      (try simp only [Act.put, List.setIfInBounds_toArray, List.set_cons_zero, List.set_cons_succ])
                      refine tk (v := ?_) 5 ?_ ?_
                      rotate_left
                      · intro w hSw
                        obtain ⟨e0, e1, e2, e3, e4, e5, e6, e7, e8, e9, e10, e11, e12, e13, e14, e15⟩ := HDJ.out.below hSw.1
                        go_simp
                        (try with_reducible rfl)
                      (try simp only [Act.put, List.setIfInBounds_toArray, List.set_cons_zero, List.set_cons_succ])
                      refine tk (v := ?_) 6 ?_ ?_
                      rotate_left
                      · intro w hSw
                        go_simp
                        (try with_reducible rfl)
                      (try simp only [Act.put, List.setIfInBounds_toArray, List.set_cons_zero, List.set_cons_succ])
                      refine tk (v := ?_) 7 ?_ ?_
                      rotate_left
                      · intro w hSw
                        go_simp
                        (try with_reducible rfl)
                      (try simp only [Act.put, List.setIfInBounds_toArray, List.set_cons_zero, List.set_cons_succ])
                      refine tk (v := ?_) 8 ?_ ?_
                      rotate_left
                      · intro w hSw
                        go_simp
                        (try with_reducible rfl)
                      (try simp only [Act.put, List.setIfInBounds_toArray, List.set_cons_zero, List.set_cons_succ])
                      refine tk (v := ?_) 9 ?_ ?_
                      rotate_left
                      · intro w hSw
                        go_simp
                        (try with_reducible rfl)
                      (try simp only [Act.put, List.setIfInBounds_toArray, List.set_cons_zero, List.set_cons_succ])
                      refine tk (v := ?_) 10 ?_ ?_
                      rotate_left
                      · intro w hSw
                        obtain ⟨e0, e1, e2, e3, e4, e5, e6, e7, e8, e9, e10, e11, e12, e13, e14, e15⟩ := HDJ.out.below hSw.1
                        go_simp
                        (try with_reducible rfl)
                      (try simp only [Act.put, List.setIfInBounds_toArray, List.set_cons_zero, List.set_cons_succ])
                      refine wpAnyH_ready (rs := [11, 15]) (by kernel_rfl) (by simp) ?_
                      refine anyH_one rfl (fun K hK => ?_) ?_
                      · go_simp
                        refine (rlookT_any yj.p yj.a _ (R : Int) H9.out.own1 HLEN.out HKL.out HYJ.out.a).mono ?_
                        rw [HXJ.out]
                        rintro e w10 ⟨rfl, hb⟩
                        have H10 := Lib.hid (H9.out.quiet hb)
                        clear hb H9
                        refine hK.out _ _ (⟨H10.out.below0, H10.out.at_ 1 rfl⟩) (fun hHeld => ?_)
                        clear hK K
                        (try simp only [Act.put, List.setIfInBounds_toArray, List.set_cons_zero, List.set_cons_succ])
                        refine tk (v := ?_) 12 ?_ ?_
                        rotate_left
                        · intro w hSw
                          go_simp
                          (try with_reducible rfl)
                        (try simp only [Act.put, List.setIfInBounds_toArray, List.set_cons_zero, List.set_cons_succ])
                        refine tk (v := ?_) 13 ?_ ?_
                        rotate_left
                        · intro w hSw
                          go_simp
                          (try with_reducible rfl)
                        (try simp only [Act.put, List.setIfInBounds_toArray, List.set_cons_zero, List.set_cons_succ])
                        refine tk (v := ?_) 14 ?_ ?_
                        rotate_left
                        · intro w hSw
                          go_simp
                          (try with_reducible rfl)
                        (try simp only [Act.put, List.setIfInBounds_toArray, List.set_cons_zero, List.set_cons_succ])
                        refine wpAnyH_ready (rs := [15]) (by kernel_rfl) (by simp) ?_
                        refine anyH_one rfl (fun K hK => ?_) ?_
                        · go_simp
                          generalize hq9 : w10.alloc _ = w11
                          have H11 := Lib.hid ((H10.out.new (b := w10.heap.size) rfl #[.int .u64 0, .int .i64 0, .bool false, .bool false, .bool false, .bool false] 44).world hq9)
                          clear hq9 H10
                          generalize w10.heap.size = b14 at H11 ⊢
                          refine hK.out _ _ (⟨H11.out.below0, H11.out.at_ 2 rfl⟩) (fun hHeld => ?_)
                          clear hK K
                          (try simp only [Act.put, List.setIfInBounds_toArray, List.set_cons_zero, List.set_cons_succ])
                          refine wpAnyH_ready (rs := [16]) (by kernel_rfl) (by simp) ?_
                          refine anyH_one rfl (fun K hK => ?_) ?_
                          · obtain ⟨r0, r1, r2, r3, r4, r5⟩ := (H11.out.at_ 0 rfl).c6
                            have g0 := (H11.out.at_ 0 rfl).fz 0; have g1 := (H11.out.at_ 0 rfl).fz 1; have g2 := (H11.out.at_ 0 rfl).fz 2; have g3 := (H11.out.at_ 0 rfl).fz 3; have g4 := (H11.out.at_ 0 rfl).fz 4; have g5 := (H11.out.at_ 0 rfl).fz 5
                            go_simp
                            generalize hq9 : (((((w11.setCell _ _).setCell _ _).setCell _ _).setCell _ _).setCell _ _).setCell _ _ = w12
                            have H12 := Lib.hid ((H11.out.put 0 rfl (turnB6 _ _ _ _ _ _ _ _) (setB6 (H11.out.at_ 0 rfl) _ _ _ _ _ _)).world hq9)
                            clear hq9 H11 r0 r1 r2 r3 r4 r5 g0 g1 g2 g3 g4 g5
                            refine hK.out _ _ (⟨H12.out.below0, H12.out.at_ 2 rfl⟩) (fun hHeld => ?_)
                            clear hK K
                            (try simp only [Act.put, List.setIfInBounds_toArray, List.set_cons_zero, List.set_cons_succ])
                            refine tk (v := ?_) 17 ?_ ?_
                            rotate_left
                            · intro w hSw
                              go_simp
                              (try with_reducible rfl)
                            (try simp only [Act.put, List.setIfInBounds_toArray, List.set_cons_zero, List.set_cons_succ])
                            refine wpAnyH_done (by kernel_rfl) ?_ _
                            clear hHeld
                            go_upto_region 15 with fail
                            have H13 := Lib.hid (H12.out.quiet (Kept.drew0 w12))
                            clear H12
                            refine wp_region_held_drew (S := fun w' => Blk w' b13 #[.int .u64 g9.1, .int .i64 g9.2.1, .bool g9.2.2.1, .bool g9.2.2.2.1, .bool g9.2.2.2.2.1, .bool g9.2.2.2.2.2] 37 ∧ Blk w' b14 #[.int .u64 g9.1, .int .i64 g9.2.1, .bool g9.2.2.1, .bool g9.2.2.2.1, .bool g9.2.2.2.2.1, .bool g9.2.2.2.2.2] 44) (by kernel_rfl) ⟨H13.out.at_ 1 rfl, H13.out.at_ 0 rfl⟩ (fun hHeld => ?_)
                            generalize w12.drew = w13 at *
                            refine tk (v := ?_) 0 ?_ ?_
                            rotate_left
                            · intro w hSw
                              obtain ⟨q0, q1, q2, q3, q4, q5⟩ := hSw.1.c6
                              go_simp
                              (try with_reducible rfl)
                            (try simp only [Act.put, List.setIfInBounds_toArray, List.set_cons_zero, List.set_cons_succ])
                            refine tk (v := ?_) 2 ?_ ?_
                            rotate_left
                            · intro w hSw
                              obtain ⟨q0, q1, q2, q3, q4, q5⟩ := hSw.2.c6
                              go_simp
                              (try with_reducible rfl)
                            (try simp only [Act.put, List.setIfInBounds_toArray, List.set_cons_zero, List.set_cons_succ])
                            refine wpAnyH_ready (rs := [1]) (by kernel_rfl) (by simp) ?_
                            refine anyH_one rfl (fun K hK => ?_) ?_
                            · go_simp
                              refine (hit13_any g9 _).mono ?_
                              rintro e w14 ⟨rfl, hb⟩
                              have H14 := Lib.hid (H13.out.quiet hb)
                              clear hb H13
                              refine hK.out _ _ (⟨H14.out.at_ 1 rfl, H14.out.at_ 0 rfl⟩) (fun hHeld => ?_)
                              clear hK K
                              (try simp only [Act.put, List.setIfInBounds_toArray, List.set_cons_zero, List.set_cons_succ])
                              refine tk (v := ?_) 3 ?_ ?_
                              rotate_left
                              · intro w hSw
                                go_simp
                                (try with_reducible rfl)
                              (try simp only [Act.put, List.setIfInBounds_toArray, List.set_cons_zero, List.set_cons_succ])
                              refine tk (v := ?_) 4 ?_ ?_
                              rotate_left
                              · intro w hSw
                                go_simp
                                (try with_reducible rfl)
                              (try simp only [Act.put, List.setIfInBounds_toArray, List.set_cons_zero, List.set_cons_succ])
                              refine tk (v := ?_) 5 ?_ ?_
                              rotate_left
                              · intro w hSw
                                go_simp
                                (try with_reducible rfl)
                              (try simp only [Act.put, List.setIfInBounds_toArray, List.set_cons_zero, List.set_cons_succ])
                              refine tk (v := ?_) 6 ?_ ?_
                              rotate_left
                              · intro w hSw
                                go_simp
                                (try with_reducible rfl)
                              (try simp only [Act.put, List.setIfInBounds_toArray, List.set_cons_zero, List.set_cons_succ])
                              refine tk (v := ?_) 7 ?_ ?_
                              rotate_left
                              · intro w hSw
                                go_simp
                                (try with_reducible rfl)
                              (try simp only [Act.put, List.setIfInBounds_toArray, List.set_cons_zero, List.set_cons_succ])
                              refine tk (v := ?_) 8 ?_ ?_
                              rotate_left
                              · intro w hSw
                                go_simp
                                (try with_reducible rfl)
                              (try simp only [Act.put, List.setIfInBounds_toArray, List.set_cons_zero, List.set_cons_succ])
                              refine wpAnyH_done (by kernel_rfl) ?_ _
                              clear hHeld
                              have HN9 := Lib.hid (H14.out.pick [2] [0])
                              clear H14
                              go_wp2
                              go_roundw
                              case rel => exact ⟨j + 1, by omega, by go_num, HN9⟩
                              case measure => simp [intOf]; omega
                            exact AllReadyH.nil
                          exact AllReadyH.nil
                        exact AllReadyH.nil
                      refine anyH_one rfl (fun K hK => ?_) ?_
                      · go_simp
                        generalize hq9 : w9.alloc _ = w10
                        have H10 := Lib.hid ((H9.out.new (b := w9.heap.size) rfl #[.int .u64 0, .int .i64 0, .bool false, .bool false, .bool false, .bool false] 44).world hq9)
                        clear hq9 H9
                        generalize w9.heap.size = b14 at H10 ⊢
                        refine hK.out _ _ (⟨H10.out.below0, H10.out.at_ 2 rfl⟩) (fun hHeld => ?_)
                        clear hK K
                        (try simp only [Act.put, List.setIfInBounds_toArray, List.set_cons_zero, List.set_cons_succ])
                        refine wpAnyH_ready (rs := [11]) (by kernel_rfl) (by simp) ?_
                        refine anyH_one rfl (fun K hK => ?_) ?_
                        · go_simp
                          refine (rlookT_any yj.p yj.a _ (R : Int) H10.out.own1 HLEN.out HKL.out HYJ.out.a).mono ?_
                          rw [HXJ.out]
                          rintro e w11 ⟨rfl, hb⟩
                          have H11 := Lib.hid (H10.out.quiet hb)
                          clear hb H10
                          refine hK.out _ _ (⟨H11.out.below0, H11.out.at_ 2 rfl⟩) (fun hHeld => ?_)
                          clear hK K
                          (try simp only [Act.put, List.setIfInBounds_toArray, List.set_cons_zero, List.set_cons_succ])
                          refine tk (v := ?_) 12 ?_ ?_
                          rotate_left
                          · intro w hSw
                            go_simp
                            (try with_reducible rfl)
                          (try simp only [Act.put, List.setIfInBounds_toArray, List.set_cons_zero, List.set_cons_succ])
                          refine tk (v := ?_) 13 ?_ ?_
                          rotate_left
                          · intro w hSw
                            go_simp
                            (try with_reducible rfl)
                          (try simp only [Act.put, List.setIfInBounds_toArray, List.set_cons_zero, List.set_cons_succ])
                          refine tk (v := ?_) 14 ?_ ?_
                          rotate_left
                          · intro w hSw
                            go_simp
                            (try with_reducible rfl)
                          (try simp only [Act.put, List.setIfInBounds_toArray, List.set_cons_zero, List.set_cons_succ])
                          refine wpAnyH_ready (rs := [16]) (by kernel_rfl) (by simp) ?_
                          refine anyH_one rfl (fun K hK => ?_) ?_
                          · obtain ⟨r0, r1, r2, r3, r4, r5⟩ := (H11.out.at_ 0 rfl).c6
                            have g0 := (H11.out.at_ 0 rfl).fz 0; have g1 := (H11.out.at_ 0 rfl).fz 1; have g2 := (H11.out.at_ 0 rfl).fz 2; have g3 := (H11.out.at_ 0 rfl).fz 3; have g4 := (H11.out.at_ 0 rfl).fz 4; have g5 := (H11.out.at_ 0 rfl).fz 5
                            go_simp
                            generalize hq9 : (((((w11.setCell _ _).setCell _ _).setCell _ _).setCell _ _).setCell _ _).setCell _ _ = w12
                            have H12 := Lib.hid ((H11.out.put 0 rfl (turnB6 _ _ _ _ _ _ _ _) (setB6 (H11.out.at_ 0 rfl) _ _ _ _ _ _)).world hq9)
                            clear hq9 H11 r0 r1 r2 r3 r4 r5 g0 g1 g2 g3 g4 g5
                            refine hK.out _ _ (⟨H12.out.below0, H12.out.at_ 2 rfl⟩) (fun hHeld => ?_)
                            clear hK K
                            (try simp only [Act.put, List.setIfInBounds_toArray, List.set_cons_zero, List.set_cons_succ])
                            refine tk (v := ?_) 17 ?_ ?_
                            rotate_left
                            · intro w hSw
                              go_simp
                              (try with_reducible rfl)
                            (try simp only [Act.put, List.setIfInBounds_toArray, List.set_cons_zero, List.set_cons_succ])
                            refine wpAnyH_done (by kernel_rfl) ?_ _
                            clear hHeld
                            go_upto_region 15 with fail
                            have H13 := Lib.hid (H12.out.quiet (Kept.drew0 w12))
                            clear H12
                            refine wp_region_held_drew (S := fun w' => Blk w' b13 #[.int .u64 g9.1, .int .i64 g9.2.1, .bool g9.2.2.1, .bool g9.2.2.2.1, .bool g9.2.2.2.2.1, .bool g9.2.2.2.2.2] 37 ∧ Blk w' b14 #[.int .u64 g9.1, .int .i64 g9.2.1, .bool g9.2.2.1, .bool g9.2.2.2.1, .bool g9.2.2.2.2.1, .bool g9.2.2.2.2.2] 44) (by kernel_rfl) ⟨H13.out.at_ 1 rfl, H13.out.at_ 0 rfl⟩ (fun hHeld => ?_)
                            generalize w12.drew = w13 at *
                            refine tk (v := ?_) 0 ?_ ?_
                            rotate_left
                            · intro w hSw
                              obtain ⟨q0, q1, q2, q3, q4, q5⟩ := hSw.1.c6
                              go_simp
                              (try with_reducible rfl)
                            (try simp only [Act.put, List.setIfInBounds_toArray, List.set_cons_zero, List.set_cons_succ])
                            refine tk (v := ?_) 2 ?_ ?_
                            rotate_left
                            · intro w hSw
                              obtain ⟨q0, q1, q2, q3, q4, q5⟩ := hSw.2.c6
                              go_simp
                              (try with_reducible rfl)
                            (try simp only [Act.put, List.setIfInBounds_toArray, List.set_cons_zero, List.set_cons_succ])
                            refine wpAnyH_ready (rs := [1]) (by kernel_rfl) (by simp) ?_
                            refine anyH_one rfl (fun K hK => ?_) ?_
                            · go_simp
                              refine (hit13_any g9 _).mono ?_
                              rintro e w14 ⟨rfl, hb⟩
                              have H14 := Lib.hid (H13.out.quiet hb)
                              clear hb H13
                              refine hK.out _ _ (⟨H14.out.at_ 1 rfl, H14.out.at_ 0 rfl⟩) (fun hHeld => ?_)
                              clear hK K
                              (try simp only [Act.put, List.setIfInBounds_toArray, List.set_cons_zero, List.set_cons_succ])
                              refine tk (v := ?_) 3 ?_ ?_
                              rotate_left
                              · intro w hSw
                                go_simp
                                (try with_reducible rfl)
                              (try simp only [Act.put, List.setIfInBounds_toArray, List.set_cons_zero, List.set_cons_succ])
                              refine tk (v := ?_) 4 ?_ ?_
                              rotate_left
                              · intro w hSw
                                go_simp
                                (try with_reducible rfl)
                              (try simp only [Act.put, List.setIfInBounds_toArray, List.set_cons_zero, List.set_cons_succ])
                              refine tk (v := ?_) 5 ?_ ?_
                              rotate_left
                              · intro w hSw
                                go_simp
                                (try with_reducible rfl)
                              (try simp only [Act.put, List.setIfInBounds_toArray, List.set_cons_zero, List.set_cons_succ])
                              refine tk (v := ?_) 6 ?_ ?_
                              rotate_left
                              · intro w hSw
                                go_simp
                                (try with_reducible rfl)
                              (try simp only [Act.put, List.setIfInBounds_toArray, List.set_cons_zero, List.set_cons_succ])
                              refine tk (v := ?_) 7 ?_ ?_
                              rotate_left
                              · intro w hSw
                                go_simp
                                (try with_reducible rfl)
                              (try simp only [Act.put, List.setIfInBounds_toArray, List.set_cons_zero, List.set_cons_succ])
                              refine tk (v := ?_) 8 ?_ ?_
                              rotate_left
                              · intro w hSw
                                go_simp
                                (try with_reducible rfl)
                              (try simp only [Act.put, List.setIfInBounds_toArray, List.set_cons_zero, List.set_cons_succ])
                              refine wpAnyH_done (by kernel_rfl) ?_ _
                              clear hHeld
                              have HN9 := Lib.hid (H14.out.pick [2] [0])
                              clear H14
                              go_wp2
                              go_roundw
                              case rel => exact ⟨j + 1, by omega, by go_num, HN9⟩
                              case measure => simp [intOf]; omega
                            exact AllReadyH.nil
                          exact AllReadyH.nil
                        exact AllReadyH.nil
                      exact AllReadyH.nil
                    exact AllReadyH.nil
                  exact AllReadyH.nil
                exact AllReadyH.nil
              · obtain rfl : j = k + 1 := by omega
                have hle : decide (((k + 1 : Nat) : Int) ≤ (k : Int)) = false := decide_eq_false (by omega)
                go_upto_region 17 with fail
                have H5 := Lib.hid (HQ.out.quiet (Kept.drew0 wq))
                clear HQ
                refine wp_region_held_drew (S := fun w' => Blk w' bx #[.slice Z0 z0 y0, .int .i64 (R : Int)] 28) (by kernel_rfl) (H5.out.at_ 0 rfl) (fun hHeld => ?_)
                generalize wq.drew = w5 at *
                refine tk (v := ?_) 0 ?_ ?_
                rotate_left
                · intro w hSw
                  go_simp
                  (try with_reducible rfl)
                (try simp only [Act.put, List.setIfInBounds_toArray, List.set_cons_zero, List.set_cons_succ])
                refine tk (v := ?_) 2 ?_ ?_
                rotate_left
                · intro w hSw
                  go_simp
                  (try with_reducible rfl)
                (try simp only [Act.put, List.setIfInBounds_toArray, List.set_cons_zero, List.set_cons_succ])
                refine tk (v := ?_) 3 ?_ ?_
                rotate_left
                · intro w hSw
                  obtain ⟨a0, a1⟩ := hSw.c2
                  go_simp
                  (try with_reducible rfl)
                (try simp only [Act.put, List.setIfInBounds_toArray, List.set_cons_zero, List.set_cons_succ])
                refine tk (v := ?_) 4 ?_ ?_
                rotate_left
                · intro w hSw
                  go_simp
                  (try with_reducible rfl)
                (try simp only [Act.put, List.setIfInBounds_toArray, List.set_cons_zero, List.set_cons_succ])
                refine wpAnyH_ready (rs := [1]) (by kernel_rfl) (by simp) ?_
                refine anyH_one rfl (fun K hK => ?_) ?_
                · go_simp
                  refine H5.out.tLen.mono ?_
                  rw [← HZL.out]
                  rintro e w6 ⟨rfl, hb⟩
                  have H6 := Lib.hid (H5.out.quiet hb)
                  clear hb H5
                  refine hK.out _ _ ((H6.out.at_ 0 rfl)) (fun hHeld => ?_)
                  clear hK K
                  (try simp only [Act.put, List.setIfInBounds_toArray, List.set_cons_zero, List.set_cons_succ])
                  refine tk (v := ?_) 5 ?_ ?_
                  rotate_left
                  · intro w hSw
                    go_simp
                    (try with_reducible rfl)
                  (try simp only [Act.put, List.setIfInBounds_toArray, List.set_cons_zero, List.set_cons_succ])
                  refine wpAnyH_done (by kernel_rfl) ?_ _
                  clear hHeld
                  go_wp2
                  go_roundw
                  case rel => exact ⟨k + 1, _, Z0, z0, y0, by omega, by go_num, by rw [HNX2.out]; exact H6⟩
                  case measure => simp [intOf]; omega
                exact AllReadyH.nil
          exact AllReadyH.nil
        exact AllReadyH.nil
      exact AllReadyH.nil
    · obtain rfl : k = mn := by omega
      by_cases h2 : k < ds.length
      · have h3 : decide ((k : Int) < 100) = false := by
          have := HM2.out
          exact decide_eq_false (by omega)
        go_wp2
        go_ret
        exact ⟨rfl, HL.out.below0⟩
      · skip
        go_wp2
        go_ret
        exact ⟨rfl, HL.out.below0⟩
end Go.Proofs.YtddbjbdhbeijjaaDoor
