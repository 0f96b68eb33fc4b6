/- Several texts of ours in one: Et, Nc, Qa. -/
import Derived.Test.YtddbjbdhbeijjaaDoorGCjJeEr
import Derived.LoopTactic
import Derived.Lib.SmallJoins
import Derived.StillTailTactics
import Derived.Test.YtddbjbdhbeijjaaDoorGNbTpCb
import Derived.Deep.Cut
import Derived.Test.YtddbjbdhbeijjaaDoorGMmCaNa
import Derived.Test.YtddbjbdhbeijjaaDoorGVmRN
/- dormerref05.Parse: what the document's own answer says of a word. -/
namespace Go.Proofs.YtddbjbdhbeijjaaDoor
set_option linter.unusedVariables false
set_option linter.unusedSimpArgs false
open Go.ChangeShapes Go.WideShapes Go.ChangeAt Go.RowKit Go.Joins

theorem stillOf {P : Program} {f : FuncId} {args : Array Value} {w : World} {v : Value} (h : Calls P f args w fun e w' => e = .returned v ∧ w = w') : Calls P f args w fun e w' => e = .returned v ∧ w' = w :=
  h.mono fun _ _ ⟨he, hw⟩ => ⟨he, hw.symm⟩

end Go.Proofs.YtddbjbdhbeijjaaDoor
/- Package group: Without. -/
namespace Go.Proofs.YtddbjbdhbeijjaaDoor
set_option linter.unusedVariables false
set_option linter.unusedSimpArgs false
open Go.ChangeShapes Go.WideShapes Go.ChangeAt Go.RowKit Go.Joins

abbrev zeroC : Array Value := #[.int .u64 0, .bool false, .bool false, .bool false, .bool false, .int .u8 0]
section
variable {w wr w3 : World} {bs : List BoxD} {rs : List RowD} {b : Nat} {t : TypeId} {x0 x1 x2 x3 x4 x5 y5 : Value}
theorem Blk.line6 (h : Blk w b #[x0, x1, x2, x3, x4, x5] t) : w.cell? ⟨b, 0, none⟩ = some x0 ∧ w.cell? ⟨b, 1, none⟩ = some x1 ∧ w.cell? ⟨b, 2, none⟩ = some x2 ∧ w.cell? ⟨b, 3, none⟩ = some x3 ∧ w.cell? ⟨b, 4, none⟩ = some x4 ∧ w.cell? ⟨b, 5, none⟩ = some x5 :=
  ⟨(cell_of_block h 0).trans rfl, (cell_of_block h 1).trans rfl, (cell_of_block h 2).trans rfl, (cell_of_block h 3).trans rfl, (cell_of_block h 4).trans rfl, (cell_of_block h 5).trans rfl⟩
theorem Mine.mask (h : Mine w wr bs rs) (k : Nat) (hk : bs[k]? = some ⟨b, #[x0, x1, x2, x3, x4, x5], t⟩) (hq : wr.setCell ⟨b, 5, none⟩ y5 = w3) (hr : rs.all (fun r => r.e != t) = true := by rfl) : Mine w w3 (bs.set k ⟨b, #[x0, x1, x2, x3, x4, y5], t⟩) rs := by
  subst hq
  exact h.put k hk (turn1 _ _ _ _) ((h.at_ k hk).set1 5 y5) hr
end
theorem wth_no {l : Ln} {i : Int} (h : clrM l.2.2.2.2.2 i = 0) : wthG l i = zL := by unfold wthG; rw [if_pos h]
theorem wth_yes {l : Ln} {i : Int} (h : clrM l.2.2.2.2.2 i ≠ 0) : wthG l i = cutG l i := by unfold wthG; rw [if_neg h]

set_option maxRecDepth 100000 in
theorem gwith_any (l : Ln) (i : Int) (w : World) (hp : PagesT w) (hl : OkL l) :
    Calls Tryd.prog 66 #[lineV l, .int .i64 i] w fun e w' => e = .returned (lineV (wthG l i)) ∧ Below w.heap.size w w' := by
  have HE := Lib.hid (clr_andNot hl i)
  have HT := Lib.hid hp
  have H0 := Lib.hid (((Mine.start w).new (b := w.heap.size) rfl (lineC l) 35).new (b := w.heap.size + 1) (by simp) zeroC 35)
  clear hp
  go_enter Tryd.func66, Tryd.ntmps66
  go_upto_region 1 with fail
  generalize hw0 : (w.alloc _).alloc _ = w0
  have H1 := Lib.hid (H0.out.world hw0)
  clear hw0 H0
  have hp1 : PagesT w0.drew := pages_keep HT.out H1.out.below.drew (Nat.le_refl _)
  obtain ⟨p0, p1, p2, p3, p4, p5⟩ := (H1.out.at_ 1 rfl).line6
  refine wp_region_still_tail 6 (by kernel_rfl) (by kernel_rfl) ?_
  simp only [List.take_succ_cons, List.take_zero, List.drop_succ_cons, List.drop_zero]
  repeat (first | still_step | still_call (stillOf (gbit_any _ _ hp1)))
  refine wpStill_nil ?_
  change wpList _ _ _ _ _ w0.drew
  have H2 := Lib.hid (H1.out.quiet (Below.refl _ _).drew)
  clear H1 p0 p1 p2 p3 p4 p5 hp1
  generalize w0.drew = w1 at *
  obtain ⟨p0, p1, p2, p3, p4, p5⟩ := (H2.out.at_ 1 rfl).line6
  have f5 := (H2.out.at_ 1 rfl).fz 5
  rw [HE.out]
  by_cases hz : clrM l.2.2.2.2.2 i = 0
  · have HZ := Lib.hid (wth_no hz)
    rw [hz]
    go_upto_region 2 with fail
    generalize hw2 : w1.setCell _ _ = w2
    have H3 := Lib.hid (H2.out.mask 1 rfl hw2)
    clear hw2 H2 p0 p1 p2 p3 p4 p5 f5
    obtain ⟨p0, p1, p2, p3, p4, p5⟩ := (H3.out.at_ 1 rfl).line6
    have f0 := (H3.out.at_ 0 rfl).fz 0; have f1 := (H3.out.at_ 0 rfl).fz 1; have f2 := (H3.out.at_ 0 rfl).fz 2; have f3 := (H3.out.at_ 0 rfl).fz 3; have f4 := (H3.out.at_ 0 rfl).fz 4; have f5 := (H3.out.at_ 0 rfl).fz 5
    obtain ⟨q0, q1, q2, q3, q4, q5⟩ := (H3.out.at_ 0 rfl).line6
    go_wp2
    have H4 := H3.out.put6 0 rfl (y0 := .int .u64 0) (y1 := .bool false) (y2 := .bool false) (y3 := .bool false) (y4 := .bool false) (y5 := .int .u8 0) rfl
    exact bodyPost_ret (results_cell_row rfl _ _ (w.heap.size + 1) _ _ _ _ rfl (H4.at_ 0 rfl) Tryd.underlying35 rfl rfl) rfl ⟨ret_val (by rw [HZ.out]; rfl), H4.below⟩
  · have HZ := Lib.hid (wth_yes hz)
    have hz' : (clrM l.2.2.2.2.2 i == 0) = false := by simp [hz]
    clear hz
    go_upto_region 2 with fail
    generalize hw2 : w1.setCell _ _ = w2
    have H3 := Lib.hid (H2.out.mask 1 rfl hw2)
    clear hw2 H2 p0 p1 p2 p3 p4 p5 f5
    obtain ⟨p0, p1, p2, p3, p4, p5⟩ := (H3.out.at_ 1 rfl).line6
    have f0 := (H3.out.at_ 0 rfl).fz 0; have f1 := (H3.out.at_ 0 rfl).fz 1; have f2 := (H3.out.at_ 0 rfl).fz 2; have f3 := (H3.out.at_ 0 rfl).fz 3; have f4 := (H3.out.at_ 0 rfl).fz 4; have f5 := (H3.out.at_ 0 rfl).fz 5
    obtain ⟨q0, q1, q2, q3, q4, q5⟩ := (H3.out.at_ 0 rfl).line6
    go_wp2
    have H4 := H3.out.put6 0 rfl (y0 := .int .u64 l.1) (y1 := .bool l.2.1) (y2 := .bool l.2.2.1) (y3 := .bool l.2.2.2.1) (y4 := .bool l.2.2.2.2.1) (y5 := .int .u8 (clrM l.2.2.2.2.2 i)) rfl
    exact bodyPost_ret (results_cell_row rfl _ _ (w.heap.size + 1) _ _ _ _ rfl (H4.at_ 0 rfl) Tryd.underlying35 rfl rfl) rfl ⟨ret_val (by rw [HZ.out]; rfl), H4.below⟩
end Go.Proofs.YtddbjbdhbeijjaaDoor
/- Plain mathematics of translations: keys of an address, what a look finds, what is put, what is dropped. Nothing of the program. -/
namespace Go.Proofs.YtddbjbdhbeijjaaDoor
set_option linter.unusedVariables false
set_option linter.unusedSimpArgs false

/-- the number of an address's page on a level; of the level 1 its group's -/
def tagT (a l : Int) : Int := if l = 1 then a / 32768 else a / sizeF l
def kyT (p a l : Int) : Ky := (p, l, tagT a l)
/-- the place of an address's page in its group -/
def plT (a : Int) : Int := a / 4096 % 8
theorem tag1 (a : Int) : tagT a 1 = a / 32768 := rfl
theorem tagT2 (a : Int) : tagT a 2 = a / 2097152 := rfl
theorem tagT3 (a : Int) : tagT a 3 = a / 1073741824 := rfl
theorem w64_tagT {a : Int} (h : W64 a) {l : Int} (h1 : 1 ≤ l) (h3 : l ≤ 3) : W64 (tagT a l) := by
  have hl : l = 1 ∨ l = 2 ∨ l = 3 := by omega
  obtain ⟨a0, a1⟩ := h
  unfold W64
  rcases hl with rfl | rfl | rfl
  · rw [tag1]; omega
  · rw [tagT2]; omega
  · rw [tagT3]; omega
theorem pl_bd (a : Int) : 0 ≤ plT a ∧ plT a ≤ 7 := by unfold plT; omega
theorem pl_code (a : Int) : (indexF a 1).tmod 8 = plT a := by
  have h := index_bd a 1
  rw [Int.tmod_eq_emod_of_nonneg h.1]
  show a / 4096 % 512 % 8 = a / 4096 % 8
  omega

/-- what a look finds: Frame, Level, W, U, X, Dirty -/
abbrev Ht := Int × Int × Bool × Bool × Bool × Bool
def zH : Ht := (0, 0, false, false, false, false)
def hitL (l : Ln) (f lv : Int) : Ht := (f, lv, l.2.1, l.2.2.1, l.2.2.2.1, l.2.2.2.2.1)
def runT (L : List Pr) (p a : Int) : Option Ht := if hasG ((getK L (kyT p a 1)).getD zL) (plT a) then some (hitL ((getK L (kyT p a 1)).getD zL) (frmF ((getK L (kyT p a 1)).getD zL).1 (plT a)) 1) else none
def greatT (L : List Pr) (p a lv : Int) : Option Ht := (getK L (kyT p a lv)).map fun l => hitL l l.1 lv
def lookT (L : List Pr) (p a : Int) : Option Ht :=
  match runT L p a with
  | some h => some h
  | none => match greatT L p a 2 with
    | some h => some h
    | none => greatT L p a 3
/-- a run is put, a great page is put -/
def smallT (R : Nat) (L : List Pr) (p a : Int) (l : Ln) (k : Int) : List Pr := if l.2.2.2.2.2 = 0 then L else putK R L (kyT p a 1) l k
def lineH (h : Ht) : Ln := (h.1, h.2.2.1, h.2.2.2.1, h.2.2.2.2.1, h.2.2.2.2.2, 0)
def bigT (R : Nat) (L : List Pr) (p a : Int) (h : Ht) (k : Int) : List Pr := if h.2.1 = 2 ∨ h.2.1 = 3 then putK R L (kyT p a h.2.1) (lineH h) k else L
/-- a page is taken out of its run -/
def splitT (R : Nat) (L : List Pr) (p a : Int) : List Pr :=
  match getK L (kyT p a 1) with
  | none => L
  | some l => if (wthG l (plT a)).2.2.2.2.2 = 0 then dropK L (kyT p a 1) else putK R L (kyT p a 1) (wthG l (plT a)) 0
def dropT (R : Nat) (L : List Pr) (p a : Int) : List Pr := dropK (dropK (splitT R L p a) (kyT p a 2)) (kyT p a 3)

theorem zero_wth (l : Ln) (i : Int) : (wthG l i).2.2.2.2.2 = 0 ↔ wthG l i = zL := by
  constructor
  · intro h
    rw [mask_wth] at h
    unfold wthG; rw [if_pos h]
  · intro h; rw [h]; rfl

/-- each line has a mask of eight bits -/
def OkLs (L : List Pr) : Prop := ∀ x ∈ L, OkL x.2

section
variable {R : Nat} {L : List Pr}
theorem ok_get (h : OkLs L) (k : Ky) : OkL ((getK L k).getD zL) := by
  cases hg : getK L k with
  | none => exact ok_zL
  | some l =>
    unfold getK at hg
    obtain ⟨x, hx, rfl⟩ := Option.map_eq_some_iff.1 hg
    exact h x (List.mem_of_find?_eq_some hx)
theorem ok_some (h : OkLs L) {k : Ky} {l : Ln} (hg : getK L k = some l) : OkL l := by have := ok_get h k; rwa [hg] at this
theorem ok_sub {L' : List Pr} (h : OkLs L) (hs : ∀ x ∈ L', x ∈ L) : OkLs L' := fun x hx => h x (hs x hx)
theorem ok_drop (h : OkLs L) (k : Ky) : OkLs (dropK L k) := ok_sub h fun x hx => by
  unfold dropK cutO at hx
  split at hx
  · exact (List.eraseIdx_sublist _ _).subset hx
  · exact hx
theorem ok_of (h : OkLs L) (p : Int) : OkLs (ofK L p) := ok_sub h fun x hx => (List.mem_filter.1 hx).1
theorem ok_ev (h : OkLs L) (a : Int) : OkLs (evK L a) := ok_sub h fun x hx => (evK_sub L a).subset hx
theorem ok_nil : OkLs [] := fun x hx => by cases hx
theorem ok_put (h : OkLs L) (k : Ky) {l : Ln} (hl : OkL l) (a : Int) : OkLs (putK R L k l a) := by
  intro x hx
  unfold putK at hx
  split at hx
  · rcases List.mem_or_eq_of_mem_set hx with hx | rfl
    · exact h x hx
    · exact hl
  · split at hx
    · exact h x hx
    · rcases List.mem_append.1 hx with hx | hx
      · split at hx
        · exact ok_ev h a x hx
        · exact h x hx
      · obtain rfl := List.mem_singleton.1 hx; exact hl
/-- a line at a key that is there is laid in its place -/
def swapK (L : List Pr) (k : Ky) (l : Ln) : List Pr := L.map fun x => if x.1 = k then (k, l) else x
theorem putK_swap (hn : (keysK L).Nodup) {k : Ky} {l0 : Ln} (hg : getK L k = some l0) (l : Ln) (a : Int) : putK R L k l a = swapK L k l := by
  have hk : k ∈ keysK L := by
    rcases Classical.em (k ∈ keysK L) with h | h
    · exact h
    · rw [getK_none.2 h] at hg; cases hg
  obtain ⟨i, hi⟩ := idxF_mem hk
  obtain ⟨hlt, hki⟩ := idxF_of hi
  have hlt' : i < L.length := by rwa [keysK_len] at hlt
  unfold putK
  rw [hi]
  show L.set i (k, l) = _
  unfold swapK
  apply List.ext_getElem (by simp)
  intro j h1 h2
  have hj : j < L.length := by simpa using h1
  rw [List.getElem_map]
  have hi1 : (L[i]).1 = k := by rw [keysK_getD, List.getD, List.getElem?_eq_getElem hlt'] at hki; exact hki
  by_cases e : i = j
  · subst e
    rw [List.getElem_set_self, if_pos hi1]
  · rw [List.getElem_set_ne e]
    have hne : (L[j]).1 ≠ k := fun h => e (by
      have h3 := List.getElem_inj (xs := keysK L) (i := i) (j := j) (h₀ := by rw [keysK_len]; exact hlt') (h₁ := by rw [keysK_len]; exact hj) hn
      refine h3.1 ?_
      simp [keysK, hi1, h])
    rw [if_neg hne]
theorem keysK_swap (L : List Pr) (k : Ky) (l : Ln) : keysK (swapK L k l) = keysK L := by
  unfold keysK swapK
  rw [List.map_map]
  refine List.map_congr_left fun x _ => ?_
  simp only [Function.comp]
  split
  · rename_i h; exact h.symm
  · rfl
theorem nodup_dropK (hn : (keysK L).Nodup) (k : Ky) : (keysK (dropK L k)).Nodup := by rw [dropK_filter hn]; exact nodupK_filter hn _
theorem drop_comm (hn : (keysK L).Nodup) (k j : Ky) : dropK (dropK L k) j = dropK (dropK L j) k := by
  rw [dropK_filter (nodup_dropK hn k), dropK_filter (nodup_dropK hn j), dropK_filter hn, dropK_filter hn, List.filter_filter, List.filter_filter]
  exact List.filter_congr fun x _ => Bool.and_comm _ _
theorem drop_swap (hn : (keysK L).Nodup) {k j : Ky} (hkj : k ≠ j) (l : Ln) : dropK (swapK L k l) j = swapK (dropK L j) k l := by
  rw [dropK_filter (by rw [keysK_swap]; exact hn), dropK_filter hn]
  unfold swapK
  rw [List.filter_map]
  refine congrArg _ (List.filter_congr fun x _ => ?_)
  simp only [Function.comp]
  by_cases h : x.1 = k
  · simp [h]
  · simp [h]
theorem get_drop (hn : (keysK L).Nodup) {k j : Ky} (h : j ≠ k) : getK (dropK L k) j = getK L j := by
  rw [dropK_filter hn]
  apply Option.ext
  intro l
  rw [getK_iff (nodupK_filter hn _), getK_iff hn, List.mem_filter]
  simp [h]
theorem get_swap (hn : (keysK L).Nodup) {k : Ky} {l0 : Ln} (hg : getK L k = some l0) (l : Ln) (j : Ky) : getK (swapK L k l) j = if j = k then some l else getK L j := by
  have hn' : (keysK (swapK L k l)).Nodup := by rw [keysK_swap]; exact hn
  have hm := (getK_iff hn).1 hg
  by_cases h : j = k
  · subst h
    rw [if_pos rfl, getK_iff hn']
    exact List.mem_map.2 ⟨(j, l0), hm, by simp⟩
  · rw [if_neg h]
    apply Option.ext
    intro m
    rw [getK_iff hn', getK_iff hn]
    unfold swapK
    constructor
    · intro hx
      obtain ⟨x, hx, e⟩ := List.mem_map.1 hx
      split at e
      · exact absurd (congrArg (·.1) e).symm h
      · rw [← e]; exact hx
    · intro hx
      exact List.mem_map.2 ⟨(j, m), hx, if_neg h⟩
theorem ky_ne {p a b l m : Int} (h : l ≠ m) : kyT p a l ≠ kyT p b m := fun e => h (congrArg (fun k : Ky => k.2.1) e)
theorem ky_pcid {p q a b l m : Int} (h : p ≠ q) : kyT p a l ≠ kyT q b m := fun e => h (congrArg (fun k : Ky => k.1) e)
/-- the document drops the great ones first -/
theorem drop_doc (hn : (keysK L).Nodup) (p a : Int) : splitT R (dropK (dropK L (kyT p a 2)) (kyT p a 3)) p a = dropT R L p a := by
  have h2 : kyT p a 1 ≠ kyT p a 2 := ky_ne (by decide)
  have h3 : kyT p a 1 ≠ kyT p a 3 := ky_ne (by decide)
  have hn2 := nodup_dropK hn (kyT p a 2)
  have hn3 := nodup_dropK hn2 (kyT p a 3)
  have hg : getK (dropK (dropK L (kyT p a 2)) (kyT p a 3)) (kyT p a 1) = getK L (kyT p a 1) := by rw [get_drop hn2 h3, get_drop hn h2]
  unfold dropT splitT
  rw [hg]
  cases hx : getK L (kyT p a 1) with
  | none => rfl
  | some l =>
    rw [hx] at hg
    simp only []
    split
    · rw [drop_comm hn2 (kyT p a 3) (kyT p a 1), drop_comm hn (kyT p a 2) (kyT p a 1)]
    · rw [putK_swap hn3 hg, putK_swap hn hx, drop_swap hn h2, drop_swap hn2 h3]
end
end Go.Proofs.YtddbjbdhbeijjaaDoor
