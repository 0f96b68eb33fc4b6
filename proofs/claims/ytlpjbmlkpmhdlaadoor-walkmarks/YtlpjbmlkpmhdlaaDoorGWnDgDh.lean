/- Several texts of ours in one: Wn, Dg, Dh. -/
import Derived.Test.YtlpjbmlkpmhdlaaDoorGScSdSi
import Derived.Test.YtlpjbmlkpmhdlaaDoorGGmGaKp
import Derived.Test.YtlpjbmlkpmhdlaaDoorGDpWaWr
import Derived.Deep.RegionHeld3
import Derived.Test.YtlpjbmlkpmhdlaaDoorGWdMmMc
import Derived.ChangeKeysEq
import Derived.Laws.Rows
import Derived.Laws.StructEq
import Derived.BigQuiet
/- mem.written: the numbers of the pages of both memories, rising. -/
namespace Go.Proofs.YtlpjbmlkpmhdlaaDoor
set_option linter.unusedVariables false
set_option linter.unusedSimpArgs false
open Go.ChangeShapes Go.WideShapes Go.ChangeAt Go.RowKit Go.Joins

/-- block B is a variable that holds the map mb -/
def KeyBox (W : World) (B mb : Nat) : Prop := W.heap[B]? = some (.cells #[.map (some mb)] 108 (0, 0))

abbrev RegK (w w' : World) (m m' mb mb' : Nat) : Prop := w'.cell? ⟨m, 1, none⟩ = some (.map (some mb)) ∧ w'.cell? ⟨m', 1, none⟩ = some (.map (some mb')) ∧ Kept w w'

section
variable {w w1 w2 w3 w4 : World} {m m' mb mb' : Nat}
theorem regk_step (h : RegK w w1 m m' mb mb') (hb : Below w.heap.size w1 w2) (hm : m < w.heap.size) (hm' : m' < w.heap.size) : RegK w w2 m m' mb mb' :=
  ⟨(hb.cell (p := ⟨m, 1, none⟩) hm).trans h.1, (hb.cell (p := ⟨m', 1, none⟩) hm').trans h.2.1, Below.trans h.2.2 hb⟩

theorem Lst.keptL {W W' : World} {B : Nat} {v : Value} {zs : List Int} (h : Lst W B v zs) (hk : Kept W W') : Lst W' B v zs := by
  refine World.ownsRow.kept h (row := none) ⟨hk.os, hk.tape, hk.output, Below.size hk, fun k hl _ => Below.block hk k hl⟩ ?_
  cases v.ownBlock <;> simp

theorem ownsMap_kept {W W' : World} {b n : Nat} {D : Dw} (h : W.ownsMap Tryd.prog 23 ptrElem b n D) (hk : Kept W W') : W'.ownsMap Tryd.prog 23 ptrElem b n D := by
  have hbl := h.lt
  obtain ⟨es, clock, hb, Ft, hs, hD⟩ := h
  exact ⟨es, clock, (Below.block hk b hbl).trans hb, Ft, hs, hD⟩

theorem keys_reg (h : RegK w w1 m m' mb mb') (k : Nat) :
    Calls Tryd.prog 79 #[.map (some k)] w1 fun e w2 => ∃ B, e = .returned (.func (.func 89) #[] #[.pointer (some ⟨B, 0, none⟩)]) ∧ Hid (KeyBox w2 B k) ∧ Hid (Kept w1 w2) ∧ RegK w w2 m m' mb mb' := by
  refine (keys_any w1 (some k)).mono fun e w2 ⟨he, hw⟩ => ?_
  subst hw
  have hk : Kept w1 (w1.alloc (.cells #[.map (some k)] 108)) := (Below.refl _ _).alloc (Nat.le_refl _) _
  exact ⟨_, he, Lib.hid (Deep.blk_alloc_new _ _), Lib.hid hk, (Below.cell hk (cell_lt h.1)).trans h.1, (Below.cell hk (cell_lt h.2.1)).trans h.2.1, Kept.step hk h.2.2⟩

theorem collect_reg {B k n : Nat} {D : Dw} (hm : m < w.heap.size) (hm' : m' < w.heap.size) (hown : w.ownsMap Tryd.prog 23 ptrElem k n D) (hn : n ≤ 1000000) (h : RegK w w2 m m' mb mb') (hB : Hid (KeyBox w2 B k)) :
    Calls Tryd.prog 78 #[.func (.func 89) #[] #[.pointer (some ⟨B, 0, none⟩)]] w2 fun e w3 => ∃ A c ks, e = .returned (.slice A ks.length c) ∧ Hid (KeyList D ks ∧ ∀ W, Kept w3 W → Lst W w.heap.size (.slice A ks.length c) ks) ∧ RegK w w3 m m' mb mb' := by
  refine (collect_any w2 w.heap.size B k n D (Below.size h.2.2) (lt_of_block hB.out) (cell_of_one hB.out) (ownsMap_kept hown h.2.2) hn).mono fun e w3 ⟨v, ks, he, h1, h2, h3⟩ => ?_
  obtain ⟨A, c, rfl⟩ := Lst.len h2
  exact ⟨A, c, ks, he, Lib.hid ⟨h1, fun W hW => Lst.keptL h2 hW⟩, regk_step h h3 hm hm'⟩

theorem app_reg {B k n c : Nat} {D D' : Dw} {A : Option Addr} {ks : List Int} (hm : m < w.heap.size) (hm' : m' < w.heap.size) (hown : w.ownsMap Tryd.prog 23 ptrElem k n D') (hn : n ≤ 100000) (h : RegK w w4 m m' mb mb') (hC : Hid (KeyList D ks ∧ ∀ W, Kept w3 W → Lst W w.heap.size (.slice A ks.length c) ks)) (hk : Hid (Kept w3 w4)) (hl : ∀ ks, KeyList D ks → ks.length ≤ 1000) (hB : Hid (KeyBox w4 B k)) :
    Calls Tryd.prog 77 #[.slice A ks.length c, .func (.func 89) #[] #[.pointer (some ⟨B, 0, none⟩)]] w4 fun e w5 => ∃ A c zs, e = .returned (.slice A zs.length c) ∧ Hid (∃ k1 k2, zs = k1 ++ k2 ∧ KeyList D k1 ∧ KeyList D' k2) ∧ Hid (Lst w5 w.heap.size (.slice A zs.length c) zs) ∧ RegK w w5 m m' mb mb' := by
  obtain ⟨c1, c2⟩ := hC.out
  have := hl ks c1
  refine (appendSeq_any w4 w.heap.size B k n D' (.slice A ks.length c) ks (Below.size h.2.2) (lt_of_block hB.out) (cell_of_one hB.out) (ownsMap_kept hown h.2.2) (c2 _ hk.out) (by omega)).mono fun e w5 ⟨v, ks2, he, h1, h2, h3⟩ => ?_
  obtain ⟨A2, cc, rfl⟩ := Lst.len (zs := ks ++ ks2) h2
  exact ⟨A2, cc, ks ++ ks2, he, Lib.hid ⟨ks, ks2, rfl, c1, h1⟩, Lib.hid h2, regk_step h h3 hm hm'⟩
end

set_option maxRecDepth 100000 in
set_option maxHeartbeats 4000000 in
theorem written_any (w : World) {m m' mb mb' n n' : Nat} {M M' : Int} {f f' : Int → Int} {tr tr' : List Int} {v v' : Value} {D D' : Dw} (ha : Mm w m M f tr n mb v D) (hb : Mm w m' M' f' tr' n' mb' v' D') (hn : n ≤ 100000) (hn' : n' ≤ 100000)
    (hl : ∀ ks, KeyList D ks → ks.length ≤ 16) (hl' : ∀ ks, KeyList D' ks → ks.length ≤ 16) :
    Calls Tryd.prog 61 #[.pointer (some ⟨m, 0, none⟩), .pointer (some ⟨m', 0, none⟩)] w fun e w' => ∃ A c ps, e = .returned (.slice A ps.length c) ∧ ps.Pairwise (· < ·) ∧ (∀ x, x ∈ ps ↔ Maps.has D (.int .u64 x) = true ∨ Maps.has D' (.int .u64 x) = true) ∧ Lst w' w.heap.size (.slice A ps.length c) ps ∧ Below w.heap.size w w' := by
  have hm := lt_of_block ha.here
  have hm' := lt_of_block hb.here
  have c1 : w.cell? ⟨m, 1, none⟩ = some (.map (some mb)) := by simp [World.cell?, ha.here]
  have c2 : w.cell? ⟨m', 1, none⟩ = some (.map (some mb')) := by simp [World.cell?, hb.here]
  have HA := Lib.hid ha.pages
  have HB := Lib.hid hb.pages
  have HL := Lib.hid hl
  have HL2 := Lib.hid hl'
  clear ha hb hl hl'
  have HR : RegK w w.drew m m' mb mb' := ⟨c1, c2, Kept.drew0 _⟩
  go_enter Tryd.func61, Tryd.ntmps61
  go_wp2
  go_region_held3 (fun w' => w'.cell? ⟨m, 1, none⟩ = some (.map (some mb)) ∧ w'.cell? ⟨m', 1, none⟩ = some (.map (some mb')) ∧ Kept w w')
    (first | assumption | exact HR)
    (first | (go_at_call 79; refine (keys_reg (by assumption) _).mono ?_; rintro e w2 ⟨B, rfl, HB1, HK1, hH2⟩) | (go_at_call 78; refine (collect_reg hm hm' HA.out (by omega) (by assumption) (by assumption)).mono ?_; rintro e w3 ⟨A, c, ks, rfl, HC, hH3⟩) | (go_at_call 77; refine (app_reg hm hm' HB.out hn' (by assumption) (by assumption) (by assumption) (fun ks hk => Nat.le_trans (HL.out ks hk) (by decide)) (by assumption)).mono ?_; rintro e w5 ⟨A5, c5, zs, rfl, HZ, HS, hH5⟩))
  have hz50 : zs.length ≤ 32 := by
    obtain ⟨k1, k2, e, h1, h2⟩ := HZ.out
    have := HL.out _ h1
    have := HL2.out _ h2
    rw [e, List.length_append]
    omega
  have HK5 := Lib.hid (show Below w.heap.size w w5 from hH5.2.2)
  clear hH5
  go_wp2_with (first | (go_at_call 80; refine (sort_lst _ w.heap.size _ zs HS.out HK5.out.size (by omega)).mono ?_; rintro e w6 ⟨rfl, zs', hp, hs, hL6, hb6⟩; have HP := Lib.hid hp; have HSo := Lib.hid hs; have HL6 := Lib.hid hL6; have HK6 := Lib.hid (HK5.out.trans hb6); have hlen : zs'.length < 50 := (by rw [HP.out.length_eq]; omega); clear hp hs hL6 hb6) | (go_at_call 81; refine (compact_lst _ w.heap.size _ zs' HL6.out HSo.out HK6.out.size hlen).mono ?_; rintro e w7 ⟨v7, ps, rfl, hp7, hm7, hL7, hb7⟩))
  obtain ⟨A7, c7, rfl⟩ := hL7.len
  go_ret
  refine ⟨A7, c7, ps, rfl, hp7, fun x => ?_, hL7, HK6.out.trans hb7⟩
  obtain ⟨k1, k2, e, h1, h2⟩ := HZ.out
  rw [hm7, HP.out.mem_iff, e, List.mem_append, h1.2, h2.2]

end Go.Proofs.YtlpjbmlkpmhdlaaDoor
/- (*Mem).page, and pages that are compared as a whole. -/
namespace Go.Proofs.YtlpjbmlkpmhdlaaDoor
set_option linter.unusedVariables false
set_option linter.unusedSimpArgs false
open Go.ChangeShapes Go.WideShapes Go.ChangeAt Go.RowKit

set_option maxRecDepth 100000 in
theorem mpage_any {w : World} {m : Nat} {M : Int} {f : Int → Int} {tr : List Int} {n mb : Nat} {v : Value} {D : Dw} (h : Mm w m M f tr n mb v D) (k : Int) (hk : W64 k) :
    Calls Tryd.prog 62 #[.pointer (some ⟨m, 0, none⟩), .int .u64 k] w fun e w' => ∃ b : Nat, e = .returned (.pointer (some ⟨b, 0, none⟩)) ∧ w'.rowIs b 113 512 (fun i => .int .u64 (f (k * 512 + i))) ∧ Below w.heap.size w w' := by
  obtain ⟨c0, c1, c2, _⟩ := h.cells
  rcases h.page k with ⟨hn, hz⟩ | ⟨b, hb, hrow⟩
  · have hl := h.look_no hk hn
    have HZ := Lib.hid hz
    clear h c0 c2 hz hk
    go_enter Tryd.func62, Tryd.ntmps62
    go_wp2
    go_ret
    refine ⟨_, rfl, ⟨_, Deep.blk_alloc_new _ _, by rw [zeros_eq]; simp, fun i hi => ?_⟩, (Below.refl _ _).alloc (Nat.le_refl _) _⟩
    show _ = some (Value.int .u64 (f (k * 512 + i)))
    rw [zeros_eq, HZ.out i hi]; simp [hi]
  · have hl := h.look_yes hk hb
    have HR := Lib.hid hrow
    clear h c0 c2 hrow hk
    go_enter Tryd.func62, Tryd.ntmps62
    go_wp2
    go_ret
    exact ⟨b, rfl, HR.out, Below.refl _ _⟩

theorem pageInfo : (Tryd.prog.info? 113).map (·.size) = some 512 := by kernel_rfl
theorem cells64 : Tryd.prog.cellsOf 23 = 1 := by kernel_rfl
theorem plain64 : Tryd.prog.plainKey 23 = true := by kernel_rfl
theorem pageGuard : Tryd.prog.eqGuardType Tryd.prog.depth 113 = false := by kernel_rfl

theorem row_load {w : World} {b : Nat} {p : Nat → Value} (h : w.rowIs b 113 512 p) : ∃ cs : Array Value, cs.size = 512 ∧ (∀ i, i < 512 → cs[i]? = some (p i)) ∧ w.heap[b]? = some (.cells cs 113 (0, 0)) ∧ ∀ k, (loadVar 113 ⟨b, 0, none⟩).run Tryd.prog (w.drewN k) = .ok (.agg cs) (w.drewN k) := by
  obtain ⟨cs, h1, h2, h3⟩ := h
  exact ⟨cs, h2, h3, h1, fun k => run_loadVar_row (w.drewN k) b _ _ cs _ _ h1 Tryd.underlying113 rfl (by rw [h2]; exact pageInfo)⟩

theorem eqItems64 (w : World) (d : Nat) (xs ys : Array Value) (p q : Nat → Int) : ∀ is : List Nat, (∀ i ∈ is, xs[i]? = some (.int .u64 (p i)) ∧ ys[i]? = some (.int .u64 (q i))) →
    (Op.eqItems (d + 1) 23 (Tryd.prog.cellsOf 23) xs ys is).run Tryd.prog w = .ok (is.all fun i => p i == q i) w
  | [], _ => by simp [Op.eqItems]
  | i :: is, h => by
    obtain ⟨h1, h2⟩ := h i (by simp)
    have ih := eqItems64 w d xs ys p q is (fun j hj => h j (by simp [hj]))
    rw [cells64] at ih ⊢
    have p1 := run_part_plain w (P := Tryd.prog) (e := 23) plain64 (off := i * 1) (by rw [Nat.mul_one]; exact h1)
    have p2 := run_part_plain w (P := Tryd.prog) (e := 23) plain64 (off := i * 1) (by rw [Nat.mul_one]; exact h2)
    have p3 := run_equalIn_int (P := Tryd.prog) w d 23 .u64 .u64 (p i) (q i) Tryd.underlying23
    simp only [Op.eqItems, Sem.run_bind, p1, p2, p3, Result.andThen_ok]
    cases e : (p i == q i)
    · simp [e]
    · simp only [Bool.not_true, Bool.false_eq_true, if_false, ih, List.all_cons, e, Bool.true_and]

/-- two pages with the same words -/
def sameP (p q : Nat → Int) : Bool := (List.range 512).all fun i => p i == q i

theorem sameP_yes {p q : Nat → Int} (h : sameP p q = true) : ∀ i, i < 512 → p i = q i := fun i hi => by
  have := List.all_eq_true.1 h i (List.mem_range.2 hi)
  simpa using this

theorem page_eql (w : World) (xs ys : Array Value) (p q : Nat → Int) (hx : ∀ i, i < 512 → xs[i]? = some (.int .u64 (p i))) (hy : ∀ i, i < 512 → ys[i]? = some (.int .u64 (q i))) :
    (binOp .eql 113 (.agg xs) (.agg ys)).run Tryd.prog w = .ok (.bool (sameP p q)) w := by
  obtain ⟨i0, hi⟩ := info_of_underlying Tryd.underlying23
  rw [run_eql_struct, run_equalIn_array w 9999 xs ys Tryd.underlying113 hi, eqItems64 w 9998 xs ys p q _ (fun i hi => ⟨hx i (List.mem_range.1 hi), hy i (List.mem_range.1 hi)⟩)]
  rfl

section
variable {P : Program} {C : World → Prop} {o : Oper} {a : Act} {K : Act → Prop}
theorem quiet_whole (ty : TypeId) (x : Operand) (ho : o.op = .load ty x) (p : Addr) (hx : a.eval x = .pointer (some p)) (v : Value) (hl : ∀ w, C w → (loadVar ty p).run P w = .ok v w) (hk : K (a.put o.dst v)) : o.quiet P a C K :=
  ⟨v, fun w hw => by
    unfold Oper.quietAt execOp
    simp only [ho, hx, Instr.loadAt, Instr.sureAddr, Sem.run_bind, Sem.run_pure, Result.andThen_ok, hl w hw]
    exact ⟨rfl, rfl⟩, hk⟩
theorem quiet_alike (t rt : TypeId) (x y : Operand) (ho : o.op = .binOp .eql t x y rt) (xs ys : Array Value) (hx : a.eval x = .agg xs) (hy : a.eval y = .agg ys) (hg : P.eqGuardType P.depth t = false) (r : Bool) (hl : ∀ w, (binOp .eql t (.agg xs) (.agg ys)).run P w = .ok (.bool r) w) (hk : K (a.put o.dst (.bool r))) : o.quiet P a C K :=
  ⟨.bool r, fun w hw => by
    unfold Oper.quietAt execOp
    simp only [ho, hx, hy, Sem.run_bind, run_eqGuard_agg w .eql t x y xs ys hg, Result.andThen_ok, hl w, Sem.run_pure]
    exact ⟨rfl, rfl⟩, hk⟩
end

end Go.Proofs.YtlpjbmlkpmhdlaaDoor
/- Where two memories differ: nothing of the program's walks. -/
namespace Go.Proofs.YtlpjbmlkpmhdlaaDoor
set_option linter.unusedVariables false
set_option linter.unusedSimpArgs false
open Go.RowKit

/-- the slot at x differs -/
def Dif (f g : Int → Int) (x : Int) : Prop := x % 8 = 0 ∧ f (x / 8) ≠ g (x / 8)

/-- ds is where f and g differ, below X -/
def DifTo (f g : Int → Int) (ds : List Int) (X : Int) : Prop := ds.Pairwise (· < ·) ∧ ∀ x, x ∈ ds ↔ (Dif f g x ∧ x < X)

/-- ds is where f and g differ -/
def IsDif (f g : Int → Int) (ds : List Int) : Prop := ds.Pairwise (· < ·) ∧ ∀ x, x ∈ ds ↔ Dif f g x

theorem DifTo.skip {f g : Int → Int} {ds : List Int} {X Y : Int} (h : DifTo f g ds X) (hXY : X ≤ Y) (hn : ∀ x, Dif f g x → X ≤ x → Y ≤ x) : DifTo f g ds Y :=
  ⟨h.1, fun x => by
    rw [h.2 x]
    constructor
    · rintro ⟨a, b⟩; exact ⟨a, by omega⟩
    · rintro ⟨a, b⟩
      refine ⟨a, ?_⟩
      by_cases c : x < X
      · exact c
      · have := hn x a (by omega); omega⟩

theorem DifTo.add {f g : Int → Int} {ds : List Int} {X : Int} (h : DifTo f g ds X) (hX : X % 8 = 0) (hd : f (X / 8) ≠ g (X / 8)) : DifTo f g (ds ++ [X]) (X + 8) := by
  refine ⟨List.pairwise_append.2 ⟨h.1, by simp, fun a ha b hb => ?_⟩, fun x => ?_⟩
  · simp at hb; subst hb
    exact ((h.2 a).1 ha).2
  · rw [List.mem_append, h.2 x]
    simp only [List.mem_singleton]
    constructor
    · rintro (⟨a, b⟩ | rfl)
      · exact ⟨a, by omega⟩
      · exact ⟨⟨hX, hd⟩, by omega⟩
    · rintro ⟨a, b⟩
      by_cases c : x < X
      · exact Or.inl ⟨a, c⟩
      · right; have := a.1; omega

theorem DifTo.pass {f g : Int → Int} {ds : List Int} {X : Int} (h : DifTo f g ds X) (hX : X % 8 = 0) (hd : f (X / 8) = g (X / 8)) : DifTo f g ds (X + 8) :=
  h.skip (by omega) fun x hx hle => by
    by_cases e : x = X
    · subst e; exact absurd hd hx.2
    · have := hx.1; omega

theorem rising_ext : ∀ (l l' : List Int), l.Pairwise (· < ·) → l'.Pairwise (· < ·) → (∀ x, x ∈ l ↔ x ∈ l') → l = l'
  | [], [], _, _, _ => rfl
  | [], b :: l', _, _, h => by have := (h b).2 (by simp); simp at this
  | a :: l, [], _, _, h => by have := (h a).1 (by simp); simp at this
  | a :: l, b :: l', h1, h2, h => by
    obtain ⟨a1, a2⟩ := List.pairwise_cons.1 h1
    obtain ⟨b1, b2⟩ := List.pairwise_cons.1 h2
    have e : a = b := by
      have ha := (h a).1 (by simp)
      have hb := (h b).2 (by simp)
      rcases List.mem_cons.1 ha with ha | ha
      · exact ha
      · rcases List.mem_cons.1 hb with hb | hb
        · exact hb.symm
        · have := b1 a ha; have := a1 b hb; omega
    subst e
    rw [rising_ext l l' a2 b2 fun x => ?_]
    constructor
    · intro hx
      rcases List.mem_cons.1 ((h x).1 (by simp [hx])) with e | e
      · subst e; have := a1 x hx; omega
      · exact e
    · intro hx
      rcases List.mem_cons.1 ((h x).2 (by simp [hx])) with e | e
      · subst e; have := b1 x hx; omega
      · exact e

theorem IsDif.same {f g : Int → Int} {ds ds' : List Int} (h : IsDif f g ds) (h' : IsDif f g ds') : ds = ds' := rising_ext _ _ h.1 h'.1 fun x => by rw [h.2, h'.2]
theorem Dif.comm {f g : Int → Int} {x : Int} : Dif f g x ↔ Dif g f x := ⟨fun h => ⟨h.1, fun e => h.2 e.symm⟩, fun h => ⟨h.1, fun e => h.2 e.symm⟩⟩
theorem IsDif.comm {f g : Int → Int} {ds : List Int} (h : IsDif f g ds) : IsDif g f ds := ⟨h.1, fun x => (h.2 x).trans Dif.comm⟩
theorem IsDif.none {f : Int → Int} {ds : List Int} (h : IsDif f f ds) : ds = [] := by
  cases ds with
  | nil => rfl
  | cons a l => exact absurd rfl ((h.2 a).1 (by simp)).2

/-- what is left when j pages have been looked at -/
structure Left (f g : Int → Int) (ps : List Int) (j : Nat) (ds : List Int) (X : Int) : Prop where
  dif : DifTo f g ds X
  rest : ∀ x, Dif f g x → X ≤ x → x / 4096 ∈ ps.drop j
  low : ∀ k ∈ ps.drop j, X ≤ k * 4096

theorem Left.start {f g : Int → Int} {ps : List Int} (h0 : ∀ k ∈ ps, 0 ≤ k) (h : ∀ x, Dif f g x → x / 4096 ∈ ps) : Left f g ps 0 [] 0 :=
  ⟨⟨List.Pairwise.nil, fun x => by
    simp only [List.not_mem_nil, false_iff]
    rintro ⟨a, b⟩
    have := h0 _ (h x a)
    omega⟩, fun x hx _ => h x hx, fun k hk => by have := h0 k hk; omega⟩

theorem Left.enter {f g : Int → Int} {ps : List Int} {j : Nat} {ds : List Int} {X k : Int} {r : List Int} (h : Left f g ps j ds X) (hr : ps.Pairwise (· < ·)) (hd : ps.drop j = k :: r) : DifTo f g ds (k * 4096) := by
  have hp : (ps.drop j).Pairwise (· < ·) := hr.sublist (List.drop_sublist _ _)
  rw [hd] at hp
  obtain ⟨p1, _⟩ := List.pairwise_cons.1 hp
  refine h.dif.skip (h.low k (by rw [hd]; simp)) fun x hx hle => ?_
  have := h.rest x hx hle
  rw [hd] at this
  rcases List.mem_cons.1 this with e | e
  · omega
  · have := p1 _ e; omega

theorem Left.leave {f g : Int → Int} {ps : List Int} {j : Nat} {ds ds' : List Int} {X k : Int} {r : List Int} (h : Left f g ps j ds X) (hr : ps.Pairwise (· < ·)) (hd : ps.drop j = k :: r) (hd' : DifTo f g ds' (k * 4096 + 4096)) : Left f g ps (j + 1) ds' (k * 4096 + 4096) := by
  have hp : (ps.drop j).Pairwise (· < ·) := hr.sublist (List.drop_sublist _ _)
  have hX := h.low k (by rw [hd]; simp)
  rw [hd] at hp
  obtain ⟨p1, _⟩ := List.pairwise_cons.1 hp
  have e1 : ps.drop (j + 1) = r := by rw [← List.drop_drop, hd]; rfl
  refine ⟨hd', fun x hx hle => ?_, fun k' hk' => ?_⟩
  · have := h.rest x hx (by omega)
    rw [hd] at this
    rcases List.mem_cons.1 this with e | e
    · omega
    · rw [e1]; exact e
  · rw [e1] at hk'
    have := p1 _ hk'
    omega

theorem Left.done {f g : Int → Int} {ps : List Int} {ds : List Int} {X : Int} (h : Left f g ps ps.length ds X) : IsDif f g ds := by
  refine ⟨h.dif.1, fun x => ?_⟩
  rw [h.dif.2 x]
  constructor
  · exact fun a => a.1
  · intro a
    refine ⟨a, ?_⟩
    by_cases c : x < X
    · exact c
    · have := h.rest x a (by omega)
      rw [List.drop_length] at this
      simp at this

theorem drop_at {ps : List Int} {j : Nat} (h : j < ps.length) : ∃ k r, ps.drop j = k :: r ∧ ps[j]? = some k ∧ k ∈ ps := by
  refine ⟨ps[j], ps.drop (j + 1), List.drop_eq_getElem_cons h, List.getElem?_eq_getElem h, List.getElem_mem h⟩

theorem nodup_len : ∀ (n : Nat) (l : List Int), l.Nodup → (∀ x ∈ l, 0 ≤ x ∧ x < n) → l.length ≤ n
  | 0, [], _, _ => Nat.le_refl _
  | 0, a :: l, _, h => by have := h a (by simp); omega
  | n + 1, l, hd, h => by
    by_cases hm : (n : Int) ∈ l
    · have h1 := nodup_len n (l.erase n) (hd.erase _) fun x hx => by
        have h2 := (List.Nodup.mem_erase_iff hd).1 hx
        have := h x h2.2
        have := h2.1
        omega
      have h3 := List.length_erase_of_mem hm
      omega
    · have h1 := nodup_len n l hd fun x hx => by
        have := h x hx
        have : x ≠ n := fun e => hm (e ▸ hx)
        omega
      omega

section
variable {w : World} {m : Nat} {M : Int} {f : Int → Int} {tr : List Int} {n mb : Nat} {v : Value} {D : Dw}

theorem Mm.key_of (h : Mm w m M f tr n mb v D) {x : Int} (hx : Maps.has D (.int .u64 x) = true) : 0 ≤ x ∧ x * 4096 < 2 ^ M.toNat := by
  obtain ⟨k, b, e, _, h0, h1⟩ := h.full _ hx
  simp at e
  subst e
  exact ⟨h0, h1⟩

theorem Mm.few_keys (h : Mm w m 16 f tr n mb v D) : ∀ ks, KeyList D ks → ks.length ≤ 16 := fun ks hk =>
  nodup_len 16 ks hk.1 fun x hx => by
    obtain ⟨h0, h1⟩ := h.key_of ((hk.2 x).1 hx)
    have : x * 4096 < 65536 := h1
    omega

/-- where no page is, all is 0 -/
theorem Mm.zero_of (h : Mm w m M f tr n mb v D) {s : Int} (hn : Maps.has D (.int .u64 (s / 512)) ≠ true) : f s = 0 := by
  rcases h.page (s / 512) with ⟨_, hz⟩ | ⟨b, hb, _⟩
  · have := hz (s % 512).toNat (by omega)
    rw [show s / 512 * 512 + ((s % 512).toNat : Int) = s by omega] at this
    exact this
  · have hf : Maps.has D (.int .u64 (s / 512)) = false := by simpa using hn
    have := Maps.atKey_of_not_has hf (.nil : Dw)
    unfold pageOf at hb
    rw [this] at hb
    cases hb
end

end Go.Proofs.YtlpjbmlkpmhdlaaDoor
