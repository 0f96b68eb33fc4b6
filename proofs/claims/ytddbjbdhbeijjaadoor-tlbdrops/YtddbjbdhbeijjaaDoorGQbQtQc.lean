/- Several texts of ours in one: Qb, Qt, Qc. -/
import Derived.Test.YtddbjbdhbeijjaaDoorGCjJeEr
import Derived.Test.YtddbjbdhbeijjaaDoorGEtNcQa
import Derived.Test.YtddbjbdhbeijjaaDoorGVaVrFr
import Derived.Test.YtddbjbdhbeijjaaDoorGVjTdEm
import Derived.Test.YtddbjbdhbeijjaaDoorGNbTpCb
import Derived.LaidSub
/- Package tlb: what it is in the world; contracts of all, keyOf, place; the document's Key, place. -/
namespace Go.Proofs.YtddbjbdhbeijjaaDoor
set_option linter.unusedVariables false
set_option linter.unusedSimpArgs false
open Go.ChangeShapes Go.WideShapes Go.ChangeAt Go.RowKit Go.Joins

/-- block q is translations of room R with the lines L; c: its cache, H: that one's blocks -/
structure TlbIs (w : World) (G : Nat → Prop) (q R : Nat) (L : List Pr) (c : Nat) (H : Nat → Prop) : Prop where
  here : Blk w q #[ptrV c] 68
  own : G q
  cac : Cac w H c R L
  foot : ∀ i, H i → G i ∧ i < w.heap.size ∧ i ≠ q
  ok : OkLs L
def tlbT (q R : Nat) (L : List Pr) : Thing := fun w G => ∃ c H, TlbIs w G q R L c H

section
variable {w w' : World} {G G' F : Nat → Prop} {q R : Nat} {L M : List Pr} {c : Nat} {H : Nat → Prop}
theorem firm_tlb (q R : Nat) (L : List Pr) : Firm (tlbT q R L) :=
  ⟨fun {w w' G} h hs he => by
    obtain ⟨c, H, h⟩ := h
    exact ⟨c, H, (he q h.here.lt h.own).trans h.here, h.own, (firm_cac _ _ _).same h.cac hs fun i hi hg => he i hi (h.foot i hg).1, fun i hi => ⟨(h.foot i hi).1, Nat.lt_of_lt_of_le (h.foot i hi).2.1 hs, (h.foot i hi).2.2⟩, h.ok⟩,
   fun {w G G'} h hG => by
    obtain ⟨c, H, h⟩ := h
    exact ⟨c, H, h.here, hG q h.here.lt h.own, h.cac, fun i hi => ⟨hG i (h.foot i hi).2.1 (h.foot i hi).1, (h.foot i hi).2⟩, h.ok⟩⟩
/-- a call turned its cache -/
theorem TlbIs.did (h : TlbIs w G q R L c H) (ho : OkLs M) (hm : Cac w' (Since H w) c R M) (ht : Turn H w w') :
    TlbIs w' (Since G w) q R M c (fun i => Since H w i ∧ i < w'.heap.size) ∧ Turn G w w' := by
  refine ⟨⟨h.here.turn ht fun hg => (h.foot q hg).2.2 rfl, Or.inl h.own, (firm_cac _ _ _).more hm fun i hi hg => ⟨hg, hi⟩, fun i hi => ⟨?_, hi.2, ?_⟩, ho⟩, ht.mono fun i _ hi => (h.foot i hi).1⟩
  · rcases hi.1 with h1 | h1
    · exact Or.inl (h.foot i h1).1
    · exact Or.inr h1
  · rcases hi.1 with h1 | h1
    · exact (h.foot i h1).2.2
    · have := h.here.lt; omega
theorem TlbIs.quiet (h : TlbIs w G q R L c H) (hb : Below w.heap.size w w') : TlbIs w' G q R L c H :=
  ⟨h.here.below hb, h.own, h.cac.kept hb, fun i hi => ⟨(h.foot i hi).1, Nat.lt_of_lt_of_le (h.foot i hi).2.1 hb.size, (h.foot i hi).2.2⟩, h.ok⟩
theorem tlbT.len (h : tlbT q R L w G) : L.length ≤ R ∧ R ≤ 64 := by
  obtain ⟨c, H, h⟩ := h
  exact ⟨h.cac.len, h.cac.room⟩
theorem tlbT.nodup (h : tlbT q R L w G) : (keysK L).Nodup := by obtain ⟨c, H, h⟩ := h; exact h.cac.nodup
theorem tlbT.ok (h : tlbT q R L w G) : OkLs L := by obtain ⟨c, H, h⟩ := h; exact h.ok

/-- both tables: va's shifts, group's bits -/
structure Tabs (w : World) : Prop where
  s : Shifts w
  p : PagesT w
structure Off (F : Nat → Prop) : Prop where
  s : ¬ F 1
  p : ¬ F 0
theorem off_no : Off (fun _ => False) := ⟨fun h => h, fun h => h⟩
theorem pages_turn (h : PagesT w) (ht : Turn F w w') (h0 : ¬ F 0) : PagesT w' := by
  have e := ht.block 0 (pages_lt h) h0
  have c : ∀ o v, w.cell? ⟨0, o, none⟩ = some v → w'.cell? ⟨0, o, none⟩ = some v := fun o v hv => (World.cell?_of_block (a := ⟨0, o, none⟩) e).trans hv
  obtain ⟨h0, h1, h2, h3, h4, h5, h6, h7⟩ := h
  exact ⟨c _ _ h0, c _ _ h1, c _ _ h2, c _ _ h3, c _ _ h4, c _ _ h5, c _ _ h6, c _ _ h7⟩
theorem Tabs.turn (h : Tabs w) (ht : Turn F w w') (ho : Off F) : Tabs w' := ⟨shifts_turn h.s ht ho.s, pages_turn h.p ht ho.p⟩
theorem Tabs.kept (h : Tabs w) (hb : Below w.heap.size w w') : Tabs w' := ⟨shifts_kept h.s hb, pages_below h.p hb⟩
end

section
variable {w wr w3 : World} {F G G' : Nat → Prop} {P P' : Thing} {os ns : List ObjT} {bs : List BoxD} {rs : List RowD} {k q R : Nat} {L : List Pr}
theorem Has.tabs (h : Has w wr F os bs rs) (ht : Tabs w) (ho : Off F) : Tabs wr := ht.turn h.turn ho
theorem Has.offs (h : Has w wr F os bs rs) (ht : Tabs w) (ho : Off F) (k : Nat) (hk : os[k]? = some ⟨P, G⟩) : Off G :=
  ⟨h.no0 ht.s ho.s k hk, fun hg => by
    rcases (h.foot k hk _ hg).2 with h1 | h1
    · exact ho.p h1
    · have := pages_lt ht.p; omega⟩

theorem allT_nil (w : World) : Calls Tryd.prog 41 #[.pointer none] w fun e w' => e = .returned (.pointer none) ∧ w = w' := by
  go_enter Tryd.func41, Tryd.ntmps41
  go_wp2
  go_ret
  exact ⟨rfl, rfl⟩
theorem allT_blk {c : Nat} (h : Blk w q #[ptrV c] 68) : Calls Tryd.prog 41 #[ptrV q] w fun e w' => e = .returned (ptrV c) ∧ w = w' := by
  have c0 := h.cell 0 rfl
  clear h
  go_enter Tryd.func41, Tryd.ntmps41
  go_wp2
  go_ret
  exact ⟨rfl, rfl⟩
/-- its cache: what all answers, and how a call of that one's leaves it -/
theorem Has.tlb (h : Has w wr F os bs rs) (k : Nat) (hk : os[k]? = some ⟨tlbT q R L, G⟩) :
    ∃ cc Hk, (∀ w1, Below wr.heap.size wr w1 → Calls Tryd.prog 41 #[ptrV q] w1 fun e w' => e = .returned (ptrV cc) ∧ w1 = w') ∧ OkLs L ∧
      ∀ w1, Below wr.heap.size wr w1 → Cac w1 Hk cc R L ∧ ∀ w2 M, OkLs M → Cac w2 (Since Hk w1) cc R M → Turn Hk w1 w2 → Has w w2 F (os.set k ⟨tlbT q R M, fun i => Since G w1 i ∧ i < w2.heap.size⟩) bs rs := by
  obtain ⟨c, Hc, hp⟩ := h.the k hk
  refine ⟨c, Hc, fun w1 hb => allT_blk (hp.quiet hb).here, hp.ok, fun w1 hb => ⟨(hp.quiet hb).cac, fun w2 M ho hc ht => ?_⟩⟩
  obtain ⟨h5, h6⟩ := (hp.quiet hb).did ho hc ht
  exact (h.quiet hb).did k hk (firm_tlb _ _ _) ⟨_, _, h5⟩ h6
end

theorem quo_pos {a n : Int} (h : W64 a) (hn : 0 < n) : IntKind.u64.wrap (a.tdiv n) = a / n := by
  have e1 : a.tdiv n = a / n := Int.tdiv_eq_ediv_of_nonneg h.1
  have h1 : 0 ≤ a / n := Int.ediv_nonneg h.1 (by omega)
  have h2 : a / n ≤ a := Int.ediv_le_self _ h.1
  rw [e1, IntKind.wrap_u64]
  exact Int.emod_eq_of_lt h1 (by have := h.2; omega)

abbrev keyV (k : Ky) : Value := .agg #[.int .i64 k.1, .int .i64 k.2.1, .int .u64 k.2.2]
section
variable (p a l : Int) (w : World)
set_option maxRecDepth 100000 in
theorem keyT_lit {s n : Int} (hs : Shifts w) (hS : sizeF l = s) (hl : (l = 2 ∧ s = 2097152) ∨ (l = 3 ∧ s = 1073741824)) (e : IntKind.u64.wrap (a.tdiv s) = n) :
    Calls Tryd.prog 44 #[.int .i64 p, .int .u64 a, .int .i64 l] w fun e w' => e = .returned (.agg #[.int .i64 p, .int .i64 l, .int .u64 n]) ∧ Below w.heap.size w w' := by
  have HS := Lib.hid hs
  have HZ := Lib.hid hS
  have H0 := Lib.hid ((Mine.start w).new (b := w.heap.size) rfl #[.int .i64 0, .int .i64 0, .int .u64 0] 88)
  clear hs hS
  rcases hl with ⟨rfl, rfl⟩ | ⟨rfl, rfl⟩
  all_goals
    go_enter Tryd.func44, Tryd.ntmps44
    go_upto_region 1 with fail
    generalize hw0 : w.alloc _ = w0
    have H1 := Lib.hid (H0.out.world hw0)
    clear hw0 H0
    obtain ⟨r0, r1, r2⟩ := (H1.out.at_ 0 rfl).c3
    have f0 := (H1.out.at_ 0 rfl).fz 0; have f1 := (H1.out.at_ 0 rfl).fz 1; have f2 := (H1.out.at_ 0 rfl).fz 2
    have hs1 := Lib.hid (shifts_kept HS.out H1.out.below)
    go_wp2_with (go_at_call 64; refine (size_any _ _ hs1.out).mono ?_; rw [HZ.out]; rintro e w' ⟨rfl, rfl⟩)
    refine bodyPost_ret (results_cell_row rfl _ _ w.heap.size _ _ _ _ rfl (setB3 (H1.out.at_ 0 rfl) _ _ _) Tryd.underlying88 rfl rfl) rfl ⟨rfl, (H1.out.put3 0 rfl rfl).below⟩
set_option maxRecDepth 100000 in
theorem keyT_one {n : Int} (hs : Shifts w) (e : IntKind.u64.wrap (a.tdiv 32768) = n) :
    Calls Tryd.prog 44 #[.int .i64 p, .int .u64 a, .int .i64 1] w fun e w' => e = .returned (.agg #[.int .i64 p, .int .i64 1, .int .u64 n]) ∧ Below w.heap.size w w' := by
  have HS := Lib.hid hs
  have HZ : Hid (sizeF 1 = 4096) := Lib.hid rfl
  have H0 := Lib.hid ((Mine.start w).new (b := w.heap.size) rfl #[.int .i64 0, .int .i64 0, .int .u64 0] 88)
  clear hs
  go_enter Tryd.func44, Tryd.ntmps44
  go_upto_region 1 with fail
  generalize hw0 : w.alloc _ = w0
  have H1 := Lib.hid (H0.out.world hw0)
  clear hw0 H0
  obtain ⟨r0, r1, r2⟩ := (H1.out.at_ 0 rfl).c3
  have f0 := (H1.out.at_ 0 rfl).fz 0; have f1 := (H1.out.at_ 0 rfl).fz 1; have f2 := (H1.out.at_ 0 rfl).fz 2
  have hs1 := Lib.hid (shifts_kept HS.out H1.out.below)
  go_wp2_with (go_at_call 64; refine (size_any _ _ hs1.out).mono ?_; rw [HZ.out]; rintro e w' ⟨rfl, rfl⟩)
  refine bodyPost_ret (results_cell_row rfl _ _ w.heap.size _ _ _ _ rfl (setB3 (H1.out.at_ 0 rfl) _ _ _) Tryd.underlying88 rfl rfl) rfl ⟨rfl, (H1.out.put3 0 rfl rfl).below⟩
theorem keyT_any (hs : Shifts w) (ha : W64 a) (h1 : 1 ≤ l) (h3 : l ≤ 3) :
    Calls Tryd.prog 44 #[.int .i64 p, .int .u64 a, .int .i64 l] w fun e w' => e = .returned (keyV (kyT p a l)) ∧ Below w.heap.size w w' := by
  have hl : l = 1 ∨ l = 2 ∨ l = 3 := by omega
  rcases hl with rfl | rfl | rfl
  · exact keyT_one p a w hs (quo_pos ha (by decide))
  · exact keyT_lit p a 2 w hs rfl (by decide) (quo_pos ha (by decide))
  · exact keyT_lit p a 3 w hs rfl (by decide) (quo_pos ha (by decide))
theorem placeT_any (hs : Shifts w) (ha : W64 a) :
    Calls Tryd.prog 67 #[.int .u64 a] w fun e w' => e = .returned (.int .i64 (plT a)) ∧ w = w' := by
  have HC := Lib.hid (index_any a 1 w hs ha)
  have hp := pl_bd a
  have e := pl_code a
  generalize plT a = z at *
  generalize indexF a 1 = j at *
  clear hs ha hp
  go_enter Tryd.func67, Tryd.ntmps67
  go_wp2_with (go_at_call 73; refine HC.out.mono ?_; rintro e w' ⟨rfl, rfl⟩)
  go_ret
  exact ⟨rfl, rfl⟩

set_option maxRecDepth 100000 in
theorem rkeyT_lit {s n : Int} (hS : sizeF l = s) (hl : (l = 2 ∧ s = 2097152) ∨ (l = 3 ∧ s = 1073741824)) (e : IntKind.u64.wrap (a.tdiv s) = n) :
    Calls Tryd.prog 38 #[.int .i64 p, .int .i64 l, .int .u64 a] w fun e w' => e = .returned (.agg #[.int .i64 p, .int .i64 l, .int .u64 n]) ∧ Below w.heap.size w w' := by
  have HZ := Lib.hid hS
  have H0 := Lib.hid ((Mine.start w).new (b := w.heap.size) rfl #[.int .i64 0, .int .i64 0, .int .u64 0] 80)
  clear hS
  rcases hl with ⟨rfl, rfl⟩ | ⟨rfl, rfl⟩
  all_goals
    go_enter Tryd.func38, Tryd.ntmps38
    go_upto_region 1 with fail
    generalize hw0 : w.alloc _ = w0
    have H1 := Lib.hid (H0.out.world hw0)
    clear hw0 H0
    obtain ⟨r0, r1, r2⟩ := (H1.out.at_ 0 rfl).c3
    have f0 := (H1.out.at_ 0 rfl).fz 0; have f1 := (H1.out.at_ 0 rfl).fz 1; have f2 := (H1.out.at_ 0 rfl).fz 2
    go_wp2_with (go_at_call 21; refine (rsize_any _ _).mono ?_; rw [HZ.out]; rintro e w' ⟨rfl, rfl⟩)
    refine bodyPost_ret (results_cell_row rfl _ _ w.heap.size _ _ _ _ rfl (setB3 (H1.out.at_ 0 rfl) _ _ _) Tryd.underlying80 rfl rfl) rfl ⟨rfl, (H1.out.put3 0 rfl rfl).below⟩
set_option maxRecDepth 100000 in
theorem rkeyT_one {n : Int} (e : IntKind.u64.wrap (a.tdiv 32768) = n) :
    Calls Tryd.prog 38 #[.int .i64 p, .int .i64 1, .int .u64 a] w fun e w' => e = .returned (.agg #[.int .i64 p, .int .i64 1, .int .u64 n]) ∧ Below w.heap.size w w' := by
  have HZ : Hid (sizeF 1 = 4096) := Lib.hid rfl
  have H0 := Lib.hid ((Mine.start w).new (b := w.heap.size) rfl #[.int .i64 0, .int .i64 0, .int .u64 0] 80)
  go_enter Tryd.func38, Tryd.ntmps38
  go_upto_region 1 with fail
  generalize hw0 : w.alloc _ = w0
  have H1 := Lib.hid (H0.out.world hw0)
  clear hw0 H0
  obtain ⟨r0, r1, r2⟩ := (H1.out.at_ 0 rfl).c3
  have f0 := (H1.out.at_ 0 rfl).fz 0; have f1 := (H1.out.at_ 0 rfl).fz 1; have f2 := (H1.out.at_ 0 rfl).fz 2
  go_wp2_with (go_at_call 21; refine (rsize_any _ _).mono ?_; rw [HZ.out]; rintro e w' ⟨rfl, rfl⟩)
  refine bodyPost_ret (results_cell_row rfl _ _ w.heap.size _ _ _ _ rfl (setB3 (H1.out.at_ 0 rfl) _ _ _) Tryd.underlying80 rfl rfl) rfl ⟨rfl, (H1.out.put3 0 rfl rfl).below⟩
theorem rkeyT_any (ha : W64 a) (h1 : 1 ≤ l) (h3 : l ≤ 3) :
    Calls Tryd.prog 38 #[.int .i64 p, .int .i64 l, .int .u64 a] w fun e w' => e = .returned (keyV (kyT p a l)) ∧ Below w.heap.size w w' := by
  have hl : l = 1 ∨ l = 2 ∨ l = 3 := by omega
  rcases hl with rfl | rfl | rfl
  · exact rkeyT_one p a w (quo_pos ha (by decide))
  · exact rkeyT_lit p a 2 w rfl (by decide) (quo_pos ha (by decide))
  · exact rkeyT_lit p a 3 w rfl (by decide) (quo_pos ha (by decide))
theorem rplaceT_any (ha : W64 a) :
    Calls Tryd.prog 40 #[.int .u64 a] w fun e w' => e = .returned (.int .i64 (plT a)) ∧ w = w' := by
  have HC := Lib.hid (rindex_any a 1 w ha)
  have hp := pl_bd a
  have e := pl_code a
  generalize plT a = z at *
  generalize indexF a 1 = j at *
  clear ha hp
  go_enter Tryd.func40, Tryd.ntmps40
  go_wp2_with (go_at_call 62; refine HC.out.mono ?_; rintro e w' ⟨rfl, rfl⟩)
  go_ret
  exact ⟨rfl, rfl⟩
end
end Go.Proofs.YtddbjbdhbeijjaaDoor
/- Layer 13: from the row's condition, which lists va's table of shifts and group's table of bits, to what the walks ask. -/
namespace Go.Proofs.YtddbjbdhbeijjaaDoor
set_option linter.unusedVariables false
set_option linter.unusedSimpArgs false
open Go.ChangeShapes Go.WideShapes Go.ChangeAt Go.RowKit Go.Joins

def laid13 : List (String × DataW Unit) := [("dormer/va.shifts", Rows.laid_dormer_va_shifts), ("dormer/group.pages", Rows.laid_dormer_group_pages)]

theorem met13 (os : Os) (args : Array Value) : laidMetH Tryd.prog laid13 ((World.doorLaid Tryd.prog 400 os).forCall (fun _ _ => 0) ⟨#[], args, []⟩).memory :=
  laidMetH_of_parts3 (fuel := 8) (laidMet_of_run' 8 (by kernel_rfl) (by kernel_rfl)) (by kernel_rfl) (by kernel_rfl)

theorem tabs13 {W : World} (h : laidMetH Tryd.prog laid13 W) : Tabs W := by
  rw [MakeChecks.laidMetH_plain _ _ _ (by kernel_rfl)] at h
  have h2 : laidMet Tryd.prog [("dormer/group.pages", Rows.laid_dormer_group_pages)] W := by
    have h3 := laidMet.filter (fun x => x.1 == "dormer/group.pages") h
    simpa [laid13] using h3
  have hT : Lib.TabIs Tryd.prog W "dormer/va.shifts" .i64 [12, 21, 30, 39] :=
    Lib.tabIs_of_head gShifts tShifts Tryd.underlying112 Tryd.underlying3 (by kernel_rfl) (by kernel_rfl) h
  have hP : Lib.TabIs Tryd.prog W "dormer/group.pages" .u8 [1, 2, 4, 8, 16, 32, 64, 128] :=
    Lib.tabIs_of_head gPages tPages Tryd.underlying107 Tryd.underlying5 (by kernel_rfl) (by kernel_rfl) h2
  exact ⟨⟨hT.cell gShifts 0 (by decide), hT.cell gShifts 1 (by decide), hT.cell gShifts 2 (by decide), hT.cell gShifts 3 (by decide)⟩,
    ⟨hP.cell gPages 0 (by decide), hP.cell gPages 1 (by decide), hP.cell gPages 2 (by decide), hP.cell gPages 3 (by decide), hP.cell gPages 4 (by decide), hP.cell gPages 5 (by decide), hP.cell gPages 6 (by decide), hP.cell gPages 7 (by decide)⟩⟩
end Go.Proofs.YtddbjbdhbeijjaaDoor
/- Package tlb: an object of it, or none, beside a call's boxes; what its cache's calls do to it; New. -/
namespace Go.Proofs.YtddbjbdhbeijjaaDoor
set_option linter.unusedVariables false
set_option linter.unusedSimpArgs false
open Go.ChangeShapes Go.WideShapes Go.ChangeAt Go.RowKit Go.Joins

/-- translations at q, or nil (which has no room, and no lines) -/
def TV (w : World) (F : Nat → Prop) (o : Option Nat) (R : Nat) (M : List Pr) (w1 : World) (bs : List BoxD) : Prop :=
  match o with
  | some q => ∃ G, Has w w1 F [⟨tlbT q R M, G⟩] bs []
  | none => R = 0 ∧ M = [] ∧ Has w w1 F [] bs []
abbrev adO (o : Option Nat) : Option Addr := o.map fun q => ⟨q, 0, none⟩
abbrev pvO (o : Option Nat) : Value := .pointer (adO o)

section
variable {w w1 w2 w3 : World} {F : Nat → Prop} {o : Option Nat} {R q : Nat} {M : List Pr} {bs : List BoxD}
theorem TV.start (h : tlbT q R M w F) : TV w F (some q) R M w [] := ⟨_, Has.start (firm_tlb q R M) h⟩
theorem TV.none (w : World) (F : Nat → Prop) : TV w F none 0 [] w [] := ⟨rfl, rfl, Has.start0 w F⟩
theorem TV.quiet (h : TV w F o R M w1 bs) (hb : Below w1.heap.size w1 w2) : TV w F o R M w2 bs := by
  cases o with
  | some q => obtain ⟨G, h⟩ := h; exact ⟨G, h.quiet hb⟩
  | none => exact ⟨h.1, h.2.1, h.2.2.quiet hb⟩
theorem TV.world (h : TV w F o R M w1 bs) (e : w1 = w2) : TV w F o R M w2 bs := e ▸ h
theorem TV.new (h : TV w F o R M w1 bs) {b : Nat} (hb : w1.heap.size = b) (cs : Array Value) (t : TypeId) : TV w F o R M (w1.alloc (.cells cs t)) (⟨b, cs, t⟩ :: bs) := by
  cases o with
  | some q => obtain ⟨G, h⟩ := h; exact ⟨G, h.new hb cs t⟩
  | none => exact ⟨h.1, h.2.1, h.2.2.new hb cs t⟩
theorem TV.at_ (h : TV w F o R M w1 bs) (k : Nat) {b : Nat} {cs : Array Value} {t : TypeId} (hk : bs[k]? = some ⟨b, cs, t⟩) : Blk w1 b cs t := by
  cases o with
  | some q => obtain ⟨G, h⟩ := h; exact h.at_ k hk
  | none => exact h.2.2.at_ k hk
theorem TV.put (h : TV w F o R M w1 bs) (k : Nat) {b : Nat} {cs cs' : Array Value} {t : TypeId} (hk : bs[k]? = some ⟨b, cs, t⟩) (ht : Turn (fun i => i = b) w1 w3) (hb : Blk w3 b cs' t) : TV w F o R M w3 (bs.set k ⟨b, cs', t⟩) := by
  cases o with
  | some q => obtain ⟨G, h⟩ := h; exact ⟨G, h.put k hk ht hb⟩
  | none => exact ⟨h.1, h.2.1, h.2.2.put k hk ht hb⟩
theorem TV.pick (h : TV w F o R M w1 bs) (l : List Nat) (hl : l.Nodup := by decide) : TV w F o R M w1 (l.filterMap fun i => bs[i]?) := by
  cases o with
  | some q => obtain ⟨G, h⟩ := h; exact ⟨G, h.pick l [] hl⟩
  | none => exact ⟨h.1, h.2.1, h.2.2.pick l [] hl⟩
theorem TV.drop (h : TV w F o R M w1 bs) : TV w F o R M w1 [] := h.pick []
theorem TV.tabs (h : TV w F o R M w1 bs) (ht : Tabs w) (hF : Off F) : Tabs w1 := by
  cases o with
  | some q => obtain ⟨G, h⟩ := h; exact h.tabs ht hF
  | none => exact h.2.2.tabs ht hF
theorem TV.ok (h : TV w F o R M w1 bs) : OkLs M := by
  cases o with
  | some q => obtain ⟨G, h⟩ := h; exact (h.the 0 rfl).ok
  | none => rw [h.2.1]; exact ok_nil
theorem TV.nodup (h : TV w F o R M w1 bs) : (keysK M).Nodup := by
  cases o with
  | some q => obtain ⟨G, h⟩ := h; exact (h.the 0 rfl).nodup
  | none => rw [h.2.1]; simp [keysK]
/-- what a contract says of the object -/
theorem TV.out (h : TV w F (some q) R M w1 bs) : tlbT q R M w1 (Since F w) ∧ Turn F w w1 := by obtain ⟨G, h⟩ := h; exact h.out 0 rfl
theorem TV.below (h : TV w (fun _ => False) Option.none R M w1 bs) : Below w.heap.size w w1 := h.2.2.below0

/-- the calls of the cache behind all's answer -/
structure CV (w : World) (F : Nat → Prop) (o : Option Nat) (R : Nat) (M : List Pr) (w2 : World) (bs : List BoxD) (cv : Option Addr) : Prop where
  get : ∀ k, OkK k → Calls Tryd.prog 65 #[.pointer cv, keyV k] w2 fun e w3 => e = .returned (.tuple #[lineV ((getK M k).getD zL), .bool (getK M k).isSome]) ∧ Below w2.heap.size w2 w3
  put : ∀ k l a, OkK k → OkL l → I64 a → Calls Tryd.prog 43 #[.pointer cv, keyV k, lineV l, .int .i64 a] w2 fun e w3 => e = .returned (.tuple #[]) ∧ TV w F o R (putK R M k l a) w3 bs
  drop : ∀ k, Calls Tryd.prog 48 #[.pointer cv, keyV k] w2 fun e w3 => e = .returned (.tuple #[]) ∧ TV w F o R (dropK M k) w3 bs
  dropOf : ∀ p, Calls Tryd.prog 50 #[.pointer cv, .int .i64 p] w2 fun e w3 => e = .returned (.tuple #[]) ∧ TV w F o R (ofK M p) w3 bs
  clear : Calls Tryd.prog 51 #[.pointer cv] w2 fun e w3 => e = .returned (.tuple #[]) ∧ TV w F o R [] w3 bs
  evict : ∀ a, I64 a → Calls Tryd.prog 52 #[.pointer cv, .int .i64 a] w2 fun e w3 => e = .returned (.tuple #[]) ∧ TV w F o R (evK M a) w3 bs
  keys : Calls Tryd.prog 42 #[.pointer cv] w2 fun e w3 => ∃ A d, e = .returned (.slice A M.length d) ∧ Below w2.heap.size w2 w3

theorem TV.cv (h : TV w F o R M w1 bs) :
    ∃ cv : Option Addr, (∀ w2, Below w1.heap.size w1 w2 → Calls Tryd.prog 41 #[pvO o] w2 fun e w' => e = .returned (.pointer cv) ∧ w2 = w') ∧
      ∀ w2, Below w1.heap.size w1 w2 → CV w F o R M w2 bs cv := by
  cases o with
  | none =>
    refine ⟨Option.none, fun w2 _ => allT_nil w2, fun w2 hb => ?_⟩
    obtain ⟨rfl, rfl, h⟩ := h
    have hh : ∀ w3, Below w2.heap.size w2 w3 → TV w F Option.none 0 [] w3 bs := fun w3 h3 => ⟨rfl, rfl, (h.quiet hb).quiet h3⟩
    refine ⟨fun k _ => ?_, fun k l a _ _ _ => ?_, fun k => ?_, fun p => ?_, ?_, fun a _ => ?_, ?_⟩
    · exact getC_nil _ _ _ w2
    · exact (putC_nil _ _ _ _ _ _ _ _ _ _ w2).mono fun e w3 ⟨he, hb⟩ => ⟨he, hh _ hb⟩
    · exact (dropC_nil _ _ _ w2).mono fun e w3 ⟨he, hb⟩ => ⟨he, hh _ hb⟩
    · exact (dropOfC_nil p w2).mono fun e w3 ⟨he, hb⟩ => ⟨he, hh _ (hb ▸ Below.refl _ _)⟩
    · exact (clearC_nil w2).mono fun e w3 ⟨he, hb⟩ => ⟨he, hh _ (hb ▸ Below.refl _ _)⟩
    · exact (evictC_nil a w2).mono fun e w3 ⟨he, hb⟩ => ⟨he, hh _ (hb ▸ Below.refl _ _)⟩
    · exact (keysC_nil w2).mono fun e w3 ⟨he, hb⟩ => ⟨Option.none, 0, he, hb ▸ Below.refl _ _⟩
  | some q =>
    obtain ⟨G, h⟩ := h
    obtain ⟨cc, Hk, ha, hok, hc⟩ := h.tlb 0 rfl
    refine ⟨some ⟨cc, 0, Option.none⟩, ha, fun w2 hb => ?_⟩
    obtain ⟨h1, h2⟩ := hc w2 hb
    refine ⟨fun k hk => ?_, fun k l a hk hl ha => ?_, fun k => ?_, fun p => ?_, ?_, fun a ha => ?_, ?_⟩
    · exact getC_any h1 k.1 k.2.1 k.2.2 _ _ _ _ _ _ hk rfl _ rfl
    · exact (putC_any h1 k.1 k.2.1 k.2.2 l.1 l.2.2.2.2.2 a l.2.1 l.2.2.1 l.2.2.2.1 l.2.2.2.2.1 hk ha).mono fun e w3 ⟨he, hm, ht⟩ => ⟨he, _, h2 w3 _ (ok_put hok k hl a) hm ht⟩
    · exact (dropC_any h1 k.1 k.2.1 k.2.2).mono fun e w3 ⟨he, hm, ht⟩ => ⟨he, _, h2 w3 _ (ok_drop hok k) hm ht⟩
    · exact (dropOfC_any h1 p).mono fun e w3 ⟨he, hm, ht⟩ => ⟨he, _, h2 w3 _ (ok_of hok p) hm ht⟩
    · exact (clearC_any h1).mono fun e w3 ⟨he, hm, ht⟩ => ⟨he, _, h2 w3 _ ok_nil hm ht⟩
    · exact (evictC_any h1 a ha).mono fun e w3 ⟨he, hm, ht⟩ => ⟨he, _, h2 w3 _ (ok_ev hok a) hm ht⟩
    · exact (keysC_any h1).mono fun e w3 ⟨A, d, he, _, hb⟩ => ⟨A, d, he, hb⟩
end

section
variable {w wr : World} {F G0 : Nat → Prop} {c q R : Nat}
theorem Has.tlbOf (h : Has w wr F [⟨cacT c R [], G0⟩] [⟨q, #[ptrV c], 68⟩] []) : Has w wr F [⟨tlbT q R [], fun i => i = q ∨ G0 i⟩] [] [] := by
  have hq := h.at_ 0 rfl
  have hno := h.no 0 rfl
  have hl := h.low _ (List.mem_singleton.2 rfl)
  have n0 : ¬ G0 q := fun hg => hno ⟨_, List.mem_cons_self .., hg⟩
  have f0 := h.foot 0 rfl
  have hft : ∀ i, (i = q ∨ G0 i) → i < wr.heap.size ∧ (F i ∨ w.heap.size ≤ i) := by
    rintro i (rfl | hi)
    · exact ⟨hq.lt, Or.inr hl⟩
    · exact f0 i hi
  refine ⟨fun o ho => ?_, by simp, Hold.nil _ _ (fun i ⟨o, ho, hi⟩ => ?_), by simp, h.turn⟩
  · obtain rfl := List.mem_singleton.1 ho
    exact ⟨firm_tlb _ _ _, ⟨c, G0, hq, Or.inl rfl, h.the 0 rfl, fun i hi => ⟨Or.inr hi, (f0 i hi).1, fun e => n0 (e ▸ hi)⟩, ok_nil⟩, hft⟩
  · obtain rfl := List.mem_singleton.1 ho
    exact (hft i hi).1
end

set_option maxRecDepth 100000 in
theorem newT_any (z : Int) (w : World) :
    Calls Tryd.prog 10 #[.int .i64 z] w fun e w' => ∃ q G, e = .returned (ptrV q) ∧ Has w w' (fun _ => False) [⟨tlbT q (roomF z) [], G⟩] [] [] := by
  have H0 := Lib.hid (Has.start0 w (fun _ => False))
  generalize hR : roomF z = R
  have HR := Lib.hid hR
  clear hR
  go_enter Tryd.func10, Tryd.ntmps10
  go_wp2_with (go_at_call 29; refine (newC_any z _).mono ?_; rw [HR.out]; rintro e w1 ⟨rfl, hc, hb⟩; have H1 := Lib.hid (H0.out.made (firm_cac _ _ _) hc hb); clear hc hb H0)
  go_ret
  exact ⟨w1.heap.size, _, rfl, (H1.out.new (b := w1.heap.size) rfl #[ptrV (w.heap.size + 1)] 68).tlbOf⟩
end Go.Proofs.YtddbjbdhbeijjaaDoor
