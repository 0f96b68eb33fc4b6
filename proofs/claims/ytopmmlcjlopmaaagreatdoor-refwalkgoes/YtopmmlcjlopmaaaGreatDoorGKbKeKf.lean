/- Several texts of ours in one: Kb, Ke, Kf. -/
import Derived.Test.YtopmmlcjlopmaaaGreatDoorGKaHmHn
import Derived.Test.YtopmmlcjlopmaaaGreatDoorGHpHqHu
import Derived.Test.YtopmmlcjlopmaaaGreatDoorGEsGsIe
import Derived.Test.YtopmmlcjlopmaaaGreatDoorGKcBxL8s
import Derived.Test.YtopmmlcjlopmaaaGreatDoorGHfHgGc
/- Layer 9: contract of refwalk.Translate. (Laid by tools/gen_kb.py.) -/
namespace Go.Proofs.YtopmmlcjlopmaaaGreatDoor
set_option linter.unusedVariables false
set_option linter.unusedSimpArgs false
open Go.ChangeShapes Go.WideShapes Go.ChangeAt Go.RowKit Go.Joins

theorem results_tct {P : Program} {fn : Func} {p q r : Tmp} {ty : TypeId} (h : fn.results = #[.tmp p, .cell q ty, .tmp r]) (tmps : Array Value) (w : World) (g : Nat) (t : TypeId) (cs : Array Value) (fr : Nat × Nat) (d : TypeDesc)
    (hq : tmps.getD q undef = .pointer (some ⟨g, 0, none⟩)) (hg : w.heap[g]? = some (.cells cs t fr))
    (hu : P.underlying ty = some d) (hd : (match d with | .struct _ | .array _ _ => true | _ => false) = true) (hi : (P.info? ty).map (·.size) = some cs.size) :
    (results fn tmps).run P w = .ok (.tuple #[tmps.getD p undef, .agg cs, tmps.getD r undef]) w := by
  have hq' : tmps[q]?.getD undef = .pointer (some ⟨g, 0, none⟩) := by simpa using hq
  simp [results, h, hq', asAddr, run_loadVar_row w g t ty cs fr d hg hu hd hi, Sem.run_bind, Result.andThen]

abbrev zeroPath : Array Value := pathCells (.slice none 0 0) (offP 0)

/-- Translate: the memory, the access's box, and the result's -/
structure Tra (w wr : World) (F : Nat → Prop) (m : Nat) (M : Int) (f : Int → Int) (T : List Int) (n : Nat) (u : Usx) (G : Nat → Prop) : Prop where
  wk : Wk w wr F m M f T n G
  use : Blk wr w.heap.size (useCells u) 29
  res : Blk wr (w.heap.size + 1) zeroPath 37
  n0 : ¬ G w.heap.size
  n1 : ¬ G (w.heap.size + 1)
  sh : Shifts wr
  z : ¬ F 1 ∧ 1 < w.heap.size

/-- a zero path's box, behind them -/
abbrev Trz (w wr : World) (zb : Nat) (G : Nat → Prop) : Prop := Blk wr zb zeroPath 37 ∧ ¬ G zb ∧ w.heap.size + 2 ≤ zb

/-- the walk's path is there, in no box yet -/
structure Trf (w wr : World) (F : Nat → Prop) (m : Nat) (M : Int) (f : Int → Int) (T : List Int) (n : Nat) (u : Usx) (G : Nat → Prop) (v : Value) (P : Pth) : Prop where
  tra : Tra w wr F m M f T n u G
  own : StepsOwn 99 wr (w.heap.size + 2) v P.steps
  nv : ∀ i, v.ownBlock = some i → ¬ G i

/-- the path lies in a box -/
structure Trp (w wr : World) (F : Nat → Prop) (m : Nat) (M : Int) (f : Int → Int) (T : List Int) (n : Nat) (u : Usx) (G : Nat → Prop) (pb : Nat) (v : Value) (P : Pth) : Prop where
  trf : Trf w wr F m M f T n u G v P
  pth : Blk wr pb (pathCells v P) 37
  np : ¬ G pb
  ge : w.heap.size + 2 ≤ pb

section
variable {w wr w3 w4 : World} {F G G' : Nat → Prop} {m : Nat} {M : Int} {f f' : Int → Int} {T T' : List Int} {n n' : Nat} {u : Usx} {pb zb : Nat} {v : Value} {P : Pth}
theorem tra_start (h : Mem w F m M f T n) (h0 : ¬ F 1) (hs : Shifts w) (u : Usx) : Tra w ((w.alloc (.cells (useCells u) 29)).alloc (.cells zeroPath 37)) F m M f T n u (fun i => F i ∧ i < w.heap.size) :=
  ⟨(Wk.start h).quiet (below2 w _ _), (Blk.new w _ _).alloc _, last_obj2 w _ _, fun h => by omega, fun h => by omega, shifts_under hs (below2 w _ _) (size_shifts hs), h0, size_shifts hs⟩
theorem Tra.gz (h : Tra w wr F m M f T n u G) : ¬ G 1 := fun hg => by
  rcases (h.wk.foot 1 hg).2 with h1 | h1
  · exact h.z.1 h1
  · have := h.z.2; omega
theorem Tra.quiet (h : Tra w wr F m M f T n u G) (hb : Below wr.heap.size wr w3) : Tra w w3 F m M f T n u G :=
  ⟨h.wk.quiet hb, h.use.below hb, h.res.below hb, h.n0, h.n1, shifts_under h.sh hb (size_shifts h.sh), h.z⟩
theorem Tra.step (h : Tra w wr F m M f T n u G) (k : Wk wr w4 G m M f' T' n' G') : Tra w w4 F m M f' T' n' u G' :=
  ⟨h.wk.join k, h.use.turn k.turn h.n0, h.res.turn k.turn h.n1, k.free h.n0 h.use.lt, k.free h.n1 h.res.lt, shifts_turn h.sh k.turn h.gz, h.z⟩
theorem Tra.set (h : Tra w wr F m M f T n u G) (ht : Turn (fun i => i = zb) wr w3) (nz : ¬ G zb) (gz : w.heap.size + 2 ≤ zb) : Tra w w3 F m M f T n u G :=
  ⟨h.wk.set ht nz (by omega), h.use.turn ht (by omega), h.res.turn ht (by omega), h.n0, h.n1, shifts_turn h.sh ht (by have := h.z.2; omega), h.z⟩
theorem Tra.zero (h : Tra w wr F m M f T n u G) : Trz w (wr.alloc (.cells zeroPath 37)) wr.heap.size G :=
  ⟨Blk.new _ _ _, fun hg => by have := (h.wk.foot _ hg).1; omega, h.res.lt⟩
theorem Trz.quiet (h : Trz w wr zb G) (hb : Below wr.heap.size wr w3) : Trz w w3 zb G := ⟨h.1.below hb, h.2⟩
theorem Trz.step (h : Trz w wr zb G) (k : Wk wr w4 G m M f' T' n' G') : Trz w w4 zb G' := ⟨h.1.turn k.turn h.2.1, k.free h.2.1 h.1.lt, h.2.2⟩
theorem Trf.mk' (h : Tra w wr F m M f T n u G) (k : Wk wr w4 G m M f' T' n' G') (hS : StepsOwn 99 w4 (wr.heap.size + 3) v P.steps) (hv : ∀ i, v.ownBlock = some i → ¬ G' i) : Trf w w4 F m M f' T' n' u G' v P :=
  ⟨h.step k, hS.down (by have := h.res.lt; omega), hv⟩
theorem Trf.quiet (h : Trf w wr F m M f T n u G v P) (hb : Below wr.heap.size wr w3) : Trf w w3 F m M f T n u G v P := ⟨h.tra.quiet hb, h.own.below hb, h.nv⟩
theorem Trf.step (h : Trf w wr F m M f T n u G v P) (k : Wk wr w4 G m M f' T' n' G') : Trf w w4 F m M f' T' n' u G' v P :=
  ⟨h.tra.step k, h.own.turn k.turn h.nv, fun i hi => k.free (h.nv i hi) (h.own.lt hi).2⟩
theorem Trf.new (h : Trf w wr F m M f T n u G v P) : Trp w (wr.alloc (.cells (pathCells v P) 37)) F m M f T n u G wr.heap.size v P :=
  ⟨h.quiet (below_alloc1 _ _), Blk.new _ _ _, fun hg => by have := (h.tra.wk.foot _ hg).1; omega, h.tra.res.lt⟩
/-- a box of a path is turned: no row of steps -/
theorem Trf.set (h : Trf w wr F m M f T n u G v P) (ht : Turn (fun i => i = zb) wr w3) (hz : Trz w wr zb G) (hb : Blk w3 zb (pathCells v P) 37) : Trp w w3 F m M f T n u G zb v P :=
  ⟨⟨h.tra.set ht hz.2.1 hz.2.2, h.own.turn ht (not_box h.own hz.1 (by decide)), h.nv⟩, hb, hz.2.1, hz.2.2⟩
theorem Trp.quiet (h : Trp w wr F m M f T n u G pb v P) (hb : Below wr.heap.size wr w3) : Trp w w3 F m M f T n u G pb v P := ⟨h.trf.quiet hb, h.pth.below hb, h.np, h.ge⟩
theorem Trp.step (h : Trp w wr F m M f T n u G pb v P) (k : Wk wr w4 G m M f' T' n' G') : Trp w w4 F m M f' T' n' u G' pb v P :=
  ⟨h.trf.step k, h.pth.turn k.turn h.np, k.free h.np h.pth.lt, h.ge⟩

/-- what is left when the result's box is turned -/
structure Tro (w wr : World) (F : Nat → Prop) (m : Nat) (M : Int) (f : Int → Int) (T : List Int) (n : Nat) (G : Nat → Prop) (v : Value) (P : Pth) : Prop where
  wk : Wk w wr F m M f T n G
  own : StepsOwn 99 wr w.heap.size v P.steps
  nv : ∀ i, v.ownBlock = some i → ¬ G i
  sh : Shifts wr
theorem Trf.out (h : Trf w wr F m M f T n u G v P) (ht : Turn (fun i => i = w.heap.size + 1) wr w3) : Tro w w3 F m M f T n G v P :=
  ⟨h.tra.wk.set ht h.tra.n1 (by omega), (h.own.turn ht (not_box h.own h.tra.res (by decide))).down (by omega), h.nv, shifts_turn h.tra.sh ht (by have := h.tra.z.2; omega)⟩
end

/-- a page fault by itself: another box is turned -/
theorem page0_turn {w w' : World} {b g : Nat} {a c : Int} {x : Value} {A : Option Addr} {L k : Nat} (h : PageIn w 0 111 (.pointer (some ⟨g, 0, none⟩)) a c) (hb : w.cell? ⟨b, 0, none⟩ = some (.slice A L k)) (ht : Turn (fun i => i = b) w w') : PageIn w' 0 111 (.pointer (some ⟨g, 0, none⟩)) a c := by
  obtain ⟨g', ⟨_, e⟩, _, c0, c1⟩ := h
  have eg : g = g' := by simpa using e
  subst eg
  have hne : ¬ g = b := fun e => by subst e; rw [hb] at c0; simp at c0
  have hB := ht.block g (lt_of_cell c0) hne
  exact ⟨g, ⟨rfl, rfl⟩, leads_page _ _, (World.cell?_of_block (a := ⟨g, 0, none⟩) hB).trans c0, (World.cell?_of_block (a := ⟨g, 1, none⟩) hB).trans c1⟩
theorem num1_turn {w w' : World} {b g : Nat} {k : Int} {j : Int} (h : NumIn w 1 165 (.pointer (some ⟨g, 0, none⟩)) k) (hb : w.cell? ⟨b, 1, none⟩ = some (.int .i64 j)) (ht : Turn (fun i => i = b) w w') : NumIn w' 1 165 (.pointer (some ⟨g, 0, none⟩)) k := by
  obtain ⟨⟨_, g', t', x', e, c1, hl, e1, e2⟩, _⟩ := h
  have eg : g = g' := by simpa using e
  subst eg
  subst e1 e2
  have hne : ¬ g = b := fun e => by subst e; rw [hb] at c1; simp at c1
  have c2 := (World.cell?_of_block (a := ⟨g, 1, none⟩) (ht.block g hl hne)).trans c1
  have hl2 := Nat.lt_of_lt_of_le hl ht.size
  exact ⟨⟨rfl, g, _, _, rfl, c2, hl2, rfl, rfl⟩, Or.inl ⟨rfl, g, _, _, rfl, c2, hl2, rfl, rfl⟩⟩

/-- what Translate answers of an address that is canonical -/
def TraAns (w : World) (F : Nat → Prop) (m : Nat) (M : Int) (f : Int → Int) (tr : List Int) (n : Nat) (P : Pth) (u : Usx) (a : Int) (e : Ending) (w' : World) : Prop :=
  ∃ v G, (jmay P u = true ∧ e = .returned (.tuple #[.int .u64 (jpa P a), .agg (pathCells v P), .nilIface]) ∧ Tro w w' F m M (markN M f P.steps (u.k == 2) P.steps.length) (tr ++ slotsP P.steps) (n + 5 + P.steps.length) G v P) ∨
    (jmay P u = false ∧ ∃ g : Nat, e = .returned (.tuple #[.int .u64 0, .agg (pathCells v P), .iface 111 (.pointer (some ⟨g, 0, none⟩))]) ∧ PageIn w' 0 111 (.pointer (some ⟨g, 0, none⟩)) a (jcode P u) ∧ Tro w w' F m M f (tr ++ slotsP P.steps) (n + 5) G v P)

theorem TraAns.yes {w w' : World} {F G : Nat → Prop} {m : Nat} {M : Int} {f : Int → Int} {tr : List Int} {n L : Nat} {P : Pth} {u : Usx} {a : Int} {v : Value} (hm : jmay P u = true) (hL : P.steps.length = L) {e : Ending} (he : e = .returned (.tuple #[.int .u64 (jpa P a), .agg (pathCells v P), .nilIface])) (ho : Tro w w' F m M (markN M f P.steps (u.k == 2) L) (tr ++ slotsP P.steps) (n + 5 + L) G v P) :
    TraAns w F m M f tr n P u a e w' := by
  subst hL; subst he; exact ⟨v, G, Or.inl ⟨hm, rfl, ho⟩⟩
theorem TraAns.no {w w' : World} {F G : Nat → Prop} {m : Nat} {M : Int} {f : Int → Int} {tr : List Int} {n g : Nat} {P : Pth} {u : Usx} {a : Int} {v : Value} (hm : jmay P u = false) (hg : PageIn w' 0 111 (.pointer (some ⟨g, 0, none⟩)) a (jcode P u)) {e : Ending} (he : e = .returned (.tuple #[.int .u64 0, .agg (pathCells v P), .iface 111 (.pointer (some ⟨g, 0, none⟩))])) (ho : Tro w w' F m M f (tr ++ slotsP P.steps) (n + 5) G v P) :
    TraAns w F m M f tr n P u a e w' := ⟨v, G, Or.inr ⟨hm, g, he, hg, ho⟩⟩

set_option maxRecDepth 100000 in
theorem trans_gp {w : World} (v : Value) (u : Usx) (a : Int) (ha : W64 a) (hc : canonF a = false) :
    Calls Tryz.prog 9 #[v, useV u, .int .u64 a] w fun e w' => ∃ g : Nat, e = .returned (.tuple #[.int .u64 0, .agg zeroPath, .iface 165 (.pointer (some ⟨g, 0, none⟩))]) ∧ NumIn w' 1 165 (.pointer (some ⟨g, 0, none⟩)) 5 ∧ Below w.heap.size w w' := by
  have CC := fun w' => canon_any a w' ha
  rw [hc] at CC
  have H0 : Hid (Blk ((w.alloc (.cells (useCells u) 29)).alloc (.cells zeroPath 37)) (w.heap.size + 1) zeroPath 37 ∧ Below w.heap.size w ((w.alloc (.cells (useCells u) 29)).alloc (.cells zeroPath 37))) := Lib.hid ⟨last_obj2 w _ _, below2 w _ _⟩
  clear ha hc
  go_enter Tryz.func9, Tryz.ntmps9
  go_upto_region 1 with fail
  generalize hw0 : (w.alloc _).alloc _ = w0
  have H1 : Hid (Blk w0 (w.heap.size + 1) zeroPath 37 ∧ Below w.heap.size w w0) := Lib.hid (by rw [← hw0]; exact H0.out)
  clear hw0 H0
  go_wp2_with (first | (go_at_call 27; refine (CC _).mono ?_; rintro e w' ⟨rfl, rfl⟩) | (go_at_call 28; refine (gp_num _ _).mono ?_; rintro e w1 ⟨g, rfl, hN1, hK1⟩; have H2 : Hid (Blk w1 (w.heap.size + 1) zeroPath 37 ∧ Below w.heap.size w w1) := Lib.hid ⟨H1.out.1.below hK1, H1.out.2.trans (Below.mono hK1 H1.out.2.size)⟩; have HN := Lib.hid hN1; clear hN1 hK1 H1; obtain ⟨p0, p1, p2, p3, p4, p5, p6⟩ := H2.out.1.seven; have q0 := H2.out.1.fz 0; have q1 := H2.out.1.fz 1; have q2 := H2.out.1.fz 2; have q3 := H2.out.1.fz 3; have q4 := H2.out.1.fz 4; have q5 := H2.out.1.fz 5; have q6 := H2.out.1.fz 6))
  exact bodyPost_ret (results_tct rfl _ _ (w.heap.size + 1) _ _ _ _ rfl (H2.out.1.set7 _ _ _ _ _ _ _) Tryz.underlying37 rfl rfl) rfl ⟨g, rfl, num1_turn HN.out p1 (turn7 _ _ _ _ _ _ _ _ _), turn_below H2.out.2 (turn7 _ _ _ _ _ _ _ _ _) (by omega) H2.out.2.size⟩

set_option maxRecDepth 100000 in
set_option maxHeartbeats 8000000 in
theorem trans_any {w : World} {F : Nat → Prop} {m : Nat} {M : Int} {f : Int → Int} {tr : List Int} {n : Nat} (h : Mem w F m M f tr n) (hn : n < 800000) (h0 : ¬ F 1) (hs : Shifts w) (u : Usx) (a : Int) (hr : W64 u.root) (ha : W64 a) (hc : canonF a = true)
    (P : Pth) (hP : walkZ M f a u.nxe 4 (tableF u.root) true true true = P) (hl : P.steps.length ≤ 4) (hw : ∀ k, k < P.steps.length → W64 (stepAt P.steps k).2.1) :
    Calls Tryz.prog 9 #[.pointer (some ⟨m, 0, none⟩), useV u, .int .u64 a] w (TraAns w F m M f tr n P u a) := by
  have CC := fun w' => canon_any a w' ha
  rw [hc] at CC
  have CT := fun w' => top_any u.root w' hr
  have CF : ∀ (w' : World) (G : Nat → Prop), Mem w' G m M f tr n → ¬ G 1 → Shifts w' → Calls Tryz.prog 29 #[.pointer (some ⟨m, 0, none⟩), placeV 4 (tableF u.root) true true true, .int .u64 a, .bool u.nxe] w' (FromAns w' G m M f tr (n + 5) P) := fun w' G hm hg hsh => by
    rw [← hP]; exact from_any hm (by omega) hg hsh 4 (tableF u.root) a true true true u.nxe (w64_table _) ha
  have H0 := Lib.hid (tra_start h h0 hs u)
  have HA := Lib.hid ha
  have HL := Lib.hid hl
  have HW := Lib.hid hw
  clear h h0 hs hr ha hc hP hl hw
  go_enter Tryz.func9, Tryz.ntmps9
  go_upto_region 1 with fail
  generalize hw0 : (w.alloc _).alloc _ = w0
  obtain ⟨G0, hG0⟩ : ∃ G0 : Nat → Prop, (fun i => F i ∧ i < w.heap.size) = G0 := ⟨_, rfl⟩
  have HT0 : Hid (Tra w w0 F m M f tr n u G0) := Lib.hid (by rw [← hw0, ← hG0]; exact H0.out)
  clear hw0 H0 hG0
  go_upto_region 3 with (first | (go_at_call 27; refine (CC _).mono ?_; rintro e w' ⟨rfl, rfl⟩))
  go_cut [9] from 17 (fun s9 wc => ∃ (pb : Nat) (v : Value) (G : Nat → Prop), s9 = .pointer (some ⟨pb, 0, none⟩) ∧ Hid (Trp w wc F m M f (tr ++ slotsP P.steps) (n + 5) u G pb v P))
  case first =>
    refine wp_region_held_drew (S := fun w' => Blk w' w.heap.size (useCells u) 29) (by kernel_rfl) HT0.out.use.drew (fun hHeld => ?_)
    have HTd := Lib.hid (HT0.out.quiet (Kept.drew0 w0))
    clear HT0
    generalize w0.drew = w1 at *
    have HT1 := HTd
    clear HTd
    refine anyH_take (i := 0) (v := ?_) rfl (by kernel_rfl) (by kernel_rfl) (by kernel_rfl) (fun _ _ _ h => h) (by rfl) (by assumption) ?_ ?_
    rotate_left
    · intro w hSw
      go_simp
      (try with_reducible rfl)
    (try simp only [Act.put, List.setIfInBounds_toArray, List.set_cons_zero, List.set_cons_succ])
    refine anyH_take (i := 1) (v := ?_) rfl (by kernel_rfl) (by kernel_rfl) (by kernel_rfl) (fun _ _ _ h => h) (by rfl) (by assumption) ?_ ?_
    rotate_left
    · intro w hSw
      go_simp
      (try with_reducible rfl)
    (try simp only [Act.put, List.setIfInBounds_toArray, List.set_cons_zero, List.set_cons_succ])
    refine anyH_take (i := 2) (v := ?_) rfl (by kernel_rfl) (by kernel_rfl) (by kernel_rfl) (fun _ _ _ h => h) (by rfl) (by assumption) ?_ ?_
    rotate_left
    · intro w hSw
      obtain ⟨q0, q1, q2, q3, q4, q5, q6, q7⟩ := hSw.eight
      go_simp
      (try with_reducible rfl)
    (try simp only [Act.put, List.setIfInBounds_toArray, List.set_cons_zero, List.set_cons_succ])
    refine anyH_take (i := 4) (v := ?_) rfl (by kernel_rfl) (by kernel_rfl) (by kernel_rfl) (fun _ _ _ h => h) (by rfl) (by assumption) ?_ ?_
    rotate_left
    · intro w hSw
      go_simp
      (try with_reducible rfl)
    (try simp only [Act.put, List.setIfInBounds_toArray, List.set_cons_zero, List.set_cons_succ])
    refine anyH_take (i := 5) (v := ?_) rfl (by kernel_rfl) (by kernel_rfl) (by kernel_rfl) (fun _ _ _ h => h) (by rfl) (by assumption) ?_ ?_
    rotate_left
    · intro w hSw
      go_simp
      (try with_reducible rfl)
    (try simp only [Act.put, List.setIfInBounds_toArray, List.set_cons_zero, List.set_cons_succ])
    refine anyH_take (i := 6) (v := ?_) rfl (by kernel_rfl) (by kernel_rfl) (by kernel_rfl) (fun _ _ _ h => h) (by rfl) (by assumption) ?_ ?_
    rotate_left
    · intro w hSw
      go_simp
      (try with_reducible rfl)
    (try simp only [Act.put, List.setIfInBounds_toArray, List.set_cons_zero, List.set_cons_succ])
    refine anyH_take (i := 7) (v := ?_) rfl (by kernel_rfl) (by kernel_rfl) (by kernel_rfl) (fun _ _ _ h => h) (by rfl) (by assumption) ?_ ?_
    rotate_left
    · intro w hSw
      obtain ⟨q0, q1, q2, q3, q4, q5, q6, q7⟩ := hSw.eight
      go_simp
      (try with_reducible rfl)
    (try simp only [Act.put, List.setIfInBounds_toArray, List.set_cons_zero, List.set_cons_succ])
    refine wpAnyH_ready (rs := [3, 9]) (by kernel_rfl) (by simp) ?_
    refine anyH_one rfl (fun K hK => ?_) ?_
    · go_simp
      refine (CT _).mono ?_
      rintro e w2 ⟨rfl, hB2⟩
      have HT2 := Lib.hid (HT1.out.quiet hB2)
      refine hK.out _ _ (hHeld.below hB2) (fun hHeld => ?_)
      clear hK K
      (try simp only [Act.put, List.setIfInBounds_toArray, List.set_cons_zero, List.set_cons_succ])
      clear hB2 HT1
      refine wpAnyH_ready (rs := [8, 9]) (by kernel_rfl) (by simp) ?_
      refine anyH_one rfl (fun K hK => ?_) ?_
      · go_simp
        refine (CF _ _ HT2.out.wk.mem HT2.out.gz HT2.out.sh).mono ?_
        rintro e w3 ⟨v, G, rfl, hW, hS, hn5, hsh⟩
        obtain ⟨A5, c5, rfl⟩ := hS.form
        have HP3 := Lib.hid (Trf.mk' HT2.out hW hS hn5)
        refine hK.out _ _ (hHeld.turn hW.turn HT2.out.n0) (fun hHeld => ?_)
        clear hK K
        (try simp only [Act.put, List.setIfInBounds_toArray, List.set_cons_zero, List.set_cons_succ])
        clear hW hS hn5 hsh HT2
        refine wpAnyH_ready (rs := [9]) (by kernel_rfl) (by simp) ?_
        refine anyH_one rfl (fun K hK => ?_) ?_
        · go_simp
          refine hK.out _ _ (hHeld.below (below_alloc1 _ _)) (fun hHeld => ?_)
          clear hK K
          (try simp only [Act.put, List.setIfInBounds_toArray, List.set_cons_zero, List.set_cons_succ])
          have HQ := Lib.hid (HP3.out.new)
          have HU := Lib.hid (show Blk (w3.alloc (.cells (pathCells (.slice none 0 0) (offP 0)) 37)) w.heap.size (useCells u) 29 from hHeld)
          refine wpAnyH_ready (rs := [10]) (by kernel_rfl) (by simp) ?_
          refine anyH_one rfl (fun K hK => ?_) ?_
          · go_simp
            refine hK.out _ _ (HQ.out.trf.tra.use) (fun hHeld => ?_)
            clear hK K
            (try simp only [Act.put, List.setIfInBounds_toArray, List.set_cons_zero, List.set_cons_succ])
            refine wpAnyH_done (by kernel_rfl) ?_ _
            go_wp2
            go_meet
            case rel => exact ⟨w3.heap.size, .slice A5 P.steps.length c5, _, rfl, HQ⟩
          exact AllReadyH.nil
        exact AllReadyH.nil
      refine anyH_one rfl (fun K hK => ?_) ?_
      · go_simp
        refine hK.out _ _ (hHeld.below (below_alloc1 _ _)) (fun hHeld => ?_)
        clear hK K
        (try simp only [Act.put, List.setIfInBounds_toArray, List.set_cons_zero, List.set_cons_succ])
        generalize hq3 : w2.alloc _ = w3 at hHeld ⊢
        have HT3 : Hid (Tra w w3 F m M f tr n u G0) := Lib.hid (by rw [← hq3]; exact HT2.out.quiet (below_alloc1 _ _))
        have HZ3 : Hid (Trz w w3 w2.heap.size G0) := Lib.hid (by rw [← hq3]; exact HT2.out.zero)
        clear hq3 HT2
        generalize w2.heap.size = zb at HZ3 ⊢
        refine wpAnyH_ready (rs := [8]) (by kernel_rfl) (by simp) ?_
        refine anyH_one rfl (fun K hK => ?_) ?_
        · go_simp
          refine (CF _ _ HT3.out.wk.mem HT3.out.gz HT3.out.sh).mono ?_
          rintro e w4 ⟨v, G, rfl, hW, hS, hn5, hsh⟩
          obtain ⟨A5, c5, rfl⟩ := hS.form
          have HP4 := Lib.hid (Trf.mk' HT3.out hW hS hn5)
          have HZ4 := Lib.hid (Trz.step HZ3.out hW)
          refine hK.out _ _ (hHeld.turn hW.turn HT3.out.n0) (fun hHeld => ?_)
          clear hK K
          (try simp only [Act.put, List.setIfInBounds_toArray, List.set_cons_zero, List.set_cons_succ])
          clear hW hS hn5 hsh HT3
          clear HZ3
          obtain ⟨z0, z1, z2, z3, z4, z5, z6⟩ := HZ4.out.1.seven
          have y0 := HZ4.out.1.fz 0; have y1 := HZ4.out.1.fz 1; have y2 := HZ4.out.1.fz 2; have y3 := HZ4.out.1.fz 3; have y4 := HZ4.out.1.fz 4; have y5 := HZ4.out.1.fz 5; have y6 := HZ4.out.1.fz 6
          refine wpAnyH_ready (rs := [10]) (by kernel_rfl) (by simp) ?_
          refine anyH_one rfl (fun K hK => ?_) ?_
          · go_simp
            refine hK.out _ _ (hHeld.turn (turn7 _ _ _ _ _ _ _ _ _) (fun e => by have := HZ4.out.2.2; omega)) (fun hHeld => ?_)
            clear hK K
            (try simp only [Act.put, List.setIfInBounds_toArray, List.set_cons_zero, List.set_cons_succ])
            refine wpAnyH_done (by kernel_rfl) ?_ _
            have HQ := Lib.hid (HP4.out.set (turn7 w4 zb (.slice A5 P.steps.length c5) (.int .i64 P.why) (.bool P.W) (.bool P.U) (.bool P.X) (.int .i64 P.lev) (.int .u64 P.fr)) HZ4.out (HZ4.out.1.set7 _ _ _ _ _ _ _))
            go_wp2
            go_meet
            case rel => exact ⟨zb, .slice A5 P.steps.length c5, _, rfl, HQ⟩
          exact AllReadyH.nil
        exact AllReadyH.nil
      exact AllReadyH.nil
    refine anyH_one rfl (fun K hK => ?_) ?_
    · go_simp
      refine hK.out _ _ (hHeld.below (below_alloc1 _ _)) (fun hHeld => ?_)
      clear hK K
      (try simp only [Act.put, List.setIfInBounds_toArray, List.set_cons_zero, List.set_cons_succ])
      generalize hq2 : w1.alloc _ = w2 at hHeld ⊢
      have HT2 : Hid (Tra w w2 F m M f tr n u G0) := Lib.hid (by rw [← hq2]; exact HT1.out.quiet (below_alloc1 _ _))
      have HZ2 : Hid (Trz w w2 w1.heap.size G0) := Lib.hid (by rw [← hq2]; exact HT1.out.zero)
      clear hq2 HT1
      generalize w1.heap.size = zb at HZ2 ⊢
      refine wpAnyH_ready (rs := [3]) (by kernel_rfl) (by simp) ?_
      refine anyH_one rfl (fun K hK => ?_) ?_
      · go_simp
        refine (CT _).mono ?_
        rintro e w3 ⟨rfl, hB3⟩
        have HT3 := Lib.hid (HT2.out.quiet hB3)
        have HZ3 := Lib.hid (Trz.quiet HZ2.out hB3)
        refine hK.out _ _ (hHeld.below hB3) (fun hHeld => ?_)
        clear hK K
        (try simp only [Act.put, List.setIfInBounds_toArray, List.set_cons_zero, List.set_cons_succ])
        clear hB3 HT2
        clear HZ2
        refine wpAnyH_ready (rs := [8]) (by kernel_rfl) (by simp) ?_
        refine anyH_one rfl (fun K hK => ?_) ?_
        · go_simp
          refine (CF _ _ HT3.out.wk.mem HT3.out.gz HT3.out.sh).mono ?_
          rintro e w4 ⟨v, G, rfl, hW, hS, hn5, hsh⟩
          obtain ⟨A5, c5, rfl⟩ := hS.form
          have HP4 := Lib.hid (Trf.mk' HT3.out hW hS hn5)
          have HZ4 := Lib.hid (Trz.step HZ3.out hW)
          refine hK.out _ _ (hHeld.turn hW.turn HT3.out.n0) (fun hHeld => ?_)
          clear hK K
          (try simp only [Act.put, List.setIfInBounds_toArray, List.set_cons_zero, List.set_cons_succ])
          clear hW hS hn5 hsh HT3
          clear HZ3
          obtain ⟨z0, z1, z2, z3, z4, z5, z6⟩ := HZ4.out.1.seven
          have y0 := HZ4.out.1.fz 0; have y1 := HZ4.out.1.fz 1; have y2 := HZ4.out.1.fz 2; have y3 := HZ4.out.1.fz 3; have y4 := HZ4.out.1.fz 4; have y5 := HZ4.out.1.fz 5; have y6 := HZ4.out.1.fz 6
          refine wpAnyH_ready (rs := [10]) (by kernel_rfl) (by simp) ?_
          refine anyH_one rfl (fun K hK => ?_) ?_
          · go_simp
            refine hK.out _ _ (hHeld.turn (turn7 _ _ _ _ _ _ _ _ _) (fun e => by have := HZ4.out.2.2; omega)) (fun hHeld => ?_)
            clear hK K
            (try simp only [Act.put, List.setIfInBounds_toArray, List.set_cons_zero, List.set_cons_succ])
            refine wpAnyH_done (by kernel_rfl) ?_ _
            have HQ := Lib.hid (HP4.out.set (turn7 w4 zb (.slice A5 P.steps.length c5) (.int .i64 P.why) (.bool P.W) (.bool P.U) (.bool P.X) (.int .i64 P.lev) (.int .u64 P.fr)) HZ4.out (HZ4.out.1.set7 _ _ _ _ _ _ _))
            go_wp2
            go_meet
            case rel => exact ⟨zb, .slice A5 P.steps.length c5, _, rfl, HQ⟩
          exact AllReadyH.nil
        exact AllReadyH.nil
      exact AllReadyH.nil
    exact AllReadyH.nil
  case rest =>
    obtain ⟨pb, v, G, rfl, HP⟩ := hcut
    obtain ⟨A, c, rfl⟩ := HP.out.trf.own.form
    clear CT CF HT0
    obtain ⟨L, hL⟩ : ∃ L, P.steps.length = L := ⟨_, rfl⟩
    have HLL := Lib.hid hL
    rw [hL] at HP HL HW
    have hl4 : L ≤ 4 := HL.out
    clear hL
    obtain ⟨p0, p1, p2, p3, p4, p5, p6⟩ := HP.out.pth.seven
    obtain ⟨q0, q1, q2, q3, q4, q5, q6, q7⟩ := HP.out.trf.tra.use.eight
    cases hm : jmay P u
    · have CJ := fun w' => judge_no (.slice A L c) P u a w' hm
      go_upto_region 6 with (first | (go_at_call 31; refine (CJ _).mono ?_; rintro e w2 ⟨g, rfl, hP2, hB2⟩; have HP2 := Lib.hid (HP.out.quiet hB2); have HG2 := Lib.hid hP2; clear hP2 hB2 HP p0 p1 p2 p3 p4 p5 p6 q0 q1 q2 q3 q4 q5 q6 q7))
      refine wp_region_held_drew (S := fun w' => Blk w' pb (pathCells (.slice A L c) P) 37) (by kernel_rfl) HP2.out.pth.drew (fun hHeld => ?_)
      have HPd := Lib.hid (HP2.out.quiet (Kept.drew0 w2))
      have HGd := Lib.hid (page_keep HG2.out (Kept.drew0 w2))
      clear HP2 HG2
      generalize w2.drew = w3 at *
      refine anyH_take (i := 0) (v := ?_) rfl (by kernel_rfl) (by kernel_rfl) (by kernel_rfl) (fun _ _ _ h => h) (by rfl) (by assumption) ?_ ?_
      rotate_left
      · intro w hSw
        obtain ⟨b0, b1, b2, b3, b4, b5, b6⟩ := hSw.seven
        go_simp
        (try with_reducible rfl)
      (try simp only [Act.put, List.setIfInBounds_toArray, List.set_cons_zero, List.set_cons_succ])
      refine anyH_take (i := 1) (v := ?_) rfl (by kernel_rfl) (by kernel_rfl) (by kernel_rfl) (fun _ _ _ h => h) (by rfl) (by assumption) ?_ ?_
      rotate_left
      · intro w hSw
        go_simp
        (try with_reducible rfl)
      (try simp only [Act.put, List.setIfInBounds_toArray, List.set_cons_zero, List.set_cons_succ])
      refine anyH_take (i := 2) (v := ?_) rfl (by kernel_rfl) (by kernel_rfl) (by kernel_rfl) (fun _ _ _ h => h) (by rfl) (by assumption) ?_ ?_
      rotate_left
      · intro w hSw
        go_simp
        (try with_reducible rfl)
      (try simp only [Act.put, List.setIfInBounds_toArray, List.set_cons_zero, List.set_cons_succ])
      obtain ⟨r0, r1, r2, r3, r4, r5, r6⟩ := HPd.out.trf.tra.res.seven
      have s0 := HPd.out.trf.tra.res.fz 0; have s1 := HPd.out.trf.tra.res.fz 1; have s2 := HPd.out.trf.tra.res.fz 2; have s3 := HPd.out.trf.tra.res.fz 3; have s4 := HPd.out.trf.tra.res.fz 4; have s5 := HPd.out.trf.tra.res.fz 5; have s6 := HPd.out.trf.tra.res.fz 6
      refine wpAnyH_ready (rs := [3]) (by kernel_rfl) (by simp) ?_
      refine anyH_one rfl (fun K hK => ?_) ?_
      · go_simp
        refine hK.out _ _ (hHeld.turn (turn7 _ _ _ _ _ _ _ _ _) (fun e => by have := HPd.out.ge; omega)) (fun hHeld => ?_)
        clear hK K
        (try simp only [Act.put, List.setIfInBounds_toArray, List.set_cons_zero, List.set_cons_succ])
        refine anyH_take (i := 4) (v := ?_) rfl (by kernel_rfl) (by kernel_rfl) (by kernel_rfl) (fun _ _ _ h => h) (by rfl) (by assumption) ?_ ?_
        rotate_left
        · intro w hSw
          go_simp
          (try with_reducible rfl)
        (try simp only [Act.put, List.setIfInBounds_toArray, List.set_cons_zero, List.set_cons_succ])
        refine wpAnyH_done (by kernel_rfl) ?_ _
        clear r0 r1 r2 r3 r4 r5 r6 s0 s1 s2 s3 s4 s5 s6 hHeld
        go_wp2
        refine bodyPost_ret (results_tct rfl _ _ (w.heap.size + 1) _ _ _ _ rfl (HPd.out.trf.tra.res.set7 _ _ _ _ _ _ _) Tryz.underlying37 rfl rfl) rfl ?_
        exact TraAns.no hm (page0_turn (x := .nilIface) HGd.out HPd.out.trf.tra.res.seven.1 (turn7 _ _ _ _ _ _ _ _ _)) rfl (HPd.out.trf.out (turn7 _ _ _ _ _ _ _ _ _))
      exact AllReadyH.nil
    · have HY := Lib.hid (jmay_yes hm).1
      have CJ := fun w' => judge_yes (.slice A L c) P u a w'
      go_upto_region 7 with (first | (go_at_call 31; refine (CJ _ HP.out.trf.tra.sh HA.out hm).mono ?_; rintro e w2 ⟨rfl, hB2⟩; have HP2 := Lib.hid (HP.out.quiet hB2); clear hB2 HP CJ p0 p1 p2 p3 p4 p5 p6 q0 q1 q2 q3 q4 q5 q6 q7))
      obtain ⟨p0, p1, p2, p3, p4, p5, p6⟩ := HP2.out.pth.seven
      obtain ⟨q0, q1, q2, q3, q4, q5, q6, q7⟩ := HP2.out.trf.tra.use.eight
      have CM := mark_any HP2.out.trf.tra.wk.mem A L c P.steps HLL.out (HP2.out.trf.own.down (Nat.zero_le _)) HP2.out.trf.nv (by omega) (by omega) HW.out P.why P.W P.U P.X P.lev P.fr (u.k == 2)
      rw [show ((u.k == 2) && decide (P.why = 0)) = (u.k == 2) by rw [HY.out]; simp] at CM
      go_upto_region 8 with (first | (go_at_call 23; refine CM.mono ?_; rintro e w3 ⟨rfl, G3, hW3⟩; have HP3 := Lib.hid (HP2.out.step hW3); clear hW3 HP2 CM p0 p1 p2 p3 p4 p5 p6 q0 q1 q2 q3 q4 q5 q6 q7))
      refine wp_region_held_drew (S := fun w' => Blk w' pb (pathCells (.slice A L c) P) 37) (by kernel_rfl) HP3.out.pth.drew (fun hHeld => ?_)
      have HPd := Lib.hid (HP3.out.quiet (Kept.drew0 w3))
      clear HP3
      generalize w3.drew = w4 at *
      refine anyH_take (i := 0) (v := ?_) rfl (by kernel_rfl) (by kernel_rfl) (by kernel_rfl) (fun _ _ _ h => h) (by rfl) (by assumption) ?_ ?_
      rotate_left
      · intro w hSw
        go_simp
        (try with_reducible rfl)
      (try simp only [Act.put, List.setIfInBounds_toArray, List.set_cons_zero, List.set_cons_succ])
      refine anyH_take (i := 1) (v := ?_) rfl (by kernel_rfl) (by kernel_rfl) (by kernel_rfl) (fun _ _ _ h => h) (by rfl) (by assumption) ?_ ?_
      rotate_left
      · intro w hSw
        obtain ⟨b0, b1, b2, b3, b4, b5, b6⟩ := hSw.seven
        go_simp
        (try with_reducible rfl)
      (try simp only [Act.put, List.setIfInBounds_toArray, List.set_cons_zero, List.set_cons_succ])
      refine anyH_take (i := 2) (v := ?_) rfl (by kernel_rfl) (by kernel_rfl) (by kernel_rfl) (fun _ _ _ h => h) (by rfl) (by assumption) ?_ ?_
      rotate_left
      · intro w hSw
        go_simp
        (try with_reducible rfl)
      (try simp only [Act.put, List.setIfInBounds_toArray, List.set_cons_zero, List.set_cons_succ])
      obtain ⟨r0, r1, r2, r3, r4, r5, r6⟩ := HPd.out.trf.tra.res.seven
      have s0 := HPd.out.trf.tra.res.fz 0; have s1 := HPd.out.trf.tra.res.fz 1; have s2 := HPd.out.trf.tra.res.fz 2; have s3 := HPd.out.trf.tra.res.fz 3; have s4 := HPd.out.trf.tra.res.fz 4; have s5 := HPd.out.trf.tra.res.fz 5; have s6 := HPd.out.trf.tra.res.fz 6
      refine wpAnyH_ready (rs := [3]) (by kernel_rfl) (by simp) ?_
      refine anyH_one rfl (fun K hK => ?_) ?_
      · go_simp
        refine hK.out _ _ (hHeld.turn (turn7 _ _ _ _ _ _ _ _ _) (fun e => by have := HPd.out.ge; omega)) (fun hHeld => ?_)
        clear hK K
        (try simp only [Act.put, List.setIfInBounds_toArray, List.set_cons_zero, List.set_cons_succ])
        refine anyH_take (i := 4) (v := ?_) rfl (by kernel_rfl) (by kernel_rfl) (by kernel_rfl) (fun _ _ _ h => h) (by rfl) (by assumption) ?_ ?_
        rotate_left
        · intro w hSw
          go_simp
          (try with_reducible rfl)
        (try simp only [Act.put, List.setIfInBounds_toArray, List.set_cons_zero, List.set_cons_succ])
        refine wpAnyH_done (by kernel_rfl) ?_ _
        clear r0 r1 r2 r3 r4 r5 r6 s0 s1 s2 s3 s4 s5 s6 hHeld
        go_wp2
        refine bodyPost_ret (results_tct rfl _ _ (w.heap.size + 1) _ _ _ _ rfl (HPd.out.trf.tra.res.set7 _ _ _ _ _ _ _) Tryz.underlying37 rfl rfl) rfl ?_
        exact TraAns.yes hm HLL.out rfl (HPd.out.trf.out (turn7 _ _ _ _ _ _ _ _ _))
      exact AllReadyH.nil
end Go.Proofs.YtopmmlcjlopmaaaGreatDoor
/- Layer 9: answer: an address, or a fault, as the document has it. -/
namespace Go.Proofs.YtopmmlcjlopmaaaGreatDoor
set_option linter.unusedVariables false
set_option linter.unusedSimpArgs false
open Go.ChangeShapes Go.WideShapes Go.ChangeAt Go.RowKit Go.Joins

theorem Blk.two {w : World} {b : Nat} {t : TypeId} {x0 x1 : Value} (h : Blk w b #[x0, x1] t) : w.cell? ⟨b, 0, none⟩ = some x0 ∧ w.cell? ⟨b, 1, none⟩ = some x1 := by
  unfold Blk at h; simp [World.cell?, h]

/-- the answer's box, and what was there -/
structure Asw (w wr : World) : Prop where
  res : Blk wr w.heap.size (ansCells ans0) 47
  below : Below w.heap.size w wr
theorem Asw.start (w : World) : Asw w (w.alloc (.cells (ansCells ans0) 47)) := ⟨Blk.new _ _ _, below_alloc1 _ _⟩
theorem Asw.quiet {w wr w3 : World} (h : Asw w wr) (hb : Below wr.heap.size wr w3) : Asw w w3 := ⟨h.res.below hb, h.below.trans (hb.mono h.below.size)⟩
theorem Asw.done {w wr : World} (h : Asw w wr) (y0 y1 y2 y3 : Value) : Below w.heap.size w ((((wr.setCell ⟨w.heap.size, 0, none⟩ y0).setCell ⟨w.heap.size, 1, none⟩ y1).setCell ⟨w.heap.size, 2, none⟩ y2).setCell ⟨w.heap.size, 3, none⟩ y3) :=
  turn_below h.below (turn4 _ _ _ _ _ _) (Nat.le_refl _) h.below.size

set_option maxRecDepth 100000 in
theorem answer_nil (a : Int) (w : World) :
    Calls Tryz.prog 12 #[.int .u64 a, .nilIface] w fun e w' => e = .returned (.agg (ansCells ⟨a, 0, 0, 0⟩)) ∧ Below w.heap.size w w' := by
  have H0 := Lib.hid (Asw.start w)
  go_enter Tryz.func12, Tryz.ntmps12
  go_upto_region 1 with fail
  generalize hw0 : w.alloc _ = w0
  have H3 : Hid (Asw w w0) := Lib.hid (by rw [← hw0]; exact H0.out)
  clear hw0 H0
  obtain ⟨z0, z1, z2, z3⟩ := H3.out.res.four
  have f0 := H3.out.res.fz 0
  have f1 := H3.out.res.fz 1
  have f2 := H3.out.res.fz 2
  have f3 := H3.out.res.fz 3
  go_wp2
  exact bodyPost_ret (results_cell_row rfl _ _ w.heap.size _ _ _ _ rfl (H3.out.res.set4 _ _ _ _) Tryz.underlying47 rfl rfl) rfl ⟨rfl, H3.out.done _ _ _ _⟩

set_option maxRecDepth 100000 in
set_option maxHeartbeats 1600000 in
theorem answer_page (a : Int) (n : Nat) (t : TypeId) (x : Value) (addr code : Int) (w : World) (hg : ErrT w) (h : PageIn w n t x addr code) :
    Calls Tryz.prog 12 #[.int .u64 a, .iface t x] w fun e w' => e = .returned (.agg (ansCells ⟨a, 4, addr, code⟩)) ∧ Below w.heap.size w w' := by
  have H0 := Lib.hid (Asw.start w)
  have HG := Lib.hid hg
  have HP := Lib.hid h
  clear hg h
  go_enter Tryz.func12, Tryz.ntmps12
  go_upto_region 1 with fail
  generalize hw0 : w.alloc _ = w0
  have H1 : Hid (Asw w w0) := Lib.hid (by rw [← hw0]; exact H0.out)
  clear hw0 H0
  go_upto_region 4 with (first | (go_at_call 18; refine (of_pageIn n t x addr code _ (errT_keep HG.out H1.out.below) (page_keep HP.out H1.out.below)).mono ?_; rintro e w1 ⟨rfl, hk1⟩; have H2 := Lib.hid (H1.out.quiet hk1); clear hk1 H1))
  generalize hw2 : w1.alloc _ = w2
  have H3 : Hid (Asw w w2) := Lib.hid (by rw [← hw2]; exact H2.out.quiet (below_alloc1 _ _))
  have HF : Hid (Blk w2 w1.heap.size #[.int .u64 addr, .int .i64 code] 64) := Lib.hid (by rw [← hw2]; exact Blk.new _ _ _)
  clear hw2 H2
  generalize w1.heap.size = pb at *
  go_upto_region 5 with (first | (go_at_call 21; refine (kind_pageIn n t x addr code _ (errT_keep HG.out H3.out.below) (page_keep HP.out H3.out.below)).mono ?_; rintro e w3 ⟨rfl, hk3⟩; have H4 := Lib.hid (H3.out.quiet hk3); have HF4 := Lib.hid (HF.out.below hk3); clear hk3 H3 HF))
  have g0 : w3.cell? ⟨pb, 0, none⟩ = some (.int .u64 addr) := (HF4.out.two).1
  have g1 : w3.cell? ⟨pb, 1, none⟩ = some (.int .i64 code) := (HF4.out.two).2
  have hpb : pb < w3.heap.size := HF4.out.lt
  have hne : w.heap.size < w3.heap.size := H4.out.res.lt
  obtain ⟨z0, z1, z2, z3⟩ := H4.out.res.four
  have f0 := H4.out.res.fz 0
  have f1 := H4.out.res.fz 1
  have f2 := H4.out.res.fz 2
  have f3 := H4.out.res.fz 3
  go_wp2
  exact bodyPost_ret (results_cell_row rfl _ _ w.heap.size _ _ _ _ rfl ((H4.out.res.set4 _ _ _ _).alloc _) Tryz.underlying47 rfl rfl) rfl ⟨rfl, (H4.out.done _ _ _ _).alloc (by simp; omega) _⟩

set_option maxRecDepth 100000 in
set_option maxHeartbeats 1600000 in
theorem answer_num (a : Int) (n : Nat) (t : TypeId) (x : Value) (k : Int) (w : World) (hg : ErrT w) (h : NumIn w n t x k) :
    Calls Tryz.prog 12 #[.int .u64 a, .iface t x] w fun e w' => e = .returned (.agg (ansCells ⟨a, k, 0, 0⟩)) ∧ Below w.heap.size w w' := by
  have H0 := Lib.hid (Asw.start w)
  have HG := Lib.hid hg
  have HP := Lib.hid h
  clear hg h
  go_enter Tryz.func12, Tryz.ntmps12
  go_upto_region 1 with fail
  generalize hw0 : w.alloc _ = w0
  have H1 : Hid (Asw w w0) := Lib.hid (by rw [← hw0]; exact H0.out)
  clear hw0 H0
  go_upto_region 4 with (first | (go_at_call 18; refine (of_numIn n t x k _ (errT_keep HG.out H1.out.below) (num_keep HP.out H1.out.below)).mono ?_; rintro e w1 ⟨rfl, hk1⟩; have H2 := Lib.hid (H1.out.quiet hk1); clear hk1 H1))
  generalize hw2 : w1.alloc _ = w2
  have H3 : Hid (Asw w w2) := Lib.hid (by rw [← hw2]; exact H2.out.quiet (below_alloc1 _ _))
  clear hw2 H2
  generalize w1.heap.size = pb at *
  go_upto_region 5 with (first | (go_at_call 21; refine (kind_numIn n t x k _ (errT_keep HG.out H3.out.below) (num_keep HP.out H3.out.below)).mono ?_; rintro e w3 ⟨rfl, hk3⟩; have H4 := Lib.hid (H3.out.quiet hk3); clear hk3 H3))
  have hne : w.heap.size < w3.heap.size := H4.out.res.lt
  obtain ⟨z0, z1, z2, z3⟩ := H4.out.res.four
  have f0 := H4.out.res.fz 0
  have f1 := H4.out.res.fz 1
  have f2 := H4.out.res.fz 2
  have f3 := H4.out.res.fz 3
  go_wp2
  exact bodyPost_ret (results_cell_row rfl _ _ w.heap.size _ _ _ _ rfl ((H4.out.res.set4 _ _ _ _).alloc _) Tryz.underlying47 rfl rfl) rfl ⟨rfl, (H4.out.done _ _ _ _).alloc (by simp; omega) _⟩
end Go.Proofs.YtopmmlcjlopmaaaGreatDoor
/- Layer 9: Translate in a memory of 16 bits, by what its path allows; the page fault's and the law's awake. -/
namespace Go.Proofs.YtopmmlcjlopmaaaGreatDoor
set_option linter.unusedVariables false
set_option linter.unusedSimpArgs false
open Go.ChangeShapes Go.WideShapes Go.ChangeAt Go.RowKit Go.Joins

theorem walk_four (f : Int → Int) (hw : ∀ s, W64 (f s)) (a : Int) (nxe : Bool) (t : Int) (W U X : Bool) (P : Pth) (hP : walkZ 16 f a nxe 4 t W U X = P) : Snd f 4 P ∧ P.steps.length ≤ 4 ∧ ∀ k, k < P.steps.length → W64 (stepAt P.steps k).2.1 ∧ W64 (stepAt P.steps k).2.2 := by
  have hs := walk_snd f hw a nxe 4 (by decide) t W U X
  rw [show ((4 : Nat) : Int) = 4 from rfl, hP] at hs
  have := hs.len
  refine ⟨hs, by omega, fun k hk => ?_⟩
  obtain ⟨h1, h2, h3⟩ := hs.at_ k hk
  exact ⟨slot_w8 h1 h3, by rw [h2]; exact hw _⟩

section
variable {w : World} {F : Nat → Prop} {m : Nat} {f : Int → Int} {tr : List Int} {n : Nat}
theorem trans_no (h : Mem w F m 16 f tr n) (hn : n < 800000) (h0 : ¬ F 1) (hs : Shifts w) (u : Usx) (a : Int) (hr : W64 u.root) (ha : W64 a) (hc : canonF a = true) (P : Pth) (hP : walkZ 16 f a u.nxe 4 (tableF u.root) true true true = P) (hm : jmay P u = false) :
    Calls Tryz.prog 9 #[.pointer (some ⟨m, 0, none⟩), useV u, .int .u64 a] w fun e w' => ∃ (v : Value) (G : Nat → Prop) (g : Nat), e = .returned (.tuple #[.int .u64 0, .agg (pathCells v P), .iface 111 (.pointer (some ⟨g, 0, none⟩))]) ∧ PageIn w' 0 111 (.pointer (some ⟨g, 0, none⟩)) a (jcode P u) ∧ Tro w w' F m 16 f (tr ++ slotsP P.steps) (n + 5) G v P := by
  have hf := walk_four f h.words a u.nxe (tableF u.root) true true true P hP
  refine (trans_any h hn h0 hs u a hr ha hc P hP hf.2.1 fun k hk => (hf.2.2 k hk).1).mono ?_
  rintro e w' ⟨v, G, ⟨h1, _⟩ | ⟨_, g, he, hp, ho⟩⟩
  · rw [hm] at h1; cases h1
  · exact ⟨v, G, g, he, hp, ho⟩
theorem trans_yes (h : Mem w F m 16 f tr n) (hn : n < 800000) (h0 : ¬ F 1) (hs : Shifts w) (u : Usx) (a : Int) (hr : W64 u.root) (ha : W64 a) (hc : canonF a = true) (P : Pth) (hP : walkZ 16 f a u.nxe 4 (tableF u.root) true true true = P) (hm : jmay P u = true) :
    Calls Tryz.prog 9 #[.pointer (some ⟨m, 0, none⟩), useV u, .int .u64 a] w fun e w' => ∃ (v : Value) (G : Nat → Prop), e = .returned (.tuple #[.int .u64 (jpa P a), .agg (pathCells v P), .nilIface]) ∧ Tro w w' F m 16 (markN 16 f P.steps (u.k == 2) P.steps.length) (tr ++ slotsP P.steps) (n + 5 + P.steps.length) G v P := by
  have hf := walk_four f h.words a u.nxe (tableF u.root) true true true P hP
  refine (trans_any h hn h0 hs u a hr ha hc P hP hf.2.1 fun k hk => (hf.2.2 k hk).1).mono ?_
  rintro e w' ⟨v, G, ⟨_, he, ho⟩ | ⟨h1, _⟩⟩
  · exact ⟨v, G, he, ho⟩
  · rw [hm] at h1; cases h1
end

def useA : Usx := ⟨0, 2, true, false, false, false, false, false⟩
abbrev useAV : Value := .agg #[.int .u64 0, .int .i64 2, .bool true, .bool false, .bool false, .bool false, .bool false, .bool false]
abbrev pathA1 (v : Value) : Value := .agg #[v, .int .i64 1, .bool false, .bool false, .bool false, .int .i64 0, .int .u64 0]
abbrev pathA2 (v : Value) : Value := .agg #[v, .int .i64 0, .bool true, .bool true, .bool true, .int .i64 1, .int .u64 16384]
theorem aw9a : walkZ 16 (fun _ => 0) 0 false 4 (tableF 0) true true true = ⟨[(4, 0, 0)], 1, false, false, false, 0, 0⟩ := by kernel_rfl
theorem aw9b : walkZ 16 (putSt tinyP 4) 291 false 4 (tableF 0) true true true = ⟨[(4, 0, 4103), (3, 4096, 8199), (2, 8192, 12295), (1, 12288, 16391)], 0, true, true, true, 1, 16384⟩ := by kernel_rfl
theorem aw9c : jmay ⟨[(4, 0, 0)], 1, false, false, false, 0, 0⟩ useA = false := by decide
theorem aw9d : jmay ⟨[(4, 0, 4103), (3, 4096, 8199), (2, 8192, 12295), (1, 12288, 16391)], 0, true, true, true, 1, 16384⟩ useA = true := by decide
theorem aw9e : jcode ⟨[(4, 0, 0)], 1, false, false, false, 0, 0⟩ useA = 6 := by decide
theorem aw9f : jpa ⟨[(4, 0, 4103), (3, 4096, 8199), (2, 8192, 12295), (1, 12288, 16391)], 0, true, true, true, 1, 16384⟩ 291 = 16675 := by decide +kernel

theorem trans_aw1 {w : World} {B m : Nat} {tr : List Int} {n : Nat} (h : Mem w (From B) m 16 (fun _ => 0) tr n) (hn : n < 800000) (h0 : 1 < B) (hB : B ≤ w.heap.size) (hs : Shifts w) :
    Calls Tryz.prog 9 #[.pointer (some ⟨m, 0, none⟩), useAV, .int .u64 0] w fun e w' => ∃ (A : Option Addr) (c g : Nat), e = .returned (.tuple #[.int .u64 0, pathA1 (.slice A 1 c), .iface 111 (.pointer (some ⟨g, 0, none⟩))]) ∧ PageIn w' 0 111 (.pointer (some ⟨g, 0, none⟩)) 0 6 ∧ Below B w w' := by
  refine (trans_no h hn (from_not0 h0) hs useA 0 w0 w0 (by decide) _ aw9a aw9c).mono ?_
  rintro e w' ⟨v, G, g, rfl, hp, ho⟩
  obtain ⟨A, c, rfl⟩ := ho.own.form
  rw [aw9e] at hp
  exact ⟨A, c, g, rfl, hp, wk_below ho.wk hB⟩
theorem trans_aw2 {w : World} {B m : Nat} {tr : List Int} {n : Nat} (h : Mem w (From B) m 16 (putSt tinyP 4) tr n) (hn : n < 800000) (h0 : 1 < B) (hB : B ≤ w.heap.size) (hs : Shifts w) :
    Calls Tryz.prog 9 #[.pointer (some ⟨m, 0, none⟩), useAV, .int .u64 291] w fun e w' => ∃ (A : Option Addr) (c : Nat), e = .returned (.tuple #[.int .u64 16675, pathA2 (.slice A 4 c), .nilIface]) ∧ Below B w w' := by
  refine (trans_yes h hn (from_not0 h0) hs useA 291 w0 ⟨by decide, by decide⟩ (by decide +kernel) _ aw9b aw9d).mono ?_
  rintro e w' ⟨v, G, rfl, ho⟩
  obtain ⟨A, c, rfl⟩ := ho.own.form
  rw [aw9f]
  exact ⟨A, c, rfl, wk_below ho.wk hB⟩

theorem tiny_in (w : World) : PutsIn (w.alloc (.cells #[.int .u16 0, .int .u16 1, .int .u8 7, .int .u64 0, .int .u16 8, .int .u16 2, .int .u8 7, .int .u64 0, .int .u16 16, .int .u16 3, .int .u8 7, .int .u64 0, .int .u16 24, .int .u16 4, .int .u8 7, .int .u64 0] 76)) (some ⟨w.heap.size, 0, none⟩) tinyP := by
  intro k hk
  have hk4 : k < 4 := hk
  have : k = 0 ∨ k = 1 ∨ k = 2 ∨ k = 3 := by omega
  rcases this with rfl | rfl | rfl | rfl <;> exact ⟨_, rfl, by simp [Addr.add, tinyP], by simp [Addr.add, tinyP], by simp [Addr.add, tinyP], by simp [Addr.add, tinyP]⟩

set_option maxRecDepth 100000 in
theorem awake9_any (w : World) (hs : Shifts w) (hg : ErrT w) :
    Calls Tryz.prog 7 #[] w fun e w' => e = .returned (.bool true) ∧ Below w.heap.size w w' := by
  have HS := Lib.hid hs
  have HG := Lib.hid hg
  have hz := size_shifts hs
  clear hs hg
  go_enter Tryz.func7, Tryz.ntmps7
  go_upto_region 5 with (first | (go_at_call 24; refine (newMem_any 16 _ ⟨by decide, by decide⟩).mono ?_; rintro e w1 ⟨rfl, hM1, hB1⟩; have HM1 := Lib.hid hM1; have HB1 := Lib.hid hB1; have HS1 := Lib.hid (shifts_under HS.out hB1 hz); clear hM1 hB1) | (go_at_call 9; refine (trans_aw1 HM1.out (by decide) hz HB1.out.size HS1.out).mono ?_; rintro e w2 ⟨A2, c2, g2, rfl, hP2, hB2⟩; have HP2 := Lib.hid hP2; have H2 := Lib.hid (Mine.start w |>.quiet (HB1.out.trans hB2)); clear hP2 hB2 HM1 HB1 HS1))
  generalize hw3 : w2.alloc _ = w3
  have H3 := Lib.hid ((H2.out.new (b := w2.heap.size) rfl _ _).world hw3)
  have HP3 := Lib.hid (page_keep HP2.out (show Kept w2 w3 by rw [← hw3]; exact below_alloc1 _ _))
  clear hw3 HP2 H2
  go_upto_region 6 with (first | (go_at_call 18; refine (of_pageIn 0 _ _ 0 6 _ (errT_keep HG.out H3.out.below) HP3.out).mono ?_; rintro e w4 ⟨rfl, hk4⟩; have H4 := Lib.hid (H3.out.quiet hk4); clear hk4 H3 HP3))
  generalize hw5 : w4.alloc _ = w5
  have H5 := Lib.hid ((H4.out.new (b := w4.heap.size) rfl _ _).world hw5)
  have HS5 := Lib.hid (shifts_under HS.out H5.out.below hz)
  clear hw5 H4
  go_upto_region 7 with (first | (go_at_call 8; refine (built_any _ _ 4 tinyP (by decide) (tiny_in _) tiny_ok).mono ?_; rintro e w6 ⟨rfl, hM6, hB6⟩; simp only [World.size_alloc] at hM6 hB6 ⊢; rw [show mostP tinyP = 4 from rfl] at hM6; have HM6 := Lib.hid hM6; have HL6 : Hid (w5.heap.size + 1 ≤ w6.heap.size) := Lib.hid (by have := hB6.size; simp at this; exact this); have HB6 := Lib.hid ((below_alloc1 w5 _).trans (hB6.mono (Nat.le_succ _))); have HS6 := Lib.hid (shifts_under HS5.out HB6.out (size_shifts HS5.out)); clear hM6 hB6))
  have hz5 : 1 < w5.heap.size + 1 := Nat.lt_succ_of_lt (size_shifts HS5.out)
  go_upto_region 8 with (first | (go_at_call 9; refine (trans_aw2 HM6.out (by decide) hz5 HL6.out HS6.out).mono ?_; rintro e w7 ⟨A7, c7, rfl, hB7⟩; have H7 := Lib.hid (H5.out.quiet (HB6.out.trans (hB7.mono (Nat.le_succ _)))); clear hB7 HM6 H5))
  generalize hw8 : w7.alloc _ = w8
  have H8 := Lib.hid ((H7.out.new (b := w7.heap.size) rfl _ _).world hw8)
  clear hw8 H7
  obtain ⟨d0, d1⟩ := (H8.out.at_ 1 rfl).two
  go_wp2
  go_ret
  exact ⟨rfl, H8.out.below⟩
end Go.Proofs.YtopmmlcjlopmaaaGreatDoor
