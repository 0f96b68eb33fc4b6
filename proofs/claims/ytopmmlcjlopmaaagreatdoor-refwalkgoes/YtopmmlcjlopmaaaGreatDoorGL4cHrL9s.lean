/- Several texts of ours in one: L4c, Hr, L9s. -/
import Derived.Test.YtopmmlcjlopmaaaGreatDoorGDkL4wL4b
import Derived.Deep.Cut
import Derived.Test.YtopmmlcjlopmaaaGreatDoorGHpHqHu
import Derived.Test.YtopmmlcjlopmaaaGreatDoorGBxKfSo
/- The walk of MemCopies. -/
namespace Go.Proofs.YtopmmlcjlopmaaaGreatDoor
set_option linter.unusedVariables false
set_option linter.unusedSimpArgs false
open Go.ChangeShapes Go.WideShapes Go.ChangeAt Go.RowKit Go.Joins

/-- the blocks from B on, below C -/
def Foot (B C : Nat) : Nat → Prop := fun i => B ≤ i ∧ i < C

section
variable {w : World} {F F' : Nat → Prop} {B m m' : Nat} {M : Int} {f g : Int → Int} {tr tr' : List Int} {n n' : Nat}

theorem Mem.foot (h : Mem w (From B) m M f tr n) : Mem w (Foot B w.heap.size) m M f tr n := by
  obtain ⟨mb, v, D, h, hF⟩ := h
  exact ⟨mb, v, D, h, fun i hi => ⟨hF i hi, h.own_lt hi⟩⟩

theorem diff_mem (h : Mem w F m 16 f tr n) (h' : Mem w F' m' 16 g tr' n') (hn : n ≤ 100000) (hn' : n' ≤ 100000) :
    Calls Tryz.prog 19 #[.pointer (some ⟨m, 0, none⟩), .pointer (some ⟨m', 0, none⟩)] w fun e w' => ∃ A c ds, e = .returned (.slice A ds.length c) ∧ Lst w' w.heap.size (.slice A ds.length c) ds ∧ IsDif f g ds ∧ Below w.heap.size w w' := by
  obtain ⟨mb, v, D, h, hF⟩ := h
  obtain ⟨mb', v', D', h', hF'⟩ := h'
  exact diff_any w h h' hn hn'

theorem copy_mem (h : Mem w F m M f tr n) (hn : n ≤ 100000) :
    Calls Tryz.prog 16 #[.pointer (some ⟨m, 0, none⟩)] w fun e w' => e = .returned (.pointer (some ⟨w.heap.size + 1, 0, none⟩)) ∧ Mem w' (From w.heap.size) (w.heap.size + 1) M f [] n ∧ Below w.heap.size w w' := by
  obtain ⟨mb, v, D, h, hF⟩ := h
  exact copy_any h hn
end

end Go.Proofs.YtopmmlcjlopmaaaGreatDoor
/- Two memories beside each other. -/
namespace Go.Proofs.YtopmmlcjlopmaaaGreatDoor
set_option linter.unusedVariables false
set_option linter.unusedSimpArgs false
open Go.ChangeShapes Go.WideShapes Go.ChangeAt Go.RowKit Go.Joins

/-- a memory beside another one, of which the blocks are G -/
structure Bes (wr : World) (G H : Nat → Prop) (m : Nat) (f : Int → Int) (tr : List Int) (n : Nat) : Prop where
  mem : Mem wr H m 16 f tr n
  lt : ∀ i, H i → i < wr.heap.size
  free : ∀ i, H i → ¬ G i

section
variable {w wr w3 w4 : World} {F G G' H : Nat → Prop} {m m' : Nat} {M : Int} {f f' : Int → Int} {tr tr' : List Int} {n n' : Nat}
theorem Bes.quiet (h : Bes wr G H m f tr n) (hb : Below wr.heap.size wr w3) : Bes w3 G H m f tr n := ⟨h.mem.kept hb, fun i hi => Nat.lt_of_lt_of_le (h.lt i hi) hb.size, h.free⟩
theorem Bes.step (h : Bes wr G H m f tr n) (k : Wk wr w4 G m' M f' tr' n' G') : Bes w4 G' H m f tr n :=
  ⟨h.mem.turned k.turn (fun i _ hi hg => h.free i hi hg), fun i hi => Nat.lt_of_lt_of_le (h.lt i hi) k.turn.size, fun i hi => k.free (h.free i hi) (h.lt i hi)⟩
theorem Bes.new (hw : Wk w wr F m' M f' tr' n' G) (h : Mem w3 (From wr.heap.size) m 16 f tr n) : Bes w3 G (Foot wr.heap.size w3.heap.size) m f tr n :=
  ⟨h.foot, fun i hi => hi.2, fun i hi hg => by have := (hw.foot i hg).1; have := hi.1; omega⟩
end

theorem Mem.all {w : World} {F : Nat → Prop} {m : Nat} {M : Int} {f : Int → Int} {tr : List Int} {n : Nat} (h : Mem w F m M f tr n) : Mem w (fun _ => True) m M f tr n := h.mono fun _ _ => trivial

/-- both memories, the copy, the path and the list of what differs -/
structure Mks (w wr : World) (b : Nat) (v : Value) (P : Pth) (m m0 m1 : Nat) (f g : Int → Int) (tr : List Int) (n : Nat) (vd : Value) (ds : List Int) : Prop where
  box : Blk wr b (pathCells v P) 37
  steps : StepsIn wr v P.steps
  mem : Mem wr (fun _ => True) m 16 g tr n
  was : Mem wr (fun _ => True) m0 16 f [] 100
  once : Mem wr (fun _ => True) m1 16 g [] n
  dif : WordsOwn wr vd ds
  below : Below w.heap.size w wr

theorem Mks.quiet {w wr w3 : World} {b : Nat} {v : Value} {P : Pth} {m m0 m1 : Nat} {f g : Int → Int} {tr : List Int} {n : Nat} {vd : Value} {ds : List Int} (h : Mks w wr b v P m m0 m1 f g tr n vd ds) (hb : Below wr.heap.size wr w3) : Mks w w3 b v P m m0 m1 f g tr n vd ds :=
  ⟨h.box.below hb, h.steps.below hb, h.mem.kept hb, h.was.kept hb, h.once.kept hb, own_below h.dif hb, h.below.trans (hb.mono h.below.size)⟩

end Go.Proofs.YtopmmlcjlopmaaaGreatDoor
/- The walk of RefwalkSets. -/
namespace Go.Proofs.YtopmmlcjlopmaaaGreatDoor
set_option linter.unusedVariables false
set_option linter.unusedSimpArgs false
open Go.ChangeShapes Go.WideShapes Go.ChangeAt Go.RowKit Go.Joins

theorem canon_cases (a : Int) : canonF a = false ∨ canonF a = true := by cases canonF a <;> simp

set_option maxRecDepth 100000 in
set_option maxHeartbeats 3200000 in
theorem refwalkSets_walk (A : Option Addr) (c : Nat) (ds : List (Int × Int × Int × Int)) (u : Usx) (a : Int) (w : World) (hs : Shifts w) (hg : ErrT w) (hl : ds.length ≤ maxLen) (hd : PutsIn w A ds) (hok : PutsOk ds) (hr : W64 u.root) (ha : W64 a) :
    Calls Tryz.prog 6 #[.slice A ds.length c, useV u, .int .u64 a] w fun e w' => e = .returned (.bool true) ∧ Below w.heap.size w w' := by
  have HS := Lib.hid hs
  have HE := Lib.hid hg
  have hz := size_shifts hs
  obtain ⟨f, hf⟩ : ∃ f, putSt ds (mostP ds) = f := ⟨_, rfl⟩
  have HB := Lib.hid (fun w1 (hb : Below w.heap.size w w1) => built_any w1 A c ds hl (puts_below hd hb) hok)
  rw [hf] at HB
  have H0 := Lib.hid ((Mine.start w).new (b := w.heap.size) rfl (useCells u) 29)
  clear hs hg hd hok hl hf
  go_enter Tryz.func6, Tryz.ntmps6
  go_upto_region 1 with fail
  generalize hw0 : w.alloc _ = w0
  have H1 := Lib.hid (H0.out.world hw0)
  clear hw0 H0
  go_upto_region 5 with (first | (go_at_call 7; refine (awake9_any _ (shifts_under HS.out H1.out.below hz) (errT_keep HE.out H1.out.below)).mono ?_; rintro e w1 ⟨rfl, hB1⟩; have H2 := Lib.hid (H1.out.quiet hB1); clear hB1 H1) | (go_at_call 8; ((with_reducible refine (HB.out _ H2.out.below).mono ?_)); rintro e w2 ⟨rfl, hM2, hB2⟩; have H3 := Lib.hid (Law.start H2.out hM2 hB2); clear hM2 hB2 H2 HB))
  obtain ⟨m, hm⟩ : ∃ m, w1.heap.size + 1 = m := ⟨_, rfl⟩
  obtain ⟨G, hG⟩ : ∃ G : Nat → Prop, (fun i => From w1.heap.size i ∧ i < w2.heap.size) = G := ⟨_, rfl⟩
  rw [hm, hG] at H3
  rw [hm]
  clear hm hG
  go_upto_region 6 with (first | (go_at_call 16; refine (copy_mem H3.out.wk.mem (by decide)).mono ?_; rintro e w3 ⟨rfl, hC3, hB3⟩; have H4 := Lib.hid (H3.out.two hC3 hB3); clear hC3 hB3 H3))
  obtain ⟨m0, hm⟩ : ∃ m0, w2.heap.size + 1 = m0 := ⟨_, rfl⟩
  obtain ⟨H, hH⟩ : ∃ H : Nat → Prop, (fun i => From w2.heap.size i ∧ i < w3.heap.size) = H := ⟨_, rfl⟩
  rw [hm, hH] at H4
  rw [hm]
  clear hm hH
  have HS4 := Lib.hid (shifts_under HS.out H4.out.below hz)
  obtain ⟨q0, q1, q2, q3, q4, q5, q6, q7⟩ := (H4.out.at_ 0 rfl).eight
  rcases canon_cases a with hc | hc
  · have CT := fun w' => trans_gp (w := w') (.pointer (some ⟨m, 0, none⟩)) u a ha hc
    go_wp2_with (first | (go_at_call 9; refine (CT _).mono ?_; rintro e w4 ⟨g, rfl, _, hB4⟩; have H5 := Lib.hid (H4.out.quiet hB4); clear hB4 H4))
    generalize hw5 : w4.alloc _ = w5
    have H6 := Lib.hid ((H5.out.new (b := w4.heap.size) rfl _ _).world hw5)
    go_ret
    exact ⟨rfl, H6.out.below⟩
  · obtain ⟨P, hP⟩ : ∃ P, walkZ 16 f a u.nxe 4 (tableF u.root) true true true = P := ⟨_, rfl⟩
    have HW := Lib.hid (walk_four f H4.out.m.mem.words a u.nxe (tableF u.root) true true true P hP)
    cases hm : jmay P u
    · have CT := trans_no H4.out.m.mem (by decide) (H4.out.m.no0 hz) HS4.out u a hr ha hc P hP hm
      clear hP hm hc
      go_wp2_with (first | (go_at_call 9; refine CT.mono ?_; rintro e w4 ⟨v, G4, g, rfl, _, hT⟩; obtain ⟨A4, c4, rfl⟩ := hT.own.form; have H5 := Lib.hid (H4.out.step hT.wk); clear hT H4 CT))
      generalize hw5 : w4.alloc _ = w5
      have H6 := Lib.hid ((H5.out.new (b := w4.heap.size) rfl _ _).world hw5)
      go_ret
      exact ⟨rfl, H6.out.below⟩
    · have CT := trans_yes H4.out.m.mem (by decide) (H4.out.m.no0 hz) HS4.out u a hr ha hc P hP hm
      obtain ⟨N, hN⟩ : ∃ N, P.steps.length = N := ⟨_, rfl⟩
      have hN4 : N ≤ 4 := by rw [← hN]; exact HW.out.2.1
      have hN1 : 1 ≤ N := by rw [← hN]; exact HW.out.1.some (by rw [(jmay_yes hm).1]; decide)
      have hy2 : (P.why == 0) = true := by rw [(jmay_yes hm).1]; rfl
      have HM : Hid (markN 16 f P.steps ((u.k == 2) && decide (P.why = 0)) N = markN 16 f P.steps (u.k == 2) N) := Lib.hid (by rw [(jmay_yes hm).1]; simp)
      have HNN := Lib.hid hN
      rw [hN] at CT
      clear hP hm hc hN
      go_upto_region 7 with (first | (go_at_call 9; refine CT.mono ?_; rintro e w4 ⟨v, G4, rfl, hT⟩; obtain ⟨A4, c4, hv⟩ := hT.own.form; rw [HNN.out] at hv; subst hv; have H5 := Lib.hid (H4.out.stepGot hT.wk hT.own (Nat.le_refl _) hT.nv); clear hT H4 CT q0 q1 q2 q3 q4 q5 q6 q7))
      generalize hw5 : w4.alloc _ = w5
      have H6 := Lib.hid ((H5.out.new (b := w4.heap.size) rfl _ _).world hw5)
      clear hw5 H5
      obtain ⟨p0, p1, p2, p3, p4, p5, p6⟩ := (H6.out.at_ 0 rfl).seven
      obtain ⟨q0, q1, q2, q3, q4, q5, q6, q7⟩ := (H6.out.at_ 1 rfl).eight
      go_upto_region 10 with (first | (go_at_call 23; refine (mark_any H6.out.k.mem A4 N c4 P.steps HNN.out (H6.out.of_ 0 rfl) (H6.out.off 0 rfl).2 (by omega) (by decide) (fun k hk => (HW.out.2.2 k (by rw [HNN.out]; exact hk)).1) P.why P.W P.U P.X P.lev P.fr (u.k == 2)).mono ?_; rw [HM.out]; rintro e w6 ⟨rfl, G6, hW6⟩; have H7 := Lib.hid (H6.out.swap.step hW6).swap; clear hW6 H6 p0 p1 p2 p3 p4 p5 p6 q0 q1 q2 q3 q4 q5 q6 q7))
      generalize markN 16 f P.steps (u.k == 2) N = g at *
      obtain ⟨p0, p1, p2, p3, p4, p5, p6⟩ := (H7.out.at_ 0 rfl).seven
      go_wp2_with (first | (go_at_call 19; refine (diff_mem H7.out.k.mem H7.out.m.mem (by omega) (by omega)).mono ?_; rintro e w7 ⟨Ad, cd, es, rfl, _, hI, hB7⟩; obtain rfl := hI.none; have H8 := Lib.hid (H7.out.quiet hB7); clear hI hB7 H7 p0 p1 p2 p3 p4 p5 p6; obtain ⟨p0, p1, p2, p3, p4, p5, p6⟩ := (H8.out.at_ 0 rfl).seven))
      go_ret
      exact ⟨rfl, H8.out.below⟩
end Go.Proofs.YtopmmlcjlopmaaaGreatDoor
