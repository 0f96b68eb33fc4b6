/- Several texts of ours in one: Ka, Hm, Hn. -/
import Derived.Test.YtopmmlcjlopmaaaGreatDoorGHcEbHd
import Derived.Test.YtopmmlcjlopmaaaGreatDoorGHfHgGc
import Derived.Test.YtopmmlcjlopmaaaGreatDoorGFjFkL7
import Derived.BigQuiet
import Derived.Deep.Cut
import Derived.Test.YtopmmlcjlopmaaaGreatDoorGHaGmGa
import Derived.Test.YtopmmlcjlopmaaaGreatDoorGVmRN
/- Layer 9: an access with a root and control bits; what a path allows; contract of refwalk.Judge. -/
namespace Go.Proofs.YtopmmlcjlopmaaaGreatDoor
set_option linter.unusedVariables false
set_option linter.unusedSimpArgs false
open Go.ChangeShapes Go.WideShapes Go.ChangeAt Go.RowKit Go.Joins

/-- an access with a root and control bits -/
structure Usx where
  root : Int
  k : Int
  user : Bool
  ac : Bool
  wp : Bool
  nxe : Bool
  smep : Bool
  smap : Bool

abbrev useCells (u : Usx) : Array Value := #[.int .u64 u.root, .int .i64 u.k, .bool u.user, .bool u.ac, .bool u.wp, .bool u.nxe, .bool u.smep, .bool u.smap]
abbrev useV (u : Usx) : Value := .agg (useCells u)

/-- does the path allow the access? -/
def jmay (P : Pth) (u : Usx) : Bool := decide (P.why = 0) && mayF P.W P.U P.X u.k u.user u.ac u.wp u.smep u.smap
/-- the address -/
def jpa (P : Pth) (a : Int) : Int := IntKind.u64.wrap (P.fr + lowF a P.lev)
/-- the code of the fault -/
def jcode (P : Pth) (u : Usx) : Int := codeF (P.why == 0 || P.why == 2) (u.k == 2) u.user (P.why == 2) (fetF u.k u.smep u.nxe)

theorem jmay_yes {P : Pth} {u : Usx} (h : jmay P u = true) : P.why = 0 ∧ mayF P.W P.U P.X u.k u.user u.ac u.wp u.smep u.smap = true := by
  unfold jmay at h; simpa using h
theorem jmay_no {P : Pth} {u : Usx} (h : jmay P u = false) (hy : P.why = 0) : mayF P.W P.U P.X u.k u.user u.ac u.wp u.smep u.smap = false := by
  unfold jmay at h; simpa [hy] using h

section
variable {w w' : World} {b : Nat} {t : TypeId} {x0 x1 x2 x3 x4 x5 x6 x7 : Value}
theorem Blk.eight (h : Blk w b #[x0, x1, x2, x3, x4, x5, x6, x7] t) : w.cell? ⟨b, 0, none⟩ = some x0 ∧ w.cell? ⟨b, 1, none⟩ = some x1 ∧ w.cell? ⟨b, 2, none⟩ = some x2 ∧ w.cell? ⟨b, 3, none⟩ = some x3 ∧ w.cell? ⟨b, 4, none⟩ = some x4 ∧ w.cell? ⟨b, 5, none⟩ = some x5 ∧ w.cell? ⟨b, 6, none⟩ = some x6 ∧ w.cell? ⟨b, 7, none⟩ = some x7 := by
  unfold Blk at h; simp [World.cell?, h]
end

/-- two boxes: a path's, and an access's -/
structure Jdg (w wr : World) (tp tu : TypeId) (v : Value) (P : Pth) (u : Usx) : Prop where
  pth : Blk wr w.heap.size (pathCells v P) tp
  use : Blk wr (w.heap.size + 1) (useCells u) tu
  below : Below w.heap.size w wr
theorem Jdg.start (w : World) (tp tu : TypeId) (v : Value) (P : Pth) (u : Usx) : Jdg w ((w.alloc (.cells (pathCells v P) tp)).alloc (.cells (useCells u) tu)) tp tu v P u :=
  ⟨(Blk.new w _ _).alloc _, last_obj2 w _ _, below2 w _ _⟩
theorem Jdg.quiet {w wr w3 : World} {tp tu : TypeId} {v : Value} {P : Pth} {u : Usx} (h : Jdg w wr tp tu v P u) (hb : Below wr.heap.size wr w3) : Jdg w w3 tp tu v P u :=
  ⟨h.pth.below hb, h.use.below hb, h.below.trans (hb.mono h.below.size)⟩

theorem low_quiet (a l : Int) (w : World) (hs : Shifts w) (ha : W64 a) : Calls Tryz.prog 66 #[.int .u64 a, .int .i64 l] w fun e w' => e = .returned (.int .u64 (lowF a l)) ∧ w = w' := low_any a l w hs ha.1

set_option maxRecDepth 100000 in
set_option maxHeartbeats 1600000 in
theorem judge_yes (v : Value) (P : Pth) (u : Usx) (a : Int) (w : World) (hs : Shifts w) (ha : W64 a) (h : jmay P u = true) :
    Calls Tryz.prog 31 #[.agg (pathCells v P), useV u, .int .u64 a] w fun e w' => e = .returned (.tuple #[.int .u64 (jpa P a), .nilIface]) ∧ Below w.heap.size w w' := by
  obtain ⟨hy, hm⟩ := jmay_yes h
  have HS := Lib.hid hs
  have HA := Lib.hid ha
  have HE : Hid (IntKind.u64.wrap (P.fr + lowF a P.lev) = jpa P a) := Lib.hid rfl
  have H0 := Lib.hid (Jdg.start w 37 29 v P u)
  have CM := fun w' => may_any P.W P.U P.X u.k u.user u.ac u.wp u.nxe u.smep u.smap w'
  rw [hm] at CM
  clear hs ha h hm
  obtain ⟨S, y, W, U, X, lv, fr⟩ := P
  obtain ⟨r, k, us, ac, wp, nx, se, sa⟩ := u
  simp only at hy H0 HE CM ⊢
  subst hy
  go_enter Tryz.func31, Tryz.ntmps31
  go_upto_region 1 with fail
  generalize hw0 : (w.alloc _).alloc _ = w0
  have H1 : Hid (Jdg w w0 37 29 v ⟨S, 0, W, U, X, lv, fr⟩ ⟨r, k, us, ac, wp, nx, se, sa⟩) := Lib.hid (by rw [← hw0]; exact H0.out)
  clear hw0 H0
  obtain ⟨p0, p1, p2, p3, p4, p5, p6⟩ := H1.out.pth.seven
  obtain ⟨q0, q1, q2, q3, q4, q5, q6, q7⟩ := H1.out.use.eight
  go_upto_region 8 with (first | (go_at_call 65; refine (CM _).mono ?_; rintro e w1 ⟨rfl, hB1⟩; have H2 := Lib.hid (H1.out.quiet hB1); clear hB1 H1 p0 p1 p2 p3 p4 p5 p6 q0 q1 q2 q3 q4 q5 q6 q7))
  obtain ⟨p0, p1, p2, p3, p4, p5, p6⟩ := H2.out.pth.seven
  have CL := fun n => low_quiet a lv (w1.drewN n) (shifts_under (shifts_under HS.out H2.out.below (size_shifts HS.out)) (drewN_below w1 n) (size_shifts (shifts_under HS.out H2.out.below (size_shifts HS.out)))) HA.out
  go_quiet (first | (go_at_call 66; exact quietOf (CL _)))
  go_wp2
  go_ret2
  exact ⟨ret_val (by rw [HE.out]; rfl), H2.out.below.trans ((drewN_below _ _).mono H2.out.below.size)⟩

set_option maxRecDepth 100000 in
set_option maxHeartbeats 3200000 in
theorem judge_no (v : Value) (P : Pth) (u : Usx) (a : Int) (w : World) (h : jmay P u = false) :
    Calls Tryz.prog 31 #[.agg (pathCells v P), useV u, .int .u64 a] w fun e w' => ∃ g : Nat, e = .returned (.tuple #[.int .u64 0, .iface 111 (.pointer (some ⟨g, 0, none⟩))]) ∧ PageIn w' 0 111 (.pointer (some ⟨g, 0, none⟩)) a (jcode P u) ∧ Below w.heap.size w w' := by
  have HN : Hid (P.why = 0 → mayF P.W P.U P.X u.k u.user u.ac u.wp u.smep u.smap = false) := Lib.hid (jmay_no h)
  have H0 := Lib.hid (Jdg.start w 37 29 v P u)
  have HJ : Hid (codeF (P.why == 0 || P.why == 2) (u.k == 2) u.user (P.why == 2) (fetF u.k u.smep u.nxe) = jcode P u) := Lib.hid rfl
  clear h
  obtain ⟨S, y, W, U, X, lv, fr⟩ := P
  obtain ⟨r, k, us, ac, wp, nx, se, sa⟩ := u
  have CM := fun w' => may_any W U X k us ac wp nx se sa w'
  simp only at HN H0 HJ CM ⊢
  generalize jcode _ _ = code at *
  by_cases h0 : y = 0
  · subst h0
    rw [HN.out rfl] at CM
    have HC : Hid (codeF true (k == 2) us false (fetF k se nx) = code) := Lib.hid (by rw [← HJ.out]; rfl)
    clear HN HJ
    go_enter Tryz.func31, Tryz.ntmps31
    go_upto_region 1 with fail
    generalize hw0 : (w.alloc _).alloc _ = w0
    have H1 : Hid (Jdg w w0 37 29 v ⟨S, 0, W, U, X, lv, fr⟩ ⟨r, k, us, ac, wp, nx, se, sa⟩) := Lib.hid (by rw [← hw0]; exact H0.out)
    clear hw0 H0
    obtain ⟨p0, p1, p2, p3, p4, p5, p6⟩ := H1.out.pth.seven
    obtain ⟨q0, q1, q2, q3, q4, q5, q6, q7⟩ := H1.out.use.eight
    go_upto_region 9 with (first | (go_at_call 65; refine (CM _).mono ?_; rintro e w1 ⟨rfl, hB1⟩; have H2 := Lib.hid (H1.out.quiet hB1); clear hB1 H1 p0 p1 p2 p3 p4 p5 p6 q0 q1 q2 q3 q4 q5 q6 q7))
    obtain ⟨q0, q1, q2, q3, q4, q5, q6, q7⟩ := H2.out.use.eight
    go_wp2_with (first | (go_at_call 68; refine (code_any _ _ _ _ _ _ _ _ _ _).mono ?_; rintro e w2 ⟨rfl, hB2⟩; have H3 := Lib.hid (H2.out.quiet hB2).below; rw [HC.out]; clear hB2 H2 q0 q1 q2 q3 q4 q5 q6 q7) | (go_at_call 67; refine (at_page _ _ _).mono ?_; rintro e w3 ⟨g, rfl, hP3, hK3⟩; have HP3 := Lib.hid hP3; have H4 := Lib.hid (Below.trans H3.out (Below.mono hK3 H3.out.size)); clear hP3 hK3))
    go_ret2
    exact ⟨g, rfl, HP3.out, H4.out⟩
  · by_cases h2 : y = 2
    · subst h2
      have HC : Hid (codeF true (k == 2) us true (fetF k se nx) = code) := Lib.hid (by rw [← HJ.out]; rfl)
      clear HN HJ h0
      go_enter Tryz.func31, Tryz.ntmps31
      go_upto_region 1 with fail
      generalize hw0 : (w.alloc _).alloc _ = w0
      have H2 : Hid (Jdg w w0 37 29 v ⟨S, 2, W, U, X, lv, fr⟩ ⟨r, k, us, ac, wp, nx, se, sa⟩) := Lib.hid (by rw [← hw0]; exact H0.out)
      clear hw0 H0
      obtain ⟨p0, p1, p2, p3, p4, p5, p6⟩ := H2.out.pth.seven
      obtain ⟨q0, q1, q2, q3, q4, q5, q6, q7⟩ := H2.out.use.eight
      go_wp2_with (first | (go_at_call 68; refine (code_any _ _ _ _ _ _ _ _ _ _).mono ?_; rintro e w2 ⟨rfl, hB2⟩; have H3 := Lib.hid (H2.out.quiet hB2).below; rw [HC.out]; clear hB2 H2 p0 p1 p2 p3 p4 p5 p6 q0 q1 q2 q3 q4 q5 q6 q7) | (go_at_call 67; refine (at_page _ _ _).mono ?_; rintro e w3 ⟨g, rfl, hP3, hK3⟩; have HP3 := Lib.hid hP3; have H4 := Lib.hid (Below.trans H3.out (Below.mono hK3 H3.out.size)); clear hP3 hK3))
      go_ret2
      exact ⟨g, rfl, HP3.out, H4.out⟩
    · have e0 : (y == 0) = false := by simpa using h0
      have e2 : (y == 2) = false := by simpa using h2
      have HC : Hid (codeF false (k == 2) us false (fetF k se nx) = code) := Lib.hid (by rw [← HJ.out, e0, e2]; rfl)
      clear HN HJ h0 h2
      go_enter Tryz.func31, Tryz.ntmps31
      go_upto_region 1 with fail
      generalize hw0 : (w.alloc _).alloc _ = w0
      have H2 : Hid (Jdg w w0 37 29 v ⟨S, y, W, U, X, lv, fr⟩ ⟨r, k, us, ac, wp, nx, se, sa⟩) := Lib.hid (by rw [← hw0]; exact H0.out)
      clear hw0 H0
      obtain ⟨p0, p1, p2, p3, p4, p5, p6⟩ := H2.out.pth.seven
      obtain ⟨q0, q1, q2, q3, q4, q5, q6, q7⟩ := H2.out.use.eight
      go_wp2_with (first | (go_at_call 68; refine (code_any _ _ _ _ _ _ _ _ _ _).mono ?_; rintro e w2 ⟨rfl, hB2⟩; have H3 := Lib.hid (H2.out.quiet hB2).below; rw [HC.out]; clear hB2 H2 p0 p1 p2 p3 p4 p5 p6 q0 q1 q2 q3 q4 q5 q6 q7) | (go_at_call 67; refine (at_page _ _ _).mono ?_; rintro e w3 ⟨g, rfl, hP3, hK3⟩; have HP3 := Lib.hid hP3; have H4 := Lib.hid (Below.trans H3.out (Below.mono hK3 H3.out.size)); clear hP3 hK3))
      go_ret2
      exact ⟨g, rfl, HP3.out, H4.out⟩
end Go.Proofs.YtopmmlcjlopmaaaGreatDoor
/- What is true of every walk: its levels, its words, why it ended. Nothing of the program. -/
namespace Go.Proofs.YtopmmlcjlopmaaaGreatDoor
set_option linter.unusedVariables false
set_option linter.unusedSimpArgs false

abbrev stepAt (S : List (Int × Int × Int)) (k : Nat) : Int × Int × Int := S.getD k (0, 0, 0)

theorem odd_bit {x : Int} (hx : W64 x) : bitF x 0 = decide (x % 2 = 1) := by
  have e := bit_nat hx (k := 0) (by decide)
  rw [show ((0 : Nat) : Int) = 0 from rfl] at e
  rw [e]
  unfold tb
  have h0 := hx.1
  rw [Nat.testBit_zero]
  by_cases h : x % 2 = 1
  · rw [decide_eq_true h, decide_eq_true (by omega)]
  · rw [decide_eq_false h, decide_eq_false (by omega)]

theorem bits16 {x : Int} (hx : W64 x) (h : hasF x (beyondF 16) = false) : tableF x < 65536 := by
  have e := has_get hx (lo := 16) (n := 36) (by decide) (by simpa [beyondF, lowB] using h)
  have h0 := hx.1
  have e' : x / 65536 % 68719476736 = 0 := by simpa using e
  unfold tableF
  omega

theorem res16 {x l : Int} {nxe : Bool} (hx : W64 x) (h : resF x l 16 nxe = false) : tableF x < 65536 := by
  apply bits16 hx
  unfold resF at h
  cases hh : hasF x (beyondF 16)
  · rfl
  · rw [hh] at h; simp at h

theorem frame_le (x l : Int) : 0 ≤ frameF x l ∧ frameF x l ≤ tableF x := by
  have h := table_bd x
  unfold frameF pageF
  split
  · have h1 : 0 ≤ lowF (tableF x) l ∧ lowF (tableF x) l ≤ tableF x := low_bd h.1 l
    omega
  · omega

theorem leaf4 {x : Int} : leafF x 4 = false := by unfold leafF; simp

structure Snd (f : Int → Int) (l : Int) (P : Pth) : Prop where
  len : (P.steps.length : Int) ≤ l
  lev : ∀ k, k < P.steps.length → (stepAt P.steps k).1 = l - k
  odd : ∀ k, k < P.steps.length → (stepAt P.steps k).2.2 % 2 = if k + 1 = P.steps.length ∧ P.why = 1 then 0 else 1
  off : P.why ≠ 0 → P.W = false ∧ P.U = false ∧ P.X = false ∧ P.lev = 0 ∧ P.fr = 0
  yes : P.why = 0 → P.lev = l + 1 - P.steps.length ∧ 1 ≤ P.lev ∧ P.lev ≤ 3 ∧ 0 ≤ P.fr ∧ P.fr < 65536
  kind : P.why = 0 ∨ P.why = 1 ∨ P.why = 2
  some : P.why ≠ 2 → 1 ≤ P.steps.length
  at_ : ∀ k, k < P.steps.length → errS 16 (stepAt P.steps k).2.1 = 0 ∧ (stepAt P.steps k).2.2 = f ((stepAt P.steps k).2.1 / 8) ∧ 0 ≤ (stepAt P.steps k).2.1

theorem snd_off2 (f : Int → Int) {l : Int} (hl : 0 ≤ l) : Snd f l (offP 2) :=
  ⟨hl, fun k hk => absurd hk (by simp [offP]), fun k hk => absurd hk (by simp [offP]), fun _ => ⟨rfl, rfl, rfl, rfl, rfl⟩, fun h => absurd h (by decide), Or.inr (Or.inr rfl), fun h => absurd rfl h, fun k hk => absurd hk (by simp [offP])⟩

section
variable {f : Int → Int} {l s x : Int} {Q : Pth}

theorem snd_cons (h : Snd f (l - 1) Q) (hx : x % 2 = 1) (he : errS 16 s = 0) (hs : 0 ≤ s) (hw : x = f (s / 8)) : Snd f l (preP [(l, s, x)] Q) := by
  have e : (preP [(l, s, x)] Q).steps.length = Q.steps.length + 1 := by simp [preP]
  have h0 : stepAt (preP [(l, s, x)] Q).steps 0 = (l, s, x) := rfl
  have hS : ∀ k, stepAt (preP [(l, s, x)] Q).steps (k + 1) = stepAt Q.steps k := fun k => by simp [preP, stepAt]
  refine ⟨?_, ?_, ?_, h.off, ?_, h.kind, ?_, ?_⟩
  · have := h.len; rw [e]; omega
  · intro k hk
    rcases k with _ | k
    · rw [h0]; simp
    · rw [hS]
      have := h.lev k (by omega)
      omega
  · intro k hk
    rcases k with _ | k
    · rw [h0, e]
      rw [if_neg]
      · exact hx
      · rintro ⟨h1, h2⟩
        have : 1 ≤ Q.steps.length := h.some (by rw [show Q.why = 1 from h2]; decide)
        omega
    · rw [hS, h.odd k (by omega), e]
      have : (k + 1 = Q.steps.length ∧ Q.why = 1) ↔ (k + 1 + 1 = Q.steps.length + 1 ∧ (preP [(l, s, x)] Q).why = 1) := by
        show _ ↔ (_ ∧ Q.why = 1)
        constructor <;> rintro ⟨a, b⟩ <;> exact ⟨by omega, b⟩
      by_cases c : k + 1 = Q.steps.length ∧ Q.why = 1
      · rw [if_pos c, if_pos (this.1 c)]
      · rw [if_neg c, if_neg (fun h => c (this.2 h))]
  · intro hy
    obtain ⟨a, b⟩ := h.yes hy
    refine ⟨?_, b⟩
    rw [e]
    show Q.lev = _
    rw [a]
    push_cast
    omega
  · intro _; rw [e]; omega
  · intro k hk
    rcases k with _ | k
    · rw [h0]; exact ⟨he, hw, hs⟩
    · rw [hS]; exact h.at_ k (by omega)

theorem snd_last {y : Int} {W U X : Bool} {lv fr : Int} (hl : 1 ≤ l) (hodd : x % 2 = if y = 1 then 0 else 1) (he : errS 16 s = 0) (hs : 0 ≤ s) (hw : x = f (s / 8)) (hy : y = 0 ∨ y = 1 ∨ y = 2)
    (hoff : y ≠ 0 → W = false ∧ U = false ∧ X = false ∧ lv = 0 ∧ fr = 0) (hyes : y = 0 → lv = l ∧ 1 ≤ lv ∧ lv ≤ 3 ∧ 0 ≤ fr ∧ fr < 65536) : Snd f l (preP [(l, s, x)] ⟨[], y, W, U, X, lv, fr⟩) := by
  have h0 : ∀ k, k < 1 → k = 0 := fun k hk => by omega
  refine ⟨by simpa [preP] using hl, ?_, ?_, hoff, ?_, hy, by simp [preP], ?_⟩
  · intro k hk
    obtain rfl := h0 k (by simpa [preP] using hk)
    simp [preP, stepAt]
  · intro k hk
    obtain rfl := h0 k (by simpa [preP] using hk)
    simpa [preP, stepAt] using hodd
  · intro h
    obtain ⟨a, b⟩ := hyes h
    refine ⟨?_, b⟩
    show lv = _
    simp [preP]
    omega
  · intro k hk
    obtain rfl := h0 k (by simpa [preP] using hk)
    exact ⟨he, hw, hs⟩
end

theorem walk_snd (f : Int → Int) (hw : ∀ s, W64 (f s)) (a : Int) (nxe : Bool) : ∀ (n : Nat), n ≤ 4 → ∀ (t : Int) (W U X : Bool), Snd f n (walkZ 16 f a nxe n t W U X)
  | 0, _, t, W, U, X => by
    rw [walk_off (by omega)]; exact snd_off2 f (by omega)
  | n + 1, hn, t, W, U, X => by
    rw [walk_in (by omega) (by omega)]
    by_cases he : errS 16 (slotF t a ((n + 1 : Nat) : Int)) = 0
    · rw [if_pos he]
      have hs := (slot_bd t a ((n + 1 : Nat) : Int)).1
      generalize slotF t a ((n + 1 : Nat) : Int) = s at *
      obtain ⟨x, hx⟩ : ∃ x, f (s / 8) = x := ⟨_, rfl⟩
      have hxw : W64 x := hx ▸ hw _
      rw [hx]
      cases hP : bitF x 0
      · rw [on_abs hP]
        rw [odd_bit hxw] at hP
        have : ¬ x % 2 = 1 := by simpa using hP
        have h0 := hxw.1
        exact snd_last (by omega) (by rw [if_pos rfl]; omega) he hs hx.symm (Or.inr (Or.inl rfl)) (fun _ => ⟨rfl, rfl, rfl, rfl, rfl⟩) (fun h => absurd h (by decide))
      · have hodd : x % 2 = 1 := by rw [odd_bit hxw] at hP; simpa using hP
        cases hR : resF x ((n + 1 : Nat) : Int) 16 nxe
        · cases hL : leafF x ((n + 1 : Nat) : Int)
          · rw [on_on hP hR hL, show (((n + 1 : Nat) : Int)) - 1 = (n : Int) by omega]
            refine snd_cons ?_ hodd he hs hx.symm
            rw [show (((n + 1 : Nat) : Int)) - 1 = (n : Int) by omega]
            exact walk_snd f hw a nxe n (by omega) _ _ _ _
          · rw [on_leaf hP hR hL]
            have h3 : n + 1 ≠ 4 := fun e => by rw [e] at hL; rw [show ((4 : Nat) : Int) = 4 from rfl, leaf4] at hL; cases hL
            have := frame_le x ((n + 1 : Nat) : Int)
            have := res16 hxw hR
            exact snd_last (by omega) (by rw [if_neg (by decide)]; exact hodd) he hs hx.symm (Or.inl rfl) (fun h => absurd rfl h) (fun _ => ⟨rfl, by omega, by omega, by omega, by omega⟩)
        · rw [on_res hP hR]
          exact snd_last (by omega) (by rw [if_neg (by decide)]; exact hodd) he hs hx.symm (Or.inr (Or.inr rfl)) (fun _ => ⟨rfl, rfl, rfl, rfl, rfl⟩) (fun h => absurd h (by decide))
    · rw [if_neg he]; exact snd_off2 f (by omega)

end Go.Proofs.YtopmmlcjlopmaaaGreatDoor
/- A walk goes on from the place to which a step leads as the whole one does. Nothing of the program. -/
namespace Go.Proofs.YtopmmlcjlopmaaaGreatDoor
set_option linter.unusedVariables false
set_option linter.unusedSimpArgs false

end Go.Proofs.YtopmmlcjlopmaaaGreatDoor
