/- Walks through words that are alike but for A and D. Two memories that turn by turns; a path beside both. -/
import Derived.Test.YtlpjbmlkpmhdlaaDoorHu
import Derived.Test.YtlpjbmlkpmhdlaaDoorHs
namespace Go.Proofs.YtlpjbmlkpmhdlaaDoor
set_option linter.unusedVariables false
set_option linter.unusedSimpArgs false
open Go.ChangeShapes Go.WideShapes Go.ChangeAt Go.RowKit Go.Joins

/-- two words alike but for the bits 5 and 6 -/
structure Al (x y : Int) : Prop where
  wx : W64 x
  wy : W64 y
  rest : ∀ i, i ≠ 5 → i ≠ 6 → tb x i = tb y i

theorem al_and {x y m : Int} (h : Al x y) (hm : W64 m) (h5 : tb m 5 = false) (h6 : tb m 6 = false) : bits .and .u64 x m = bits .and .u64 y m := by
  apply tb_ext (w64_bits _ _ _) (w64_bits _ _ _)
  intro i hi
  rw [tb_and h.wx.1 hm.1, tb_and h.wy.1 hm.1]
  by_cases e5 : i = 5
  · rw [e5, h5]; simp
  · by_cases e6 : i = 6
    · rw [e6, h6]; simp
    · rw [h.rest i e5 e6]
theorem al_mask {x y : Int} (h : Al x y) (lo n : Int) (hl : 6 < lo ∨ lo + n ≤ 5) : bits .and .u64 x (maskF lo n) = bits .and .u64 y (maskF lo n) := by
  apply al_and h (w64_mask _ _)
  · rw [tb_mask]
    rcases hl with hl | hl
    · rw [decide_eq_false (show ¬ lo ≤ ((5 : Nat) : Int) by omega)]; simp
    · rw [decide_eq_false (show ¬ ((5 : Nat) : Int) < lo + n by omega)]; simp
  · rw [tb_mask]
    rcases hl with hl | hl
    · rw [decide_eq_false (show ¬ lo ≤ ((6 : Nat) : Int) by omega)]; simp
    · rw [decide_eq_false (show ¬ ((6 : Nat) : Int) < lo + n by omega)]; simp
theorem al_bit {x y : Int} (h : Al x y) (i : Int) (hl : 6 < i ∨ i + 1 ≤ 5) : bitF x i = bitF y i := by unfold bitF; rw [al_mask h i 1 hl]
theorem al_has {x y : Int} (h : Al x y) (lo n : Int) (hl : 6 < lo) : hasF x (maskF lo n) = hasF y (maskF lo n) := by unfold hasF; rw [al_mask h lo n (Or.inl hl)]
theorem al_table {x y : Int} (h : Al x y) : tableF x = tableF y := by rw [← table_and h.wx, ← table_and h.wy, al_mask h 12 40 (Or.inl (by omega))]
theorem al_leaf {x y : Int} (h : Al x y) (l : Int) : leafF x l = leafF y l := by unfold leafF; rw [al_bit h 7 (Or.inl (by omega))]
theorem al_frame {x y : Int} (h : Al x y) (l : Int) : frameF x l = frameF y l := by unfold frameF; rw [al_leaf h, al_table h]
theorem al_res {x y : Int} (h : Al x y) (l b : Int) (nxe : Bool) : resF x l b nxe = resF y l b nxe := by
  unfold resF beyondF
  rw [al_has h (lowB b) (52 - lowB b) (by unfold lowB; split <;> omega), al_bit h 63 (Or.inl (by omega)), al_bit h 7 (Or.inl (by omega)), al_has h 13 8 (by omega), al_has h 13 17 (by omega)]
theorem al_bare {x y : Int} (h : Al x y) : bareF x = bareF y := by
  unfold bareF
  apply tb_ext (w64_bits _ _ _) (w64_bits _ _ _)
  intro i hi
  rw [tb_andNot h.wx.1 (by decide), tb_andNot h.wy.1 (by decide), tb_96]
  by_cases e5 : 5 = i
  · simp [e5]
  · by_cases e6 : 6 = i
    · simp [e6]
    · rw [h.rest i (fun e => e5 e.symm) (fun e => e6 e.symm)]
theorem Al.refl {x : Int} (h : W64 x) : Al x x := ⟨h, h, fun _ _ _ => rfl⟩
theorem Al.trans {x y z : Int} (a : Al x y) (b : Al y z) : Al x z := ⟨a.wx, b.wy, fun i h5 h6 => (a.rest i h5 h6).trans (b.rest i h5 h6)⟩
theorem Up.al {f g : Int → Int} (h : Up f g) (hf : ∀ j, W64 (f j)) (j : Int) : Al (f j) (g j) := ⟨hf j, h.w j, fun i h5 h6 => (h.rest j i h5 h6).symm⟩
/-- a word with A and D turned -/
theorem al_turn {x t : Int} (hx : W64 x) (h0 : 0 ≤ t) (h4 : t < 4) : Al x (bits .xor .u64 x (t * 32)) := by
  refine ⟨hx, w64_bits _ _ _, fun i h5 h6 => ?_⟩
  have e : tb (t * 32) i = false := by
    have : t = 0 ∨ t = 1 ∨ t = 2 ∨ t = 3 := by omega
    rcases this with rfl | rfl | rfl | rfl
    · exact tb_zero i
    · rw [show (1 : Int) * 32 = 32 from rfl, tb_32]; simpa using fun e => h5 e.symm
    · rw [show (2 : Int) * 32 = 64 from rfl, tb_64]; simpa using fun e => h6 e.symm
    · rw [show (3 : Int) * 32 = 96 from rfl, tb_96, decide_eq_false (fun e => h5 e.symm), decide_eq_false (fun e => h6 e.symm)]; rfl
  rw [tb_xor hx.1 (by omega), e]
  by_cases c : i < 64
  · simp [c]
  · rw [tb_ge hx (by omega)]; simp

/-- two walks alike but for A and D -/
structure AlP (P Q : Pth) : Prop where
  why : P.why = Q.why
  W : P.W = Q.W
  U : P.U = Q.U
  X : P.X = Q.X
  lev : P.lev = Q.lev
  fr : P.fr = Q.fr
  len : P.steps.length = Q.steps.length
  at_ : ∀ i, i < P.steps.length → (stepAt P.steps i).1 = (stepAt Q.steps i).1 ∧ (stepAt P.steps i).2.1 = (stepAt Q.steps i).2.1 ∧ bareF (stepAt P.steps i).2.2 = bareF (stepAt Q.steps i).2.2

theorem AlP.refl (P : Pth) : AlP P P := ⟨rfl, rfl, rfl, rfl, rfl, rfl, rfl, fun _ _ => ⟨rfl, rfl, rfl⟩⟩
theorem alp_cons {P Q : Pth} {l s x y : Int} (h : AlP P Q) (hx : bareF x = bareF y) : AlP (preP [(l, s, x)] P) (preP [(l, s, y)] Q) := by
  refine ⟨h.why, h.W, h.U, h.X, h.lev, h.fr, by simp [preP, h.len], fun i hi => ?_⟩
  rcases i with _ | i
  · exact ⟨rfl, rfl, hx⟩
  · have := h.at_ i (by simp [preP] at hi; omega)
    simpa [preP, stepAt] using this
theorem same_of {S T : List (Int × Int × Int)} : ∀ k, (∀ i, i < k → (stepAt S i).1 = (stepAt T i).1 ∧ (stepAt S i).2.1 = (stepAt T i).2.1 ∧ bareF (stepAt S i).2.2 = bareF (stepAt T i).2.2) → sameN S T k = true
  | 0, _ => rfl
  | k + 1, h => by
    obtain ⟨a, b, c⟩ := h k (by omega)
    unfold sameN
    rw [same_of k (fun i hi => h i (by omega)), a, b, c]; simp

theorem walk_alike {f h : Int → Int} (hA : ∀ j, Al (f j) (h j)) (a : Int) (nxe : Bool) : ∀ (n : Nat), n ≤ 4 → ∀ (t : Int) (W U X : Bool), AlP (walkZ 16 f a nxe n t W U X) (walkZ 16 h a nxe n t W U X)
  | 0, _, t, W, U, X => by rw [walk_off (by omega), walk_off (by omega)]; exact AlP.refl _
  | n + 1, hn, t, W, U, X => by
    rw [walk_in (by omega) (by omega), walk_in (by omega) (by omega)]
    by_cases he : errS 16 (slotF t a ((n + 1 : Nat) : Int)) = 0
    · rw [if_pos he, if_pos he]
      have hx := hA (slotF t a ((n + 1 : Nat) : Int) / 8)
      refine alp_cons ?_ (al_bare hx)
      generalize f (slotF t a ((n + 1 : Nat) : Int) / 8) = x at *
      generalize h (slotF t a ((n + 1 : Nat) : Int) / 8) = y at *
      have e0 := al_bit hx 0 (Or.inr (by omega))
      have e1 := al_bit hx 1 (Or.inr (by omega))
      have e2 := al_bit hx 2 (Or.inr (by omega))
      have e63 := al_bit hx 63 (Or.inl (by omega))
      unfold onP
      rw [e0, e1, e2, e63, al_res hx, al_leaf hx, al_frame hx, al_table hx]
      split
      · exact AlP.refl _
      · split
        · exact AlP.refl _
        · split
          · exact AlP.refl _
          · rw [show (((n + 1 : Nat) : Int)) - 1 = (n : Int) by omega]
            exact walk_alike hA a nxe n (by omega) _ _ _ _
    · rw [if_neg he, if_neg he]; exact AlP.refl _

/-- two memories that turn by turns -/
structure Par (w wr : World) (mk : Nat) (h : Int → Int) (tk : List Int) (nk : Nat) (G : Nat → Prop) (m : Nat) (f : Int → Int) (tm : List Int) (nm : Nat) (H : Nat → Prop) : Prop where
  k : Wk w wr (From w.heap.size) mk 16 h tk nk G
  m : Wk w wr (From w.heap.size) m 16 f tm nm H
  free : ∀ i, G i → ¬ H i
  sh : Shifts wr

section
variable {w wr w3 w4 : World} {mk m nk nm nk' : Nat} {h h' f : Int → Int} {tk tk' tm : List Int} {G G' H : Nat → Prop}
theorem Par.swap (p : Par w wr mk h tk nk G m f tm nm H) : Par w wr m f tm nm H mk h tk nk G := ⟨p.m, p.k, fun i hi hg => p.free i hg hi, p.sh⟩
theorem Par.quiet (p : Par w wr mk h tk nk G m f tm nm H) (hb : Below wr.heap.size wr w3) : Par w w3 mk h tk nk G m f tm nm H := ⟨p.k.quiet hb, p.m.quiet hb, p.free, shifts_under p.sh hb (size_shifts p.sh)⟩
theorem Par.step (p : Par w wr mk h tk nk G m f tm nm H) (hz : 0 < w.heap.size) (s : Wk wr w4 G mk 16 h' tk' nk' G') : Par w w4 mk h' tk' nk' G' m f tm nm H :=
  ⟨p.k.join s, p.m.other s.turn (fun i _ hg hh => p.free i hg hh) (fun i hi => (p.k.foot i hi).2), fun i hg hh => by
    rcases (s.foot i hg).2 with h1 | h1
    · exact p.free i h1 hh
    · have := (p.m.foot i hh).1; omega, shifts_turn p.sh s.turn (p.k.no0 hz)⟩
theorem wk_store {M : Int} (hm : Mem w3 (Since G wr) mk M h' tk' nk') (ht : Turn G wr w3) : Wk wr w3 G mk M h' tk' nk' (fun i => Since G wr i ∧ i < w3.heap.size) := by
  refine ⟨?_, fun i hi => ⟨hi.2, hi.1⟩, ht⟩
  obtain ⟨mb, v, D, hM, hF⟩ := hm
  exact ⟨mb, v, D, hM, fun i hi => ⟨hF i hi, hM.own_lt hi⟩⟩
end

/-- a path in a variable, beside blocks that turn -/
structure Pat (wr : World) (b : Nat) (v : Value) (P : Pth) (G H : Nat → Prop) : Prop where
  box : Blk wr b (pathCells v P) 38
  nb : ¬ G b ∧ ¬ H b
  own : StepsOwn 77 wr 0 v P.steps
  nv : ∀ i, v.ownBlock = some i → ¬ G i ∧ ¬ H i

section
variable {w wr w3 w4 : World} {B b mk m nk nm nk' : Nat} {v : Value} {P : Pth} {h h' f : Int → Int} {tk tk' tm : List Int} {G G' H : Nat → Prop}
theorem Pat.swap (p : Pat wr b v P G H) : Pat wr b v P H G := ⟨p.box, ⟨p.nb.2, p.nb.1⟩, p.own, fun i hi => ⟨(p.nv i hi).2, (p.nv i hi).1⟩⟩
theorem Pat.quiet (p : Pat wr b v P G H) (hb : Below wr.heap.size wr w3) : Pat w3 b v P G H := ⟨p.box.below hb, p.nb, p.own.below hb, p.nv⟩
theorem Pat.step (p : Pat wr b v P G H) (s : Wk wr w4 G mk 16 h' tk' nk' G') : Pat w4 b v P G' H :=
  ⟨p.box.turn s.turn p.nb.1, ⟨s.free p.nb.1 p.box.lt, p.nb.2⟩, p.own.turn s.turn (fun i hi => (p.nv i hi).1), fun i hi => ⟨s.free (p.nv i hi).1 (p.own.lt hi).2, (p.nv i hi).2⟩⟩
/-- a path that a walk through the memory mk answered is laid in a new variable -/
theorem Pat.new (q : Par w wr mk h tk nk G m f tm nm H) (hs : StepsOwn 77 wr B v P.steps) (hv : ∀ i, v.ownBlock = some i → ¬ G i) (hH : ∀ i, v.ownBlock = some i → ¬ H i) :
    Pat (wr.alloc (.cells (pathCells v P) 38)) wr.heap.size v P G H :=
  ⟨Blk.new _ _ _, ⟨fun hg => by have := (q.k.foot _ hg).1; omega, fun hg => by have := (q.m.foot _ hg).1; omega⟩, (hs.down (Nat.zero_le _)).below (below_alloc1 _ _), fun i hi => ⟨hv i hi, hH i hi⟩⟩
end

/-- Same of two walks that are alike -/
theorem same_alike {w : World} {P Q : Pth} (h : AlP P Q) (A A' : Option Addr) (c c' : Nat) (hl : P.steps.length ≤ maxLen) (h1 : StepsIn w (.slice A P.steps.length c) P.steps) (h2 : StepsIn w (.slice A' Q.steps.length c') Q.steps) :
    Calls Tryd.prog 21 #[pathV (.slice A P.steps.length c) P.why P.W P.U P.X P.lev P.fr, pathV (.slice A' Q.steps.length c') Q.why Q.W Q.U Q.X Q.lev Q.fr] w fun e w' => e = .returned (.bool true) ∧ Below w.heap.size w w' := by
  rw [← h.why, ← h.W, ← h.U, ← h.X, ← h.lev, ← h.fr, ← h.len]
  rw [← h.len] at h2
  have := same_yes w A A' P.steps.length c c' P.steps Q.steps P.why P.W P.U P.X P.lev P.fr rfl h.len.symm h1 h2 hl
  rw [same_of _ h.at_] at this
  exact this
end Go.Proofs.YtlpjbmlkpmhdlaaDoor
