/- Several texts of ours in one: Hp, Hq, Hu. -/
import Derived.Test.YtopmmlcjlopmaaaGreatDoorGHfHgGc
import Derived.Test.YtopmmlcjlopmaaaGreatDoorGKaHmHn
/- A path in a variable of a law's own, beside a memory. -/
namespace Go.Proofs.YtopmmlcjlopmaaaGreatDoor
set_option linter.unusedVariables false
set_option linter.unusedSimpArgs false
open Go.ChangeShapes Go.WideShapes Go.ChangeAt Go.RowKit Go.Joins

structure Scn (w wr : World) (b : Nat) (v : Value) (P : Pth) (G : Nat → Prop) : Prop where
  box : Blk wr b (pathCells v P) 37
  nb : ¬ G b
  ge : w.heap.size ≤ b
  own : StepsOwn 99 wr w.heap.size v P.steps
  nv : ∀ i, v.ownBlock = some i → ¬ G i

section
variable {w wr w3 w4 : World} {b : Nat} {v : Value} {P : Pth} {G G' H : Nat → Prop} {m : Nat} {M : Int} {f f' : Int → Int} {tr tr' : List Int} {n n' : Nat}

theorem StepsOwn.down {e : TypeId} {B B' : Nat} {S : List (Int × Int × Int)} (h : StepsOwn e wr B v S) (hB : B' ≤ B) : StepsOwn e wr B' v S := by
  refine ⟨h.1, ?_⟩
  rcases h.2 with h2 | ⟨g, cap, cur, hv, hb, r⟩
  · exact Or.inl h2
  · exact Or.inr ⟨g, cap, cur, hv, Nat.le_trans hB hb, r⟩

/-- a path that a call answered is laid in a new variable -/
theorem Scn.new (h : Wk w wr (From w.heap.size) m M f tr n G) (hS : StepsOwn 99 wr w.heap.size v P.steps) (hv : ∀ i, v.ownBlock = some i → ¬ G i) :
    Scn w (wr.alloc (.cells (pathCells v P) 37)) wr.heap.size v P G ∧ Wk w (wr.alloc (.cells (pathCells v P) 37)) (From w.heap.size) m M f tr n G :=
  ⟨⟨Blk.new _ _ _, fun hg => by have := (h.foot _ hg).1; omega, h.turn.size, hS.below (below_alloc1 _ _), hv⟩, h.quiet (below_alloc1 _ _)⟩
theorem Scn.turn (h : Scn w wr b v P G) (ht : Turn H wr w3) (hb : ¬ H b) (hv : ∀ i, v.ownBlock = some i → ¬ H i) : Scn w w3 b v P G :=
  ⟨h.box.turn ht hb, h.nb, h.ge, h.own.turn ht hv, h.nv⟩
theorem Scn.step (h : Scn w wr b v P G) (k : Wk wr w4 G m M f' tr' n' G') : Scn w w4 b v P G' :=
  ⟨h.box.turn k.turn h.nb, k.free h.nb h.box.lt, h.ge, h.own.turn k.turn h.nv, fun i hi => k.free (h.nv i hi) (h.own.lt hi).2⟩
theorem Scn.quiet (h : Scn w wr b v P G) (hb : Below wr.heap.size wr w3) : Scn w w3 b v P G :=
  ⟨h.box.below hb, h.nb, h.ge, h.own.below hb, h.nv⟩
/-- a step of it -/
theorem Scn.cells {A : Option Addr} {L c : Nat} (h : Scn w wr b (.slice A L c) P G) {k : Nat} (hk : k < P.steps.length) : ∃ ad, A = some ad ∧ wr.cell? (ad.add (k * 3)) = some (.int .i64 (stepAt P.steps k).1) ∧ wr.cell? ⟨(ad.add (k * 3)).block, (ad.add (k * 3)).off + 1, none⟩ = some (.int .u64 (stepAt P.steps k).2.1) ∧ wr.cell? ⟨(ad.add (k * 3)).block, (ad.add (k * 3)).off + 2, none⟩ = some (.int .u64 (stepAt P.steps k).2.2) := by
  obtain ⟨A', c', hv, hc⟩ := h.own.into
  obtain ⟨ad, hA, d0, d1, d2⟩ := hc k hk
  simp at hv
  exact ⟨ad, hv.1.trans hA, d0, d1, d2⟩
end
end Go.Proofs.YtopmmlcjlopmaaaGreatDoor
/- Contracts of package walk: set, Mark. -/
namespace Go.Proofs.YtopmmlcjlopmaaaGreatDoor
set_option linter.unusedVariables false
set_option linter.unusedSimpArgs false
open Go.ChangeShapes Go.WideShapes Go.ChangeAt Go.RowKit Go.Joins

/-- a slot's word with bits set -/
def orS (M : Int) (f : Int → Int) (s y : Int) : Int → Int := if errS M s = 0 then updF f (s / 8) (bits .or .u64 (f (s / 8)) y) else f

theorem or_same {x y : Int} (hx : W64 x) (hy : W64 y) (h : bits .and .u64 x y = y) : bits .or .u64 x y = x := by
  apply tb_ext (w64_bits _ _ _) hx
  intro i hi
  have e := tb_and hx.1 hy.1 i
  rw [h] at e
  rw [tb_or hx.1 hy.1]
  cases hb : tb x i
  · rw [hb] at e; simp [hi] at e; rw [e]; simp [hi]
  · simp [hi]

theorem upd_same (f : Int → Int) (s : Int) : updF f s (f s) = f := by
  funext j
  unfold updF
  split
  · rename_i h; rw [h]
  · rfl

theorem w64_32 : W64 32 := ⟨by decide, by decide⟩
theorem w64_96 : W64 96 := ⟨by decide, by decide⟩

theorem set_any8 {w : World} {F : Nat → Prop} {m : Nat} {M : Int} {f : Int → Int} {tr : List Int} {n : Nat} (h : Mem w F m M f tr n) (hn : n < 1000000) (s y : Int) (hs : W64 s) (hy : W64 y) :
    Calls Tryz.prog 49 #[.pointer (some ⟨m, 0, none⟩), .int .u64 s, .int .u64 y] w fun e w' => ∃ b, e = .returned (.bool b) ∧ Mem w' (Since F w) m M (orS M f s y) tr (n + 1) ∧ Turn F w w' := by
  have CP := mpeek_any h s hs
  by_cases he : errS M s = 0
  · rw [he, show peekV M f s = f (s / 8) from if_pos he] at CP
    rw [show orS M f s y = updF f (s / 8) (bits .or .u64 (f (s / 8)) y) from if_pos he]
    have hw := h.words (s / 8)
    by_cases hb : bits .and .u64 (f (s / 8)) y = y
    · rw [or_same hw hy hb, upd_same]
      have HM := Lib.hid ((h.mono (G := Since F w) fun i hi => Or.inl hi).more (Nat.le_succ n))
      have hb2 : (bits .and .u64 (f (s / 8)) y == y) = true := by simpa using hb
      clear h he hb
      generalize f (s / 8) = x at *
      go_enter Tryz.func49, Tryz.ntmps49
      go_wp2_with (go_at_call 38; refine CP.mono ?_; rintro e w' ⟨rfl, rfl⟩)
      go_ret
      exact ⟨_, rfl, HM.out, Turn.refl _ _⟩
    · have CS := mstore_any h hn s (bits .or .u64 (f (s / 8)) y) hs (w64_bits _ _ _)
      rw [he, show storeS M f s (bits .or .u64 (f (s / 8)) y) = updF f (s / 8) (bits .or .u64 (f (s / 8)) y) from if_pos he] at CS
      have hb2 : (bits .and .u64 (f (s / 8)) y == y) = false := by simpa using hb
      clear h he hb
      generalize f (s / 8) = x at *
      go_enter Tryz.func49, Tryz.ntmps49
      go_wp2_with (first | (go_at_call 38; refine CP.mono ?_; rintro e w' ⟨rfl, rfl⟩) | (go_at_call 26; refine CS.mono ?_; rintro e w2 ⟨rfl, hM2, hT2⟩))
      go_ret
      exact ⟨_, rfl, hM2, hT2⟩
  · rw [show orS M f s y = f from if_neg he]
    have HM := Lib.hid ((h.mono (G := Since F w) fun i hi => Or.inl hi).more (Nat.le_succ n))
    have hb2 : (errS M s != 0) = true := by simpa using he
    clear h he
    go_enter Tryz.func49, Tryz.ntmps49
    go_wp2_with (go_at_call 38; refine CP.mono ?_; rintro e w' ⟨rfl, rfl⟩)
    go_ret
    exact ⟨_, rfl, HM.out, Turn.refl _ _⟩

/-- the bits that are set in the slot of the step k -/
def flagN (L : Nat) (full : Bool) (k : Nat) : Int := if (full && decide (k + 1 = L)) = true then 96 else 32
/-- the memory behind the first k steps -/
def markN (M : Int) (f : Int → Int) (S : List (Int × Int × Int)) (full : Bool) : Nat → (Int → Int)
  | 0 => f
  | k + 1 => orS M (markN M f S full k) (stepAt S k).2.1 (flagN S.length full k)

theorem w64_flag (L : Nat) (full : Bool) (k : Nat) : W64 (flagN L full k) := by unfold flagN; split; exact w64_96; exact w64_32

/-- Mark, in its loop -/
structure Mk (w wr : World) (F : Nat → Prop) (m : Nat) (M : Int) (f : Int → Int) (tr : List Int) (n : Nat) (v : Value) (S : List (Int × Int × Int)) (cs : Array Value) (G : Nat → Prop) : Prop where
  wk : Wk w wr F m M f tr n G
  box : Blk wr w.heap.size cs 37
  nb : ¬ G w.heap.size
  own : StepsOwn 99 wr 0 v S
  nv : ∀ i, v.ownBlock = some i → ¬ G i

section
variable {w wr w3 : World} {F G : Nat → Prop} {m : Nat} {M : Int} {f f' : Int → Int} {tr tr' : List Int} {n n' : Nat} {v : Value} {S : List (Int × Int × Int)} {cs : Array Value}
theorem Mk.quiet (h : Mk w wr F m M f tr n v S cs G) (hb : Below wr.heap.size wr w3) : Mk w w3 F m M f tr n v S cs G := ⟨h.wk.quiet hb, h.box.below hb, h.nb, h.own.below hb, h.nv⟩
theorem Mk.step (h : Mk w wr F m M f tr n v S cs G) (hm : Mem w3 (Since G wr) m M f' tr' n') (ht : Turn G wr w3) : ∃ G', Mk w w3 F m M f' tr' n' v S cs G' :=
  ⟨_, h.wk.step hm ht, h.box.turn ht h.nb, step_free h.nb h.box.lt, h.own.turn ht h.nv, fun i hi => step_free (h.nv i hi) (h.own.lt hi).2⟩
theorem Mk.start (h : Mem w F m M f tr n) (hS : StepsOwn 99 w 0 v S) (hv : ∀ i, v.ownBlock = some i → ¬ F i) (cs : Array Value) : Mk w (w.alloc (.cells cs 37)) F m M f tr n v S cs (fun i => F i ∧ i < w.heap.size) :=
  ⟨(Wk.start h).quiet (below_alloc1 _ _), Blk.new _ _ _, fun h => by omega, hS.below (below_alloc1 _ _), fun i hi hf => hv i hi hf.1⟩
end

set_option maxRecDepth 100000 in
set_option maxHeartbeats 3200000 in
theorem mark_any {w : World} {F : Nat → Prop} {m : Nat} {M : Int} {f : Int → Int} {tr : List Int} {n : Nat} (h : Mem w F m M f tr n) (A : Option Addr) (L c : Nat) (S : List (Int × Int × Int)) (hL : S.length = L) (hS : StepsOwn 99 w 0 (.slice A L c) S) (hv : ∀ i, (Value.slice A L c).ownBlock = some i → ¬ F i) (hl : L ≤ 1000) (hn : n < 900000) (hw : ∀ k, k < L → W64 (stepAt S k).2.1)
    (y : Int) (W U X : Bool) (lv fr : Int) (dirty : Bool) :
    Calls Tryz.prog 23 #[.pointer (some ⟨m, 0, none⟩), pathV (.slice A L c) y W U X lv fr, .bool dirty] w fun e w' => e = .returned (.tuple #[]) ∧ ∃ G, Wk w w' F m M (markN M f S (dirty && decide (y = 0)) L) tr (n + L) G := by
  have HK := Lib.hid (Mk.start h hS hv #[.slice A L c, .int .i64 y, .bool W, .bool U, .bool X, .int .i64 lv, .int .u64 fr])
  have HL := Lib.hid hL
  have HW := Lib.hid hw
  clear h hS hv hL hw
  have e6 : IntKind.i64.wrap ((L : Int) - 1) = (L : Int) - 1 := i64_wrap (by omega) (by omega)
  go_enter Tryz.func23, Tryz.ntmps23
  go_wp2
  go_loopw [16] (fun i wr => ∃ (k : Nat) (G : Nat → Prop), k ≤ L ∧ i = .int .i64 k ∧ Mk w wr F m M (markN M f S (dirty && decide (y = 0)) k) tr (n + k) (.slice A L c) S #[.slice A L c, .int .i64 y, .bool W, .bool U, .bool X, .int .i64 lv, .int .u64 fr] G) (fun i _ => (L - intOf i).toNat)
  case atStart => exact ⟨0, _, by omega, rfl, HK.out⟩
  case round =>
    obtain ⟨k, G, hk, rfl, hK⟩ := hrel
    clear HK
    have HK := Lib.hid hK
    clear hK
    obtain ⟨p0, p1, p2, p3, p4, p5, p6⟩ := HK.out.box.seven
    have hb := HK.out.box.lt
    by_cases hlt : k < L
    · obtain ⟨A', c', hv', hc⟩ := HK.out.own.into
      obtain ⟨ad, hA, d0, d1, d2⟩ := hc k (by rw [HL.out]; exact hlt)
      obtain ⟨rfl, _⟩ : A = A' ∧ True := by simp at hv'; exact ⟨hv'.1, trivial⟩
      subst hA
      have hsw := Lib.hid (HW.out k hlt)
      have HF : Hid (markN M f S (dirty && decide (y = 0)) (k + 1) = orS M (markN M f S (dirty && decide (y = 0)) k) (stepAt S k).2.1 (flagN L (dirty && decide (y = 0)) k)) := Lib.hid (by rw [← HL.out]; rfl)
      have d1' : wr.cell? ⟨(ad.add (k * 3)).block, (ad.add (k * 3)).off + 1, none⟩ = some (.int .u64 (stepAt S k).2.1) := d1
      have d2' : wr.cell? ⟨(ad.add (k * 3)).block, (ad.add (k * 3)).off + 2, none⟩ = some (.int .u64 (stepAt S k).2.2) := d2
      clear hv' hc d1 d2
      generalize (S.getD k (0, 0, 0)).1 = lk at *
      generalize (stepAt S k).2.1 = s at *
      generalize (stepAt S k).2.2 = x at *
      have HK2 := Lib.hid (HK.out.quiet (below_alloc1 wr (.cells #[.int .i64 lk, .int .u64 s, .int .u64 x] 99)))
      clear HK
      by_cases hla : k + 1 = L
      · have hl2 : ((k : Int) == (L : Int) - 1) = true := by simp; omega
        cases dirty
        · clear hla
          have HQ : Hid (orS M (markN M f S (false && decide (y = 0)) k) s 32 = markN M f S (false && decide (y = 0)) (k + 1)) := Lib.hid (by rw [HF.out, show flagN L (false && decide (y = 0)) k = 32 from rfl])
          have C := set_any8 HK2.out.wk.mem (by omega) s 32 hsw.out w64_32
          rw [HQ.out] at C
          clear HF HQ
          go_wp2_with (first | (go_at_call 49; refine C.mono ?_; rintro e w2 ⟨bb, rfl, hM2, hT2⟩; obtain ⟨G2, hK3⟩ := HK2.out.step hM2 hT2; have HK3 := Lib.hid hK3; clear hM2 hT2 hK3))
          go_roundw
          case rel => exact ⟨k + 1, G2, by omega, by go_num, HK3.out⟩
          case measure => simp [intOf]; omega
        · by_cases hy : y = 0
          · subst hy
            have HQ : Hid (orS M (markN M f S (true && decide ((0 : Int) = 0)) k) s 96 = markN M f S (true && decide ((0 : Int) = 0)) (k + 1)) := Lib.hid (by rw [HF.out, show flagN L (true && decide ((0 : Int) = 0)) k = 96 from by unfold flagN; rw [if_pos (by simp [hla])]])
            have C := set_any8 HK2.out.wk.mem (by omega) s 96 hsw.out w64_96
            rw [HQ.out] at C
            clear HF HQ
            go_wp2_with (first | (go_at_call 49; refine C.mono ?_; rintro e w2 ⟨bb, rfl, hM2, hT2⟩; obtain ⟨G2, hK3⟩ := HK2.out.step hM2 hT2; have HK3 := Lib.hid hK3; clear hM2 hT2 hK3))
            go_roundw
            case rel => exact ⟨k + 1, G2, by omega, by go_num, HK3.out⟩
            case measure => simp [intOf]; omega
          · have hy2 : (y == 0) = false := by simpa using hy
            have HQ : Hid (orS M (markN M f S (true && decide (y = 0)) k) s 32 = markN M f S (true && decide (y = 0)) (k + 1)) := Lib.hid (by rw [HF.out, show flagN L (true && decide (y = 0)) k = 32 from by unfold flagN; rw [if_neg (by simp [hy])]])
            have C := set_any8 HK2.out.wk.mem (by omega) s 32 hsw.out w64_32
            rw [HQ.out] at C
            clear HF HQ
            go_wp2_with (first | (go_at_call 49; refine C.mono ?_; rintro e w2 ⟨bb, rfl, hM2, hT2⟩; obtain ⟨G2, hK3⟩ := HK2.out.step hM2 hT2; have HK3 := Lib.hid hK3; clear hM2 hT2 hK3))
            go_roundw
            case rel => exact ⟨k + 1, G2, by omega, by go_num, HK3.out⟩
            case measure => simp [intOf]; omega
      · have hl2 : ((k : Int) == (L : Int) - 1) = false := by simp; omega
        have HQ : Hid (orS M (markN M f S (dirty && decide (y = 0)) k) s 32 = markN M f S (dirty && decide (y = 0)) (k + 1)) := Lib.hid (by rw [HF.out, show flagN L (dirty && decide (y = 0)) k = 32 from by unfold flagN; rw [if_neg (by simp [hla])]])
        have C := set_any8 HK2.out.wk.mem (by omega) s 32 hsw.out w64_32
        rw [HQ.out] at C
        clear HF HQ
        go_wp2_with (first | (go_at_call 49; refine C.mono ?_; rintro e w2 ⟨bb, rfl, hM2, hT2⟩; obtain ⟨G2, hK3⟩ := HK2.out.step hM2 hT2; have HK3 := Lib.hid hK3; clear hM2 hT2 hK3))
        go_roundw
        case rel => exact ⟨k + 1, G2, by omega, by go_num, HK3.out⟩
        case measure => simp [intOf]; omega
    · have hle : L ≤ k := by omega
      obtain rfl : k = L := by omega
      go_wp2
      go_end0
      exact ⟨rfl, G, HK.out.wk⟩
end Go.Proofs.YtopmmlcjlopmaaaGreatDoor
/- What marking does to words: only bits 5 and 6 of the steps' slots, and twice is as once. -/
namespace Go.Proofs.YtopmmlcjlopmaaaGreatDoor
set_option linter.unusedVariables false
set_option linter.unusedSimpArgs false
open Go.ChangeShapes Go.WideShapes Go.ChangeAt Go.RowKit Go.Joins

theorem tb_32 (i : Nat) : tb 32 i = decide (5 = i) := tb_pow 5 i
theorem tb_64 (i : Nat) : tb 64 i = decide (6 = i) := tb_pow 6 i
theorem or_96 : bits .or .u64 32 64 = 96 := by decide +kernel
theorem tb_96 (i : Nat) : tb 96 i = (decide (5 = i) || decide (6 = i)) := by
  rw [← or_96, tb_or (by decide) (by decide), tb_32, tb_64]
  by_cases h : i < 64
  · simp [h]
  · rw [decide_eq_false h, decide_eq_false (by omega), decide_eq_false (by omega)]; rfl

/-- g is f with some of the bits 5 and 6 set -/
structure Up (f g : Int → Int) : Prop where
  w : ∀ j, W64 (g j)
  keep : ∀ j i, tb (f j) i = true → tb (g j) i = true
  rest : ∀ j i, i ≠ 5 → i ≠ 6 → tb (g j) i = tb (f j) i

theorem Up.refl {f : Int → Int} (h : ∀ j, W64 (f j)) : Up f f := ⟨h, fun _ _ h => h, fun _ _ _ _ => rfl⟩
theorem Up.trans {f g h : Int → Int} (a : Up f g) (b : Up g h) : Up f h := ⟨b.w, fun j i hi => b.keep j i (a.keep j i hi), fun j i h5 h6 => (b.rest j i h5 h6).trans (a.rest j i h5 h6)⟩

theorem or_up {M : Int} {f : Int → Int} {s y : Int} (h : ∀ j, W64 (f j)) (hy : y = 32 ∨ y = 96) : Up f (orS M f s y) := by
  unfold orS
  have hy0 : 0 ≤ y := by rcases hy with rfl | rfl <;> decide
  by_cases he : errS M s = 0
  · rw [if_pos he]
    refine ⟨fun j => ?_, fun j i hi => ?_, fun j i h5 h6 => ?_⟩
    · unfold updF; split
      · exact w64_bits _ _ _
      · exact h j
    · unfold updF; split
      · rename_i e; subst e
        have hi64 : i < 64 := by
          by_cases c : i < 64
          · exact c
          · rw [tb_ge (h _) (by omega)] at hi; cases hi
        rw [tb_or (h _).1 hy0, hi]; simp [hi64]
      · exact hi
    · unfold updF; split
      · rename_i e; subst e
        have ey : tb y i = false := by
          rcases hy with rfl | rfl
          · rw [tb_32]; simpa using fun e => h5 e.symm
          · rw [tb_96, decide_eq_false (fun e => h5 e.symm), decide_eq_false (fun e => h6 e.symm)]; rfl
        rw [tb_or (h _).1 hy0, ey]
        by_cases c : i < 64
        · simp [c]
        · rw [tb_ge (h _) (by omega)]; simp
      · rfl
  · rw [if_neg he]; exact Up.refl h

theorem flag_or (L : Nat) (full : Bool) (k : Nat) : flagN L full k = 32 ∨ flagN L full k = 96 := by
  unfold flagN; split
  · exact Or.inr rfl
  · exact Or.inl rfl

section
variable {M : Int} {f : Int → Int} {S : List (Int × Int × Int)} {full : Bool}

theorem mark_up (h : ∀ j, W64 (f j)) : ∀ k, Up f (markN M f S full k)
  | 0 => Up.refl h
  | k + 1 => (mark_up h k).trans (or_up (mark_up h k).w (flag_or _ _ _))
theorem mark_more (h : ∀ j, W64 (f j)) (k : Nat) : ∀ d, Up (markN M f S full k) (markN M f S full (k + d))
  | 0 => Up.refl (mark_up h k).w
  | d + 1 => (mark_more h k d).trans (or_up (mark_up h (k + d)).w (flag_or _ _ _))
theorem mark_at (h : ∀ j, W64 (f j)) {k : Nat} (he : errS M (stepAt S k).2.1 = 0) : tb (markN M f S full (k + 1) ((stepAt S k).2.1 / 8)) 5 = true ∧ (full = true → k + 1 = S.length → tb (markN M f S full (k + 1) ((stepAt S k).2.1 / 8)) 6 = true) := by
  have e : markN M f S full (k + 1) ((stepAt S k).2.1 / 8) = bits .or .u64 (markN M f S full k ((stepAt S k).2.1 / 8)) (flagN S.length full k) := by
    show orS M _ _ _ _ = _
    unfold orS; rw [if_pos he]; unfold updF; rw [if_pos rfl]
  have h0 := ((mark_up (M := M) (S := S) (full := full) h k).w ((stepAt S k).2.1 / 8)).1
  rw [e]
  refine ⟨?_, fun hf hk => ?_⟩
  · rw [tb_or h0 (w64_flag _ _ _).1]
    rcases flag_or S.length full k with e | e <;> rw [e]
    · rw [tb_32]; simp
    · rw [tb_96]; simp
  · rw [tb_or h0 (w64_flag _ _ _).1, show flagN S.length full k = 96 from by unfold flagN; rw [if_pos (by simp [hf, hk])], tb_96]; simp
theorem mark_has (h : ∀ j, W64 (f j)) {k L : Nat} (hk : k < L) (he : errS M (stepAt S k).2.1 = 0) : tb (markN M f S full L ((stepAt S k).2.1 / 8)) 5 = true ∧ (full = true → k + 1 = S.length → tb (markN M f S full L ((stepAt S k).2.1 / 8)) 6 = true) := by
  obtain ⟨d, rfl⟩ : ∃ d, L = k + 1 + d := ⟨L - (k + 1), by omega⟩
  have hu := mark_more (M := M) (S := S) (full := full) h (k + 1) d
  obtain ⟨a, b⟩ := mark_at (full := full) h he
  exact ⟨hu.keep _ _ a, fun hf hl => hu.keep _ _ (b hf hl)⟩
theorem mark_fix {g : Int → Int} (hg : ∀ j, W64 (g j)) (L : Nat) (h : ∀ k, k < L → errS M (stepAt S k).2.1 = 0 → bits .and .u64 (g ((stepAt S k).2.1 / 8)) (flagN S.length full k) = flagN S.length full k) : ∀ k, k ≤ L → markN M g S full k = g
  | 0, _ => rfl
  | k + 1, hk => by
    show orS M (markN M g S full k) _ _ = g
    rw [mark_fix hg L h k (by omega)]
    unfold orS
    by_cases he : errS M (stepAt S k).2.1 = 0
    · rw [if_pos he, or_same (hg _) (w64_flag _ _ _) (h k (by omega) he), upd_same]
    · rw [if_neg he]
theorem mark_twice (h : ∀ j, W64 (f j)) : markN M (markN M f S full S.length) S full S.length = markN M f S full S.length := by
  refine mark_fix (mark_up h _).w S.length (fun k hk he => ?_) _ (Nat.le_refl _)
  obtain ⟨a, b⟩ := mark_has (full := full) h hk he
  have hw := (mark_up (M := M) (S := S) (full := full) h S.length).w ((stepAt S k).2.1 / 8)
  apply tb_ext (w64_bits _ _ _) (w64_flag _ _ _)
  intro i hi
  rw [tb_and hw.1 (w64_flag _ _ _).1]
  by_cases c : (full && decide (k + 1 = S.length)) = true
  · have e : flagN S.length full k = 96 := by unfold flagN; rw [if_pos c]
    simp at c
    rw [e, tb_96]
    by_cases h5 : 5 = i
    · subst h5; rw [a]; rfl
    · by_cases h6 : 6 = i
      · subst h6; rw [b c.1 c.2]; rfl
      · simp [h5, h6]
  · have e : flagN S.length full k = 32 := by unfold flagN; rw [if_neg c]
    rw [e, tb_32]
    by_cases h5 : 5 = i
    · subst h5; rw [a]; rfl
    · simp [h5]
end

theorem slot_w8 {s : Int} (h1 : errS 16 s = 0) (h2 : 0 ≤ s) : W64 s := by
  have h3 := (errS_in h1).1
  have h4 : sizeM 16 = 65536 := by decide
  unfold W64; omega
end Go.Proofs.YtopmmlcjlopmaaaGreatDoor
