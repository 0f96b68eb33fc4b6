/- Several texts of ours in one: Si, Wn, Dg. -/
import Derived.RangeFuncBox
import Derived.RangeFuncNested
import Derived.RangeFuncBound
import Derived.RangeFuncCalls
import Derived.RangeFuncLeaves
import Derived.RangeFuncStops
import Derived.RangeFuncOne
import Derived.Sort.MapsRangeIn
import Derived.Maps.OwnIn
import Derived.Shelf.Abstract
import Derived.Shelf.RegionOpen
import Derived.WalkKit
import Derived.OwnWalkIn
import Derived.TacticsInMore
import Derived.RegionIn
import Derived.LoopNIn
import Derived.LoopIn
import Derived.Maps.AppendAt
import Derived.Test.YtopmmlcjlopmaaaGreatDoorGMcWmMd
import Derived.Test.YtopmmlcjlopmaaaGreatDoorGSqScSd
import Derived.Test.YtopmmlcjlopmaaaGreatDoorGKpFbFh
import Derived.Test.YtopmmlcjlopmaaaGreatDoorGDpWaWr
import Derived.Deep.RegionHeld3
import Derived.ChangeKeysEq
import Derived.Laws.Rows
import Derived.Laws.StructEq
import Derived.BigQuiet
/- maps.Keys over the pages of a memory, slices.AppendSeq and slices.Collect at uint64. -/
namespace Go.Proofs.YtopmmlcjlopmaaaGreatDoor
set_option linter.unusedVariables false
set_option linter.unusedSimpArgs false
open Go.RowKit Go.Shelf Go.Maps

attribute [local go_sem] Oper.semAt_some

/-- the numbers ks are the keys of D, each once -/
def KeyList (D : Dw) (ks : List Int) : Prop := ks.Nodup ∧ ∀ x, x ∈ ks ↔ has D (.int .u64 x) = true

/-- those of D that are no longer to come are ss -/
def CollU (D : Dw) (left : Lit → Bool) (ss : List Int) : Prop := ss.Nodup ∧ ∀ x, x ∈ ss ↔ (has D (.int .u64 x) = true ∧ left (.int .u64 x) = false)

theorem CollU.start (D : Dw) : CollU D (has D) [] := ⟨List.nodup_nil, fun x => by cases has D (.int .u64 x) <;> simp⟩
theorem CollU.step {D : Dw} {left : Lit → Bool} {ss : List Int} (h : CollU D left ss) {x : Int} {y : Dw} (hlk : left (.int .u64 x) = true) (hat : ∀ zd, D.atKey (.int .u64 x) zd = y) : CollU D (fun z => left z && !z.sameKey (.int .u64 x)) (ss ++ [x]) := by
  have hhas : has D (.int .u64 x) = true := has_true_of_atKey hat
  have hnew : x ∉ ss := fun hx => by have := ((h.2 x).1 hx).2; rw [hlk] at this; cases this
  refine ⟨List.nodup_append.2 ⟨h.1, by simp, fun a ha b hb => by simp at hb; subst hb; exact fun e => hnew (e ▸ ha)⟩, fun y => ?_⟩
  by_cases hy : y = x
  · subst hy; simp [hhas, Lit.sameKey]
  · simp [h.2 y, hy, Lit.sameKey]

set_option maxRecDepth 100000 in
set_option maxHeartbeats 1000000 in
theorem keys1_in (F : Fence) (n : Nat) (h10 : F.fn 118) (hro : F.round = none) (hn : 1 ≤ n) (l Bm b nn : Nat) (D0 : Dw) (J Jx : List Int → World → Prop)
    (hY : ∀ pre x W, J pre W → pre.length < Maps.size D0 → YieldAt F (n - 1) Tryz.prog l #[Value.int .u64 x] W fun e W' =>
      (e = .returned (.bool true) ∧ J (pre ++ [x]) W' ∧ KeepsWalks W W') ∨ (e = .returned (.bool false) ∧ Jx (pre ++ [x]) W'))
    (W : World) (hJ : AbidesFrom W.heap.size J) (hm : W.cell? ⟨Bm, 0, none⟩ = some (.map (some b))) (hown : W.ownsMap Tryz.prog 23 ptrElem b nn D0) (h0 : J [] W) :
    CallsIn F n Tryz.prog 118 #[.func (.yield l) #[] #[], .pointer (some ⟨Bm, 0, none⟩)] W fun e W' => (∃ v, e = .returned v) ∧
      ((∃ ss : List Int, KeyList D0 ss ∧ J ss W') ∨ (∃ pre : List Int, True ∧ Jx pre W')) := by
  refine callsIn_of_wp Tryz.func118 rfl h10 ?_ hro
  simp only [Tryz.ntmps118, List.size_toArray, List.length_cons, List.length_nil, Nat.reduceAdd, Nat.reduceSub, Array.replicate_succ, Array.replicate_zero, List.push_toArray, List.append_toArray, List.nil_append, List.cons_append]
  gi_wp2_with (first
    | (gi_at_range; refine wpListIn_range_own _ rfl _ 105 rfl 23 108 law64 Tryz.underlying105 _ b nn _ rfl hown ?_; intro w0 hrg0 hg0 hs0)
    | gi_in)
  go_frame
  gi_loopw [3] (fun _ wr => ∃ (left : Lit → Bool) (cnt : Nat) (ss : List Int), wr.ranges Tryz.prog 23 ptrElem b W.heap.size nn D0 left cnt ∧ ss.length + cnt ≤ Maps.size D0 ∧ CollU D0 left ss ∧ J ss wr)
    (fun _ wr => wr.rangeLeft b W.heap.size)
  case atStart =>
    exact ⟨_, _, [], hrg0, by simp, CollU.start D0, hJ [] W w0 none h0 hg0 (fun r e => by cases e)⟩
  case round =>
    obtain ⟨left, cnt, ss, hrg, hcs, hC, hJs⟩ := hrel
    gi_wp2_with (first
      | (gi_at_next; refine wpListIn_next_ranges _ rfl _ rfl 23 law64 ptrElem (Value.int .u64) Value.pointer (fun key kl hk => by obtain ⟨x, hx, _⟩ := Maps.keyOf_int_inv Tryz.underlying23 hk; exact ⟨x, hx⟩) (fun v y hv => by unfold ptrElem at hv; split at hv; exact ⟨_, rfl⟩; exact ⟨_, rfl⟩; cases hv) b W.heap.size nn _ _ _ rfl hrg ?_ ?_)
      | gi_in)
    · intro hc0 hl0
      gi_wp2
      go_end0
      exact ⟨⟨_, rfl⟩, .inl ⟨ss, ⟨hC.1, fun x => by rw [hC.2 x, hl0]; simp⟩, hJs⟩⟩
    · intro x c kl yd yp w2 cnt2 hkey hlk hv hat hrg2 hlt hg2 hs2 hen
      obtain ⟨x', ex, rfl, _⟩ := Maps.keyOf_int_inv Tryz.underlying23 hkey
      obtain rfl : x = x' := by simpa using ex
      have hJ2 : J ss w2 := hJ ss wr w2 (some W.heap.size) hJs hg2 (fun r e => by cases e; exact ⟨Nat.le_refl _, hrg.iter_walk⟩)
      obtain ⟨fn, tmps, assign, body, hy, hR⟩ := hY ss x w2 hJ2 (by omega)
      clear hs2
      gi_wp2
      refine hR.mono ?_
      have hC2 := hC.step hlk hat
      rintro e W3 (⟨rfl, hJ3, hk3⟩ | ⟨rfl, hJx3⟩)
      · gi_wp2
        have hrg3 := hrg2.of_walks hk3
        go_roundw
        case rel => exact ⟨_, cnt2, ss ++ [x], hrg3, by simp; omega, hC2, hJ3⟩
        case measure => rw [hrg3.left_eq, hrg.left_eq]; exact hlt
      · gi_wp2
        refine bodyPost_ret (results_none rfl _ _ _) rfl ?_
        exact ⟨⟨_, rfl⟩, .inr ⟨ss ++ [x], trivial, hJx3⟩⟩

theorem keys_stops (F : Fence) (n : Nat) (h10 : F.fn 118) (hro : F.round = none) (hn : 1 ≤ n) (Bm b nn : Nat) (D0 : Dw) (w : World) (hBm : Bm < w.heap.size)
    (hm : w.cell? ⟨Bm, 0, none⟩ = some (.map (some b))) (hown : w.ownsMap Tryz.prog 23 ptrElem b nn D0) :
    SeqStopsK F n Tryz.prog 118 #[.pointer (some ⟨Bm, 0, none⟩)] (fun x : Int => #[Value.int .u64 x]) KeepsWalks (KeyList D0) (fun _ => True) (Maps.size D0) w := fun l J Jx W hW hJ _ hY h0 => by
  have hown' : W.ownsMap Tryz.prog 23 ptrElem b nn D0 := by
    have hbl := hown.lt
    obtain ⟨es, clock, hb, Ft, hs, hD⟩ := hown
    exact ⟨es, clock, (hW.block b hbl).trans hb, Ft, hs, hD⟩
  exact keys1_in F n h10 hro hn l Bm b nn D0 J Jx hY W hJ ((hW.cell (p := ⟨Bm, 0, none⟩) hBm).trans hm) hown' h0

theorem keys_any (w : World) (mb : Option Nat) : Calls Tryz.prog 93 #[.map mb] w fun e w' => e = .returned (.func (.func 118) #[] #[.pointer (some ⟨w.heap.size, 0, none⟩)]) ∧ w' = w.alloc (.cells #[.map mb] 105) := by
  go_enter Tryz.func93, Tryz.ntmps93
  go_wp2
  go_ret
  exact ⟨rfl, rfl⟩

theorem infoU64 : (Tryz.prog.info? 23).map (fun i => (i.zero, i.size, i.bytes)) = some (some (.int .u64 0), 1, 8) := by kernel_rfl

set_option maxRecDepth 100000 in
set_option maxHeartbeats 2000000 in
theorem appendSeq_in (F : Fence) (n : Nat) (h3 : F.fn 91) (h5 : F.fn 118) (hro : F.round = none) (hn : 3 ≤ n) (n0 Bm b nn : Nat) (D0 : Dw) (v0 : Value) (zs : List Int) (w : World)
    (hn0 : n0 ≤ w.heap.size) (hBm : Bm < w.heap.size) (hm : w.cell? ⟨Bm, 0, none⟩ = some (.map (some b))) (hown : w.ownsMap Tryz.prog 23 ptrElem b nn D0) (hz : w.ownsRow n0 23 1 v0 zs.length (zs.map (Value.int .u64))) (hlen : zs.length + nn ≤ 1000000) :
    CallsIn F n Tryz.prog 91 #[v0, .func (.func 118) #[] #[.pointer (some ⟨Bm, 0, none⟩)]] w fun e W' => ∃ v ks, e = .returned v ∧ KeyList D0 ks ∧ W'.ownsRow n0 23 1 v (zs ++ ks).length ((zs ++ ks).map (Value.int .u64)) ∧ Below n0 w W' := by
  have h1 : 1 ≤ n := by omega
  have hsz := hown.size_le
  obtain ⟨i0, hi, hz0, hz1, hz2⟩ := info_parts infoU64
  obtain ⟨A, cp, rfl⟩ : ∃ A cp, v0 = .slice A zs.length cp := by
    rcases hz.2 with ⟨h, h2⟩ | ⟨g, cap, cur, h, _⟩
    · exact ⟨none, 0, by rw [h, h2]⟩
    · exact ⟨_, _, h⟩
  refine callsIn_of_wp_marks Tryz.func91 rfl h3 ?_ hro
  simp only [Tryz.ntmps91, List.size_toArray, List.length_cons, List.length_nil, Nat.reduceAdd, Nat.reduceSub, Array.replicate_succ, Array.replicate_zero, List.push_toArray, List.append_toArray, List.nil_append, List.cons_append]
  gi_wp2
  have bO := _root_.Go.Boxed.new w 43 (.slice A zs.length cp)
  have hB0 : Below n0 w (w.alloc (.cells #[.slice A zs.length cp] 43)) := (Below.refl _ w).alloc hn0 _
  have hBf : Below w.heap.size w (w.alloc (.cells #[.slice A zs.length cp] 43)) := (Below.refl _ w).alloc (Nat.le_refl _) _
  refine wpIn_rangeFunc_ownG hro h1 (gf := 118) (lb := #[.pointer (some ⟨Bm, 0, none⟩)]) rfl h5 (enters_of Tryz.func118 (by kernel_rfl) rfl)
    (keys_stops F (n - 1) h5 hro (by omega) Bm b nn D0 w hBm hm hown) walksK_t walksK_b hBf (fun _ => rfl)
    (fun pre W => (∃ v, _root_.Go.Boxed W w.heap.size 43 v ∧ W.ownsRow n0 23 1 v (zs ++ pre).length ((zs ++ pre).map (Value.int .u64)) ∧ True) ∧ Below n0 w W)
    (fun _ _ _ => False)
    (OwnFrom.and (Own.from (holdsRow_own n0 w.heap.size 43 23 1 (fun pre => (zs ++ pre).length) (fun pre => (zs ++ pre).map (Value.int .u64)) (fun _ _ => True)) _) (ownFrom_below hn0 (by simp; omega)))
    (fun _ _ _ _ _ hs _ _ => hs)
    ⟨⟨_, bO, by simpa using hz.alloc _, trivial⟩, hB0⟩
    (fun x => { tmps := #[.slice A zs.length cp, .func (.func 118) #[] #[.pointer (some ⟨Bm, 0, none⟩)], .pointer (some ⟨w.heap.size, 0, none⟩), undef, .slice none 0 0, .int .u64 x, .func (.func 118) #[] #[.pointer (some ⟨Bm, 0, none⟩)], .int .u64 x, undef, undef, undef, undef, undef], defers := [] }) ?assign ?body ?done ?stop
  case assign =>
    intro l x W K hK
    gi_wp2
    exact hK
  case body =>
    rintro l pre x W ⟨⟨v, hv, hrow, _⟩, hB⟩ hlt
    have hc := hv.cell
    have hpl : (zs ++ pre).length = zs.length + pre.length := by simp
    gi_wp2_with (gi_at_builtin; refine wpListIn_append_own _ rfl _ _ 43 rfl n0 23 i0 (.int .u64 0) 1 8 Tryz.underlying43 hi hz0 hz1 hz2 rfl (by decide) _ _ _ rfl (hrow.alloc _) ⟨W.heap.size, 0, none⟩ 1 1 [.int .u64 x] rfl rfl (cell_one_new _ _ _) (by simp [Value.oneCell']) (by unfold maxLen; omega) (by omega) (by have := hB.size; simp; omega) ?_; intro v' w1 hown' hgrow _; obtain ⟨g', cap', rfl⟩ := ownsRow_succ hown'; obtain ⟨hv1, hv2, hr2, hk2, hb2⟩ := hv.appended (by decide) hrow (Nat.le_trans hn0 hB.size) hn0 hown' hgrow; have hc1 := hv1.cell; have hf1 := hv1.frozen)
    rw [hpl] at hk2 hv2 hb2 hr2
    refine ⟨hk2.from _, hk2.walks, ⟨_, hv2, ?_, trivial⟩, hB.trans hb2⟩
    rw [show (zs ++ (pre ++ [x])).length = zs.length + pre.length + 1 by simp; omega]
    simpa [List.append_assoc] using hr2
  case done =>
    rintro D ys W hD hk ⟨⟨v, hv, hrow, _⟩, hB⟩ hK
    have hc := hv.cell
    gi_wp2
    refine ⟨by simp, .inl ⟨_, _, rfl, run_takeDeferred hK, ?_⟩⟩
    exact ⟨_, results_tmp rfl _ _ _, v, ys, rfl, hk, ownsRow_putObj hrow _ hK rfl, hB.trans (belowK_b (w := w) hn0 W D _ _ (by simp at hD; omega) hK rfl rfl)⟩
  case stop =>
    rintro D c pre W _ _ h _
    exact h.elim

theorem appendSeq_any (w : World) (n0 Bm b nn : Nat) (D0 : Dw) (v0 : Value) (zs : List Int) (hn0 : n0 ≤ w.heap.size) (hBm : Bm < w.heap.size) (hm : w.cell? ⟨Bm, 0, none⟩ = some (.map (some b))) (hown : w.ownsMap Tryz.prog 23 ptrElem b nn D0) (hz : w.ownsRow n0 23 1 v0 zs.length (zs.map (Value.int .u64))) (hlen : zs.length + nn ≤ 1000000) :
    Calls Tryz.prog 91 #[v0, .func (.func 118) #[] #[.pointer (some ⟨Bm, 0, none⟩)]] w fun e W' => ∃ v ks, e = .returned v ∧ KeyList D0 ks ∧ W'.ownsRow n0 23 1 v (zs ++ ks).length ((zs ++ ks).map (Value.int .u64)) ∧ Below n0 w W' :=
  callsIn_wide.1 (appendSeq_in Fence.wide 6 trivial trivial rfl (by omega) n0 Bm b nn D0 v0 zs w hn0 hBm hm hown hz hlen)

theorem collect_any (w : World) (n0 Bm b nn : Nat) (D0 : Dw) (hn0 : n0 ≤ w.heap.size) (hBm : Bm < w.heap.size) (hm : w.cell? ⟨Bm, 0, none⟩ = some (.map (some b))) (hown : w.ownsMap Tryz.prog 23 ptrElem b nn D0) (hlen : nn ≤ 1000000) :
    Calls Tryz.prog 92 #[.func (.func 118) #[] #[.pointer (some ⟨Bm, 0, none⟩)]] w fun e W' => ∃ v ks, e = .returned v ∧ KeyList D0 ks ∧ W'.ownsRow n0 23 1 v ks.length (ks.map (Value.int .u64)) ∧ Below n0 w W' := by
  go_enter Tryz.func92, Tryz.ntmps92
  go_wp2_with fail
  refine (appendSeq_any w n0 Bm b nn D0 (.slice none 0 0) [] hn0 hBm hm hown (World.ownsRow_nil _ _ _ _) (by simpa using hlen)).mono ?_
  rintro e w1 ⟨v, ks, rfl, h1, h2, h3⟩
  go_wp2
  go_ret
  exact ⟨v, ks, rfl, h1, h2, h3⟩

end Go.Proofs.YtopmmlcjlopmaaaGreatDoor
/- mem.written: the numbers of the pages of both memories, rising. -/
namespace Go.Proofs.YtopmmlcjlopmaaaGreatDoor
set_option linter.unusedVariables false
set_option linter.unusedSimpArgs false
open Go.ChangeShapes Go.WideShapes Go.ChangeAt Go.RowKit Go.Joins

/-- block B is a variable that holds the map mb -/
def KeyBox (W : World) (B mb : Nat) : Prop := W.heap[B]? = some (.cells #[.map (some mb)] 105 (0, 0))

abbrev RegK (w w' : World) (m m' mb mb' : Nat) : Prop := w'.cell? ⟨m, 1, none⟩ = some (.map (some mb)) ∧ w'.cell? ⟨m', 1, none⟩ = some (.map (some mb')) ∧ Kept w w'

section
variable {w w1 w2 w3 w4 : World} {m m' mb mb' : Nat}
theorem regk_step (h : RegK w w1 m m' mb mb') (hb : Below w.heap.size w1 w2) (hm : m < w.heap.size) (hm' : m' < w.heap.size) : RegK w w2 m m' mb mb' :=
  ⟨(hb.cell (p := ⟨m, 1, none⟩) hm).trans h.1, (hb.cell (p := ⟨m', 1, none⟩) hm').trans h.2.1, Below.trans h.2.2 hb⟩

theorem Lst.keptL {W W' : World} {B : Nat} {v : Value} {zs : List Int} (h : Lst W B v zs) (hk : Kept W W') : Lst W' B v zs := by
  refine World.ownsRow.kept h (row := none) ⟨hk.os, hk.tape, hk.output, Below.size hk, fun k hl _ => Below.block hk k hl⟩ ?_
  cases v.ownBlock <;> simp

theorem ownsMap_kept {W W' : World} {b n : Nat} {D : Dw} (h : W.ownsMap Tryz.prog 23 ptrElem b n D) (hk : Kept W W') : W'.ownsMap Tryz.prog 23 ptrElem b n D := by
  have hbl := h.lt
  obtain ⟨es, clock, hb, Ft, hs, hD⟩ := h
  exact ⟨es, clock, (Below.block hk b hbl).trans hb, Ft, hs, hD⟩

theorem keys_reg (h : RegK w w1 m m' mb mb') (k : Nat) :
    Calls Tryz.prog 93 #[.map (some k)] w1 fun e w2 => ∃ B, e = .returned (.func (.func 118) #[] #[.pointer (some ⟨B, 0, none⟩)]) ∧ Hid (KeyBox w2 B k) ∧ Hid (Kept w1 w2) ∧ RegK w w2 m m' mb mb' := by
  refine (keys_any w1 (some k)).mono fun e w2 ⟨he, hw⟩ => ?_
  subst hw
  have hk : Kept w1 (w1.alloc (.cells #[.map (some k)] 105)) := (Below.refl _ _).alloc (Nat.le_refl _) _
  exact ⟨_, he, Lib.hid (Deep.blk_alloc_new _ _), Lib.hid hk, (Below.cell hk (cell_lt h.1)).trans h.1, (Below.cell hk (cell_lt h.2.1)).trans h.2.1, Kept.step hk h.2.2⟩

theorem collect_reg {B k n : Nat} {D : Dw} (hm : m < w.heap.size) (hm' : m' < w.heap.size) (hown : w.ownsMap Tryz.prog 23 ptrElem k n D) (hn : n ≤ 1000000) (h : RegK w w2 m m' mb mb') (hB : Hid (KeyBox w2 B k)) :
    Calls Tryz.prog 92 #[.func (.func 118) #[] #[.pointer (some ⟨B, 0, none⟩)]] w2 fun e w3 => ∃ A c ks, e = .returned (.slice A ks.length c) ∧ Hid (KeyList D ks ∧ ∀ W, Kept w3 W → Lst W w.heap.size (.slice A ks.length c) ks) ∧ RegK w w3 m m' mb mb' := by
  refine (collect_any w2 w.heap.size B k n D (Below.size h.2.2) (lt_of_block hB.out) (cell_of_one hB.out) (ownsMap_kept hown h.2.2) hn).mono fun e w3 ⟨v, ks, he, h1, h2, h3⟩ => ?_
  obtain ⟨A, c, rfl⟩ := Lst.len h2
  exact ⟨A, c, ks, he, Lib.hid ⟨h1, fun W hW => Lst.keptL h2 hW⟩, regk_step h h3 hm hm'⟩

theorem app_reg {B k n c : Nat} {D D' : Dw} {A : Option Addr} {ks : List Int} (hm : m < w.heap.size) (hm' : m' < w.heap.size) (hown : w.ownsMap Tryz.prog 23 ptrElem k n D') (hn : n ≤ 100000) (h : RegK w w4 m m' mb mb') (hC : Hid (KeyList D ks ∧ ∀ W, Kept w3 W → Lst W w.heap.size (.slice A ks.length c) ks)) (hk : Hid (Kept w3 w4)) (hl : ∀ ks, KeyList D ks → ks.length ≤ 1000) (hB : Hid (KeyBox w4 B k)) :
    Calls Tryz.prog 91 #[.slice A ks.length c, .func (.func 118) #[] #[.pointer (some ⟨B, 0, none⟩)]] w4 fun e w5 => ∃ A c zs, e = .returned (.slice A zs.length c) ∧ Hid (∃ k1 k2, zs = k1 ++ k2 ∧ KeyList D k1 ∧ KeyList D' k2) ∧ Hid (Lst w5 w.heap.size (.slice A zs.length c) zs) ∧ RegK w w5 m m' mb mb' := by
  obtain ⟨c1, c2⟩ := hC.out
  have := hl ks c1
  refine (appendSeq_any w4 w.heap.size B k n D' (.slice A ks.length c) ks (Below.size h.2.2) (lt_of_block hB.out) (cell_of_one hB.out) (ownsMap_kept hown h.2.2) (c2 _ hk.out) (by omega)).mono fun e w5 ⟨v, ks2, he, h1, h2, h3⟩ => ?_
  obtain ⟨A2, cc, rfl⟩ := Lst.len (zs := ks ++ ks2) h2
  exact ⟨A2, cc, ks ++ ks2, he, Lib.hid ⟨ks, ks2, rfl, c1, h1⟩, Lib.hid h2, regk_step h h3 hm hm'⟩
end

set_option maxRecDepth 100000 in
set_option maxHeartbeats 4000000 in
theorem written_any (w : World) {m m' mb mb' n n' : Nat} {M M' : Int} {f f' : Int → Int} {tr tr' : List Int} {v v' : Value} {D D' : Dw} (ha : Mm w m M f tr n mb v D) (hb : Mm w m' M' f' tr' n' mb' v' D') (hn : n ≤ 100000) (hn' : n' ≤ 100000)
    (hl : ∀ ks, KeyList D ks → ks.length ≤ 16) (hl' : ∀ ks, KeyList D' ks → ks.length ≤ 16) :
    Calls Tryz.prog 44 #[.pointer (some ⟨m, 0, none⟩), .pointer (some ⟨m', 0, none⟩)] w fun e w' => ∃ A c ps, e = .returned (.slice A ps.length c) ∧ ps.Pairwise (· < ·) ∧ (∀ x, x ∈ ps ↔ Maps.has D (.int .u64 x) = true ∨ Maps.has D' (.int .u64 x) = true) ∧ Lst w' w.heap.size (.slice A ps.length c) ps ∧ Below w.heap.size w w' := by
  have hm := lt_of_block ha.here
  have hm' := lt_of_block hb.here
  have c1 : w.cell? ⟨m, 1, none⟩ = some (.map (some mb)) := by simp [World.cell?, ha.here]
  have c2 : w.cell? ⟨m', 1, none⟩ = some (.map (some mb')) := by simp [World.cell?, hb.here]
  have HA := Lib.hid ha.pages
  have HB := Lib.hid hb.pages
  have HL := Lib.hid hl
  have HL2 := Lib.hid hl'
  clear ha hb hl hl'
  have HR : RegK w w.drew m m' mb mb' := ⟨c1, c2, Kept.drew0 _⟩
  go_enter Tryz.func44, Tryz.ntmps44
  go_wp2
  go_region_held3 (fun w' => w'.cell? ⟨m, 1, none⟩ = some (.map (some mb)) ∧ w'.cell? ⟨m', 1, none⟩ = some (.map (some mb')) ∧ Kept w w')
    (first | assumption | exact HR)
    (first | (go_at_call 93; refine (keys_reg (by assumption) _).mono ?_; rintro e w2 ⟨B, rfl, HB1, HK1, hH2⟩) | (go_at_call 92; refine (collect_reg hm hm' HA.out (by omega) (by assumption) (by assumption)).mono ?_; rintro e w3 ⟨A, c, ks, rfl, HC, hH3⟩) | (go_at_call 91; refine (app_reg hm hm' HB.out hn' (by assumption) (by assumption) (by assumption) (fun ks hk => Nat.le_trans (HL.out ks hk) (by decide)) (by assumption)).mono ?_; rintro e w5 ⟨A5, c5, zs, rfl, HZ, HS, hH5⟩))
  have hz50 : zs.length ≤ 32 := by
    obtain ⟨k1, k2, e, h1, h2⟩ := HZ.out
    have := HL.out _ h1
    have := HL2.out _ h2
    rw [e, List.length_append]
    omega
  have HK5 := Lib.hid (show Below w.heap.size w w5 from hH5.2.2)
  clear hH5
  go_wp2_with (first | (go_at_call 94; refine (sort_lst _ w.heap.size _ zs HS.out HK5.out.size (by omega)).mono ?_; rintro e w6 ⟨rfl, zs', hp, hs, hL6, hb6⟩; have HP := Lib.hid hp; have HSo := Lib.hid hs; have HL6 := Lib.hid hL6; have HK6 := Lib.hid (HK5.out.trans hb6); have hlen : zs'.length < 50 := (by rw [HP.out.length_eq]; omega); clear hp hs hL6 hb6) | (go_at_call 95; refine (compact_lst _ w.heap.size _ zs' HL6.out HSo.out HK6.out.size hlen).mono ?_; rintro e w7 ⟨v7, ps, rfl, hp7, hm7, hL7, hb7⟩))
  obtain ⟨A7, c7, rfl⟩ := hL7.len
  go_ret
  refine ⟨A7, c7, ps, rfl, hp7, fun x => ?_, hL7, HK6.out.trans hb7⟩
  obtain ⟨k1, k2, e, h1, h2⟩ := HZ.out
  rw [hm7, HP.out.mem_iff, e, List.mem_append, h1.2, h2.2]

end Go.Proofs.YtopmmlcjlopmaaaGreatDoor
/- (*Mem).page, and pages that are compared as a whole. -/
namespace Go.Proofs.YtopmmlcjlopmaaaGreatDoor
set_option linter.unusedVariables false
set_option linter.unusedSimpArgs false
open Go.ChangeShapes Go.WideShapes Go.ChangeAt Go.RowKit

set_option maxRecDepth 100000 in
theorem mpage_any {w : World} {m : Nat} {M : Int} {f : Int → Int} {tr : List Int} {n mb : Nat} {v : Value} {D : Dw} (h : Mm w m M f tr n mb v D) (k : Int) (hk : W64 k) :
    Calls Tryz.prog 45 #[.pointer (some ⟨m, 0, none⟩), .int .u64 k] w fun e w' => ∃ b : Nat, e = .returned (.pointer (some ⟨b, 0, none⟩)) ∧ w'.rowIs b 110 512 (fun i => .int .u64 (f (k * 512 + i))) ∧ Below w.heap.size w w' := by
  obtain ⟨c0, c1, c2, _⟩ := h.cells
  rcases h.page k with ⟨hn, hz⟩ | ⟨b, hb, hrow⟩
  · have hl := h.look_no hk hn
    have HZ := Lib.hid hz
    clear h c0 c2 hz hk
    go_enter Tryz.func45, Tryz.ntmps45
    go_wp2
    go_ret
    refine ⟨_, rfl, ⟨_, Deep.blk_alloc_new _ _, by rw [zeros_eq]; simp, fun i hi => ?_⟩, (Below.refl _ _).alloc (Nat.le_refl _) _⟩
    show _ = some (Value.int .u64 (f (k * 512 + i)))
    rw [zeros_eq, HZ.out i hi]; simp [hi]
  · have hl := h.look_yes hk hb
    have HR := Lib.hid hrow
    clear h c0 c2 hrow hk
    go_enter Tryz.func45, Tryz.ntmps45
    go_wp2
    go_ret
    exact ⟨b, rfl, HR.out, Below.refl _ _⟩

theorem pageInfo : (Tryz.prog.info? 110).map (·.size) = some 512 := by kernel_rfl
theorem cells64 : Tryz.prog.cellsOf 23 = 1 := by kernel_rfl
theorem plain64 : Tryz.prog.plainKey 23 = true := by kernel_rfl
theorem pageGuard : Tryz.prog.eqGuardType Tryz.prog.depth 110 = false := by kernel_rfl

theorem row_load {w : World} {b : Nat} {p : Nat → Value} (h : w.rowIs b 110 512 p) : ∃ cs : Array Value, cs.size = 512 ∧ (∀ i, i < 512 → cs[i]? = some (p i)) ∧ w.heap[b]? = some (.cells cs 110 (0, 0)) ∧ ∀ k, (loadVar 110 ⟨b, 0, none⟩).run Tryz.prog (w.drewN k) = .ok (.agg cs) (w.drewN k) := by
  obtain ⟨cs, h1, h2, h3⟩ := h
  exact ⟨cs, h2, h3, h1, fun k => run_loadVar_row (w.drewN k) b _ _ cs _ _ h1 Tryz.underlying110 rfl (by rw [h2]; exact pageInfo)⟩

theorem eqItems64 (w : World) (d : Nat) (xs ys : Array Value) (p q : Nat → Int) : ∀ is : List Nat, (∀ i ∈ is, xs[i]? = some (.int .u64 (p i)) ∧ ys[i]? = some (.int .u64 (q i))) →
    (Op.eqItems (d + 1) 23 (Tryz.prog.cellsOf 23) xs ys is).run Tryz.prog w = .ok (is.all fun i => p i == q i) w
  | [], _ => by simp [Op.eqItems]
  | i :: is, h => by
    obtain ⟨h1, h2⟩ := h i (by simp)
    have ih := eqItems64 w d xs ys p q is (fun j hj => h j (by simp [hj]))
    rw [cells64] at ih ⊢
    have p1 := run_part_plain w (P := Tryz.prog) (e := 23) plain64 (off := i * 1) (by rw [Nat.mul_one]; exact h1)
    have p2 := run_part_plain w (P := Tryz.prog) (e := 23) plain64 (off := i * 1) (by rw [Nat.mul_one]; exact h2)
    have p3 := run_equalIn_int (P := Tryz.prog) w d 23 .u64 .u64 (p i) (q i) Tryz.underlying23
    simp only [Op.eqItems, Sem.run_bind, p1, p2, p3, Result.andThen_ok]
    cases e : (p i == q i)
    · simp [e]
    · simp only [Bool.not_true, Bool.false_eq_true, if_false, ih, List.all_cons, e, Bool.true_and]

/-- two pages with the same words -/
def sameP (p q : Nat → Int) : Bool := (List.range 512).all fun i => p i == q i

theorem sameP_yes {p q : Nat → Int} (h : sameP p q = true) : ∀ i, i < 512 → p i = q i := fun i hi => by
  have := List.all_eq_true.1 h i (List.mem_range.2 hi)
  simpa using this

theorem page_eql (w : World) (xs ys : Array Value) (p q : Nat → Int) (hx : ∀ i, i < 512 → xs[i]? = some (.int .u64 (p i))) (hy : ∀ i, i < 512 → ys[i]? = some (.int .u64 (q i))) :
    (binOp .eql 110 (.agg xs) (.agg ys)).run Tryz.prog w = .ok (.bool (sameP p q)) w := by
  obtain ⟨i0, hi⟩ := info_of_underlying Tryz.underlying23
  rw [run_eql_struct, run_equalIn_array w 9999 xs ys Tryz.underlying110 hi, eqItems64 w 9998 xs ys p q _ (fun i hi => ⟨hx i (List.mem_range.1 hi), hy i (List.mem_range.1 hi)⟩)]
  rfl

section
variable {P : Program} {C : World → Prop} {o : Oper} {a : Act} {K : Act → Prop}
theorem quiet_whole (ty : TypeId) (x : Operand) (ho : o.op = .load ty x) (p : Addr) (hx : a.eval x = .pointer (some p)) (v : Value) (hl : ∀ w, C w → (loadVar ty p).run P w = .ok v w) (hk : K (a.put o.dst v)) : o.quiet P a C K :=
  ⟨v, fun w hw => by
    unfold Oper.quietAt execOp
    simp only [ho, hx, Instr.loadAt, Instr.sureAddr, Sem.run_bind, Sem.run_pure, Result.andThen_ok, hl w hw]
    exact ⟨rfl, rfl⟩, hk⟩
theorem quiet_alike (t rt : TypeId) (x y : Operand) (ho : o.op = .binOp .eql t x y rt) (xs ys : Array Value) (hx : a.eval x = .agg xs) (hy : a.eval y = .agg ys) (hg : P.eqGuardType P.depth t = false) (r : Bool) (hl : ∀ w, (binOp .eql t (.agg xs) (.agg ys)).run P w = .ok (.bool r) w) (hk : K (a.put o.dst (.bool r))) : o.quiet P a C K :=
  ⟨.bool r, fun w hw => by
    unfold Oper.quietAt execOp
    simp only [ho, hx, hy, Sem.run_bind, run_eqGuard_agg w .eql t x y xs ys hg, Result.andThen_ok, hl w, Sem.run_pure]
    exact ⟨rfl, rfl⟩, hk⟩
end

end Go.Proofs.YtopmmlcjlopmaaaGreatDoor
