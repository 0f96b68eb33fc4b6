/- Several texts of ours in one: Dh, Di, Dc. -/
import Derived.Test.YtopmmlcjlopmaaaGreatDoorGSiWnDg
import Derived.Test.YtopmmlcjlopmaaaGreatDoorGMeEmEa
import Derived.Test.YtopmmlcjlopmaaaGreatDoorGRfSmHe
import Derived.Deep.WholeRow
import Derived.Maps.RangeWalk
/- Where two memories differ: nothing of the program's walks. -/
namespace Go.Proofs.YtopmmlcjlopmaaaGreatDoor
set_option linter.unusedVariables false
set_option linter.unusedSimpArgs false
open Go.RowKit

/-- the slot at x differs -/
def Dif (f g : Int → Int) (x : Int) : Prop := x % 8 = 0 ∧ f (x / 8) ≠ g (x / 8)

/-- ds is where f and g differ, below X -/
def DifTo (f g : Int → Int) (ds : List Int) (X : Int) : Prop := ds.Pairwise (· < ·) ∧ ∀ x, x ∈ ds ↔ (Dif f g x ∧ x < X)

/-- ds is where f and g differ -/
def IsDif (f g : Int → Int) (ds : List Int) : Prop := ds.Pairwise (· < ·) ∧ ∀ x, x ∈ ds ↔ Dif f g x

theorem DifTo.skip {f g : Int → Int} {ds : List Int} {X Y : Int} (h : DifTo f g ds X) (hXY : X ≤ Y) (hn : ∀ x, Dif f g x → X ≤ x → Y ≤ x) : DifTo f g ds Y :=
  ⟨h.1, fun x => by
    rw [h.2 x]
    constructor
    · rintro ⟨a, b⟩; exact ⟨a, by omega⟩
    · rintro ⟨a, b⟩
      refine ⟨a, ?_⟩
      by_cases c : x < X
      · exact c
      · have := hn x a (by omega); omega⟩

theorem DifTo.add {f g : Int → Int} {ds : List Int} {X : Int} (h : DifTo f g ds X) (hX : X % 8 = 0) (hd : f (X / 8) ≠ g (X / 8)) : DifTo f g (ds ++ [X]) (X + 8) := by
  refine ⟨List.pairwise_append.2 ⟨h.1, by simp, fun a ha b hb => ?_⟩, fun x => ?_⟩
  · simp at hb; subst hb
    exact ((h.2 a).1 ha).2
  · rw [List.mem_append, h.2 x]
    simp only [List.mem_singleton]
    constructor
    · rintro (⟨a, b⟩ | rfl)
      · exact ⟨a, by omega⟩
      · exact ⟨⟨hX, hd⟩, by omega⟩
    · rintro ⟨a, b⟩
      by_cases c : x < X
      · exact Or.inl ⟨a, c⟩
      · right; have := a.1; omega

theorem DifTo.pass {f g : Int → Int} {ds : List Int} {X : Int} (h : DifTo f g ds X) (hX : X % 8 = 0) (hd : f (X / 8) = g (X / 8)) : DifTo f g ds (X + 8) :=
  h.skip (by omega) fun x hx hle => by
    by_cases e : x = X
    · subst e; exact absurd hd hx.2
    · have := hx.1; omega

theorem rising_ext : ∀ (l l' : List Int), l.Pairwise (· < ·) → l'.Pairwise (· < ·) → (∀ x, x ∈ l ↔ x ∈ l') → l = l'
  | [], [], _, _, _ => rfl
  | [], b :: l', _, _, h => by have := (h b).2 (by simp); simp at this
  | a :: l, [], _, _, h => by have := (h a).1 (by simp); simp at this
  | a :: l, b :: l', h1, h2, h => by
    obtain ⟨a1, a2⟩ := List.pairwise_cons.1 h1
    obtain ⟨b1, b2⟩ := List.pairwise_cons.1 h2
    have e : a = b := by
      have ha := (h a).1 (by simp)
      have hb := (h b).2 (by simp)
      rcases List.mem_cons.1 ha with ha | ha
      · exact ha
      · rcases List.mem_cons.1 hb with hb | hb
        · exact hb.symm
        · have := b1 a ha; have := a1 b hb; omega
    subst e
    rw [rising_ext l l' a2 b2 fun x => ?_]
    constructor
    · intro hx
      rcases List.mem_cons.1 ((h x).1 (by simp [hx])) with e | e
      · subst e; have := a1 x hx; omega
      · exact e
    · intro hx
      rcases List.mem_cons.1 ((h x).2 (by simp [hx])) with e | e
      · subst e; have := b1 x hx; omega
      · exact e

theorem IsDif.same {f g : Int → Int} {ds ds' : List Int} (h : IsDif f g ds) (h' : IsDif f g ds') : ds = ds' := rising_ext _ _ h.1 h'.1 fun x => by rw [h.2, h'.2]
theorem IsDif.none {f : Int → Int} {ds : List Int} (h : IsDif f f ds) : ds = [] := by
  cases ds with
  | nil => rfl
  | cons a l => exact absurd rfl ((h.2 a).1 (by simp)).2

/-- what is left when j pages have been looked at -/
structure Left (f g : Int → Int) (ps : List Int) (j : Nat) (ds : List Int) (X : Int) : Prop where
  dif : DifTo f g ds X
  rest : ∀ x, Dif f g x → X ≤ x → x / 4096 ∈ ps.drop j
  low : ∀ k ∈ ps.drop j, X ≤ k * 4096

theorem Left.start {f g : Int → Int} {ps : List Int} (h0 : ∀ k ∈ ps, 0 ≤ k) (h : ∀ x, Dif f g x → x / 4096 ∈ ps) : Left f g ps 0 [] 0 :=
  ⟨⟨List.Pairwise.nil, fun x => by
    simp only [List.not_mem_nil, false_iff]
    rintro ⟨a, b⟩
    have := h0 _ (h x a)
    omega⟩, fun x hx _ => h x hx, fun k hk => by have := h0 k hk; omega⟩

theorem Left.enter {f g : Int → Int} {ps : List Int} {j : Nat} {ds : List Int} {X k : Int} {r : List Int} (h : Left f g ps j ds X) (hr : ps.Pairwise (· < ·)) (hd : ps.drop j = k :: r) : DifTo f g ds (k * 4096) := by
  have hp : (ps.drop j).Pairwise (· < ·) := hr.sublist (List.drop_sublist _ _)
  rw [hd] at hp
  obtain ⟨p1, _⟩ := List.pairwise_cons.1 hp
  refine h.dif.skip (h.low k (by rw [hd]; simp)) fun x hx hle => ?_
  have := h.rest x hx hle
  rw [hd] at this
  rcases List.mem_cons.1 this with e | e
  · omega
  · have := p1 _ e; omega

theorem Left.leave {f g : Int → Int} {ps : List Int} {j : Nat} {ds ds' : List Int} {X k : Int} {r : List Int} (h : Left f g ps j ds X) (hr : ps.Pairwise (· < ·)) (hd : ps.drop j = k :: r) (hd' : DifTo f g ds' (k * 4096 + 4096)) : Left f g ps (j + 1) ds' (k * 4096 + 4096) := by
  have hp : (ps.drop j).Pairwise (· < ·) := hr.sublist (List.drop_sublist _ _)
  have hX := h.low k (by rw [hd]; simp)
  rw [hd] at hp
  obtain ⟨p1, _⟩ := List.pairwise_cons.1 hp
  have e1 : ps.drop (j + 1) = r := by rw [← List.drop_drop, hd]; rfl
  refine ⟨hd', fun x hx hle => ?_, fun k' hk' => ?_⟩
  · have := h.rest x hx (by omega)
    rw [hd] at this
    rcases List.mem_cons.1 this with e | e
    · omega
    · rw [e1]; exact e
  · rw [e1] at hk'
    have := p1 _ hk'
    omega

theorem Left.done {f g : Int → Int} {ps : List Int} {ds : List Int} {X : Int} (h : Left f g ps ps.length ds X) : IsDif f g ds := by
  refine ⟨h.dif.1, fun x => ?_⟩
  rw [h.dif.2 x]
  constructor
  · exact fun a => a.1
  · intro a
    refine ⟨a, ?_⟩
    by_cases c : x < X
    · exact c
    · have := h.rest x a (by omega)
      rw [List.drop_length] at this
      simp at this

theorem drop_at {ps : List Int} {j : Nat} (h : j < ps.length) : ∃ k r, ps.drop j = k :: r ∧ ps[j]? = some k ∧ k ∈ ps := by
  refine ⟨ps[j], ps.drop (j + 1), List.drop_eq_getElem_cons h, List.getElem?_eq_getElem h, List.getElem_mem h⟩

theorem nodup_len : ∀ (n : Nat) (l : List Int), l.Nodup → (∀ x ∈ l, 0 ≤ x ∧ x < n) → l.length ≤ n
  | 0, [], _, _ => Nat.le_refl _
  | 0, a :: l, _, h => by have := h a (by simp); omega
  | n + 1, l, hd, h => by
    by_cases hm : (n : Int) ∈ l
    · have h1 := nodup_len n (l.erase n) (hd.erase _) fun x hx => by
        have h2 := (List.Nodup.mem_erase_iff hd).1 hx
        have := h x h2.2
        have := h2.1
        omega
      have h3 := List.length_erase_of_mem hm
      omega
    · have h1 := nodup_len n l hd fun x hx => by
        have := h x hx
        have : x ≠ n := fun e => hm (e ▸ hx)
        omega
      omega

section
variable {w : World} {m : Nat} {M : Int} {f : Int → Int} {tr : List Int} {n mb : Nat} {v : Value} {D : Dw}

theorem Mm.key_of (h : Mm w m M f tr n mb v D) {x : Int} (hx : Maps.has D (.int .u64 x) = true) : 0 ≤ x ∧ x * 4096 < 2 ^ M.toNat := by
  obtain ⟨k, b, e, _, h0, h1⟩ := h.full _ hx
  simp at e
  subst e
  exact ⟨h0, h1⟩

theorem Mm.few_keys (h : Mm w m 16 f tr n mb v D) : ∀ ks, KeyList D ks → ks.length ≤ 16 := fun ks hk =>
  nodup_len 16 ks hk.1 fun x hx => by
    obtain ⟨h0, h1⟩ := h.key_of ((hk.2 x).1 hx)
    have : x * 4096 < 65536 := h1
    omega

/-- where no page is, all is 0 -/
theorem Mm.zero_of (h : Mm w m M f tr n mb v D) {s : Int} (hn : Maps.has D (.int .u64 (s / 512)) ≠ true) : f s = 0 := by
  rcases h.page (s / 512) with ⟨_, hz⟩ | ⟨b, hb, _⟩
  · have := hz (s % 512).toNat (by omega)
    rw [show s / 512 * 512 + ((s % 512).toNat : Int) = s by omega] at this
    exact this
  · have hf : Maps.has D (.int .u64 (s / 512)) = false := by simpa using hn
    have := Maps.atKey_of_not_has hf (.nil : Dw)
    unfold pageOf at hb
    rw [this] at hb
    cases hb
end

end Go.Proofs.YtopmmlcjlopmaaaGreatDoor
/- mem.Diff. -/
namespace Go.Proofs.YtopmmlcjlopmaaaGreatDoor
set_option linter.unusedVariables false
set_option linter.unusedSimpArgs false
open Go.ChangeShapes Go.WideShapes Go.ChangeAt Go.RowKit Go.Joins

theorem Mm.belowM {w w' : World} {m : Nat} {M : Int} {f : Int → Int} {tr : List Int} {n mb : Nat} {v : Value} {D : Dw} (h : Mm w m M f tr n mb v D) (hb : Below w.heap.size w w') : Mm w' m M f tr n mb v D := h.same fun i hi => hb.block i (h.own_lt hi)

theorem mrow_below {w w' : World} {b : Nat} {p : Nat → Value} (h : w.rowIs b 110 512 p) (hb : Below w.heap.size w w') : w'.rowIs b 110 512 p := h.of_block (hb.block b h.lt)

theorem app_rows {w4 w5 : World} {v : Value} {zs : List Int} {b B : Nat} {p : Nat → Value} {o : Obj} (hL : Lst w4 B v zs) (hr : w4.rowIs b 110 512 p) (hg : (w4.alloc o).grownBy w5 v.ownBlock) : w5.rowIs b 110 512 p := by
  have hlt := hr.lt
  refine hr.of_block ((hg.block b (by simp; omega) fun e => ?_).trans (Below.heap_alloc _ _ _ hlt))
  rcases hL.form with ⟨rfl, _⟩ | ⟨g, cap, rfl, _, _, _, c, hc, _⟩
  · simp [Value.ownBlock] at e
  · obtain rfl : b = g := by simpa [Value.ownBlock] using e
    obtain ⟨c', hc', _⟩ := hr
    rw [hc] at hc'
    simp at hc'

theorem app_below {w4 w5 : World} {v : Value} {zs : List Int} {B : Nat} {o : Obj} (hL : Lst w4 B v zs) (hB : B ≤ w4.heap.size) (hg : (w4.alloc o).grownBy w5 v.ownBlock) : Below B w4 w5 :=
  ((Below.refl B w4).alloc hB o).grown hg (by simp; omega) fun j e => by
    rcases hL.form with ⟨rfl, _⟩ | ⟨g, cap, rfl, h, _⟩
    · simp [Value.ownBlock] at e
    · obtain rfl : g = j := by simpa [Value.ownBlock] using e
      exact h

theorem lst_more {w5 : World} {v : Value} {zs : List Int} {B : Nat} {x : Int} (h : w5.ownsRow B 23 1 v (zs.length + 1) (zs.map (Value.int .u64) ++ [.int .u64 x])) : Lst w5 B v (zs ++ [x]) := by
  unfold Lst; simpa using h

theorem Lst.down {w : World} {v : Value} {zs : List Int} {B B' : Nat} (h : Lst w B v zs) (hB : B' ≤ B) : Lst w B' v zs := by
  refine ⟨h.1, ?_⟩
  rcases h.2 with h | ⟨g, cap, cur, h1, h2, r⟩
  · exact Or.inl h
  · exact Or.inr ⟨g, cap, cur, h1, Nat.le_trans hB h2, r⟩

set_option maxRecDepth 100000 in
set_option maxHeartbeats 16000000 in
theorem diff_any (w : World) {m m' mb mb' n n' : Nat} {f g : Int → Int} {tr tr' : List Int} {v v' : Value} {D D' : Dw} (ha : Mm w m 16 f tr n mb v D) (hb : Mm w m' 16 g tr' n' mb' v' D') (hn : n ≤ 100000) (hn' : n' ≤ 100000) :
    Calls Tryz.prog 19 #[.pointer (some ⟨m, 0, none⟩), .pointer (some ⟨m', 0, none⟩)] w fun e w' => ∃ A c ds, e = .returned (.slice A ds.length c) ∧ Lst w' w.heap.size (.slice A ds.length c) ds ∧ IsDif f g ds ∧ Below w.heap.size w w' := by
  obtain ⟨i0, hi, hz0, hz1, hz2⟩ := info_parts infoU64
  have c1 : w.cell? ⟨m, 0, none⟩ = some (.int .i64 16) := ha.cells.1
  have c2 : w.cell? ⟨m', 0, none⟩ = some (.int .i64 16) := hb.cells.1
  have HA := Lib.hid ha
  have HB := Lib.hid hb
  clear ha hb
  go_enter Tryz.func19, Tryz.ntmps19
  go_wp2
  go_quiet (fail)
  obtain ⟨w0, hw0⟩ : ∃ w0, w.drewN nq = w0 := ⟨_, rfl⟩
  have hb0 : Below w.heap.size w w0 := by rw [← hw0]; exact ⟨rfl, rfl, rfl, Nat.le_refl _, fun _ _ => rfl⟩
  have hs0 : w0.heap.size = w.heap.size := by rw [← hw0]; rfl
  rw [hw0]
  clear hw0 c1 c2
  have HA0 := Lib.hid (HA.out.belowM hb0)
  have HB0 := Lib.hid (HB.out.belowM hb0)
  go_wp2_with (go_at_call 44; refine (written_any w0 HA0.out HB0.out hn hn' HA0.out.few_keys HB0.out.few_keys).mono ?_; rintro e w1 ⟨A, c, ps, rfl, hr, hm, hL, hB1⟩)
  have hk16 : ∀ k ∈ ps, 0 ≤ k ∧ k < 16 := fun k hk => by
    rcases (hm k).1 hk with h | h
    · have := HA.out.key_of h
      have h2 : k * 4096 < 65536 := this.2
      omega
    · have := HB.out.key_of h
      have h2 : k * 4096 < 65536 := this.2
      omega
  have hps : ps.length ≤ 16 := nodup_len 16 ps (hr.imp (fun h => by omega)) hk16
  have HD0 : Hid (∀ x, Dif f g x → x / 4096 ∈ ps) := Lib.hid fun x hx => by
    rw [hm]
    by_cases h1 : Maps.has D (.int .u64 (x / 4096)) = true
    · exact Or.inl h1
    · by_cases h2 : Maps.has D' (.int .u64 (x / 4096)) = true
      · exact Or.inr h2
      · have e1 : x / 8 / 512 = x / 4096 := by omega
        exact absurd ((HA.out.zero_of (s := x / 8) (by rw [e1]; exact h1)).trans (HB.out.zero_of (s := x / 8) (by rw [e1]; exact h2)).symm) hx.2
  have HK := Lib.hid hk16
  have HR := Lib.hid hr
  have HL := Lib.hid hL
  have hb1 : Below w.heap.size w w1 := hb0.trans (hs0 ▸ hB1)
  have HM1 := Lib.hid (HA.out.belowM hb1)
  have HM2 := Lib.hid (HB.out.belowM hb1)
  have HB1 := Lib.hid hb1
  clear hm hr hk16 hL hB1 hb0 HA0 HB0 hb1
  go_loopw [5, 32] (fun u t wr => ∃ (j : Nat) (ds : List Int) (X : Int) (A5 : Option Addr) (c5 : Nat), t = .int .i64 j ∧ j ≤ ps.length ∧ u = .slice A5 ds.length c5 ∧ ds.length ≤ j * 512 ∧ Hid (Lst wr w1.heap.size (.slice A5 ds.length c5) ds) ∧ Hid (Left f g ps j ds X) ∧ Hid (Below w1.heap.size w1 wr)) (fun _ t _ => (ps.length - intOf t).toNat)
  case atStart => exact ⟨0, [], 0, none, 0, rfl, Nat.zero_le _, rfl, by simp, Lib.hid (World.ownsRow_nil _ _ _ _), Lib.hid (Left.start (fun k hk => (HK.out k hk).1) HD0.out), Lib.hid (Below.refl _ _)⟩
  case round =>
    obtain ⟨j, ds, X, A5, c5, rfl, hj, rfl, hdl, HS, HF, HW⟩ := hrel
    by_cases hlt : j < ps.length
    · obtain ⟨k, r, hd, hg, hkm⟩ := drop_at hlt
      obtain ⟨k0, k16⟩ := HK.out k hkm
      obtain ⟨gb, hgb, cc⟩ : ∃ gb, A = some ⟨gb, 0, none⟩ ∧ wr.cell? ⟨gb, j, none⟩ = some (.int .u64 k) := by
        rcases HL.out.form with ⟨_, h2⟩ | ⟨gb, cap, e, _, _, _, hrow⟩
        · rw [h2] at hlt; simp at hlt
        · have hc := hrow.cell (i := j) (by simpa using hlt)
          have e2 : ps.toArray[j]! = k := by
            rw [getElem!_pos _ j (by simpa using hlt)]
            simp only [List.getElem_toArray]
            rw [List.getElem?_eq_getElem hlt] at hg
            exact Option.some.inj hg
          rw [e2] at hc
          have e3 : A = some ⟨gb, 0, none⟩ := by
            have := e
            simp at this
            exact this.1
          exact ⟨gb, e3, (HW.out.cell (p := ⟨gb, j, none⟩) hrow.lt).trans hc⟩
      subst hgb
      have HD := Lib.hid (HF.out.enter HR.out hd)
      have HLv := Lib.hid (fun ds' h => HF.out.leave (ds' := ds') HR.out hd h)
      have hW64 : W64 k := ⟨k0, by omega⟩
      have h1 : Mm wr m 16 f tr n mb v D := HM1.out.belowM HW.out
      have h2 : Mm wr m' 16 g tr' n' mb' v' D' := HM2.out.belowM HW.out
      have H1 := Lib.hid h1
      have H2 := Lib.hid h2
      clear h1 h2 hd hg
      have jb : (j : Int) < (ps.length : Int) := by omega
      have cp1 := Lib.hid (mpage_any H1.out k hW64)
      have cp2 := Lib.hid (fun w2 (hb : Below wr.heap.size wr w2) => mpage_any (H2.out.belowM hb) k hW64)
      go_wp2_with (first | (go_at_call 45; refine cp1.out.mono ?_; clear cp1; rintro e w2 ⟨b1, rfl, r1, hB2⟩) | (go_at_call 45; refine (cp2.out _ hB2).mono ?_; clear cp2; rintro e w3 ⟨b2, rfl, r2, hB3⟩))
      obtain ⟨cs1, s1, g1, y1, l1⟩ := row_load (mrow_below r1 hB3)
      obtain ⟨cs2, s2, g2, y2, l2⟩ := row_load r2
      have R1 := Lib.hid (mrow_below r1 hB3)
      have R2 := Lib.hid r2
      have hE := fun W => page_eql W cs1 cs2 (fun i : Nat => f (k * 512 + i)) (fun i : Nat => g (k * 512 + i)) g1 g2
      have HB3 := Lib.hid ((hB2.trans (hB3.mono hB2.size)))
      have HW3 := Lib.hid (HW.out.trans (HB3.out.mono HW.out.size))
      have HS3 := Lib.hid (Lst.keptL HS.out (show Kept wr w3 from HB3.out))
      clear r1 r2 hB2 hB3 g1 g2 s1 s2 y1 y2
      obtain ⟨r0, hr0⟩ : ∃ r0, sameP (fun i : Nat => f (k * 512 + i)) (fun i : Nat => g (k * 512 + i)) = r0 := ⟨_, rfl⟩
      rw [hr0] at hE
      have HR0 := Lib.hid hr0
      have hl1 : ∀ W, (∃ n, W = w3.drewN n) → (loadVar 110 ⟨b1, 0, none⟩).run Tryz.prog W = .ok (.agg cs1) W := by rintro W ⟨q, rfl⟩; exact l1 q
      have hl2 : ∀ W, (∃ n, W = w3.drewN n) → (loadVar 110 ⟨b2, 0, none⟩).run Tryz.prog W = .ok (.agg cs2) W := by rintro W ⟨q, rfl⟩; exact l2 q
      clear hr0 l1 l2
      refine wp_region_quiet_lit (by kernel_rfl) (by kernel_rfl) ?_
      iterate 2 (go_big_quiet_step (fail))
      go_big_quiet_want
      refine quiet_whole _ _ rfl _ rfl _ hl1 ?_
      go_frame
      go_big_quiet_on
      iterate 2 (go_big_quiet_step (fail))
      go_big_quiet_want
      refine quiet_whole _ _ rfl _ rfl _ hl2 ?_
      go_frame
      go_big_quiet_on
      go_big_quiet_want
      refine quiet_alike _ _ _ _ rfl cs1 cs2 rfl rfl pageGuard r0 hE ?_
      go_frame
      go_big_quiet_on
      refine wpQuiet_nil ?_
      intro w4 hw4
      have HB4 : Hid (Below w3.heap.size w3 w4) := Lib.hid (by obtain ⟨q, rfl⟩ := hw4; exact ⟨rfl, rfl, rfl, Nat.le_refl _, fun _ _ => rfl⟩)
      have R14 := Lib.hid (mrow_below R1.out HB4.out)
      have R24 := Lib.hid (mrow_below R2.out HB4.out)
      have HW4 := Lib.hid (HW3.out.trans (HB4.out.mono HW3.out.size))
      have HS4 := Lib.hid (Lst.keptL HS3.out (show Kept w3 w4 from HB4.out))
      clear hw4 hE hl1 hl2 R1 R2 HW3 HS3 HB3 HS HW HB4
      cases r0
      · go_wp2
        go_loopw [5, 49] (fun u t wr2 => ∃ (i : Nat) (d2 : List Int) (A6 : Option Addr) (c6 : Nat), t = .int .i64 i ∧ i ≤ 512 ∧ u = .slice A6 d2.length c6 ∧ d2.length ≤ j * 512 + i ∧ Hid (Lst wr2 w1.heap.size (.slice A6 d2.length c6) d2) ∧ Hid (DifTo f g d2 (k * 4096 + (i : Int) * 8)) ∧ Hid (wr2.rowIs b1 110 512 (fun i => .int .u64 (f (k * 512 + i)))) ∧ Hid (wr2.rowIs b2 110 512 (fun i => .int .u64 (g (k * 512 + i)))) ∧ Hid (Below w1.heap.size w1 wr2)) (fun _ t _ => (512 - intOf t).toNat)
        case atStart => exact ⟨0, ds, A5, c5, rfl, Nat.zero_le _, rfl, by omega, HS4, Lib.hid (by simpa using HD.out), R14, R24, HW4⟩
        case round =>
          obtain ⟨i, d2, A6, c6, rfl, hi5, rfl, hdl2, HS6, HD6, R16, R26, HW6⟩ := hrel
          clear HS4 R14 R24 HW4 HD
          by_cases hil : i < 512
          · have q1 : wr.cell? ⟨b1, i, none⟩ = some (.int .u64 (f (k * 512 + i))) := R16.out.cell hil
            have q2 : wr.cell? ⟨b2, i, none⟩ = some (.int .u64 (g (k * 512 + i))) := R26.out.cell hil
            obtain ⟨x, hx⟩ : ∃ x, f (k * 512 + i) = x := ⟨_, rfl⟩
            obtain ⟨y, hy⟩ : ∃ y, g (k * 512 + i) = y := ⟨_, rfl⟩
            rw [hx] at q1
            rw [hy] at q2
            have eX : (k * 4096 + (i : Int) * 8) / 8 = k * 512 + i := by omega
            have hil' : (i : Int) < 512 := by omega
            by_cases hxy : x = y
            · have eb : (x != y) = false := by simpa using hxy
              have HN := Lib.hid (HD6.out.pass (by omega) (by rw [eX, hx, hy]; exact hxy))
              clear hx hy hxy eX
              go_wp2
              go_quiet (fail)
              go_wp2
              go_roundw
              case rel => exact ⟨i + 1, d2, A6, c6, by go_num, by omega, rfl, by omega, Lib.hid (Lst.keptL HS6.out (drewN_below _ _)), Lib.hid (by have := HN.out; rwa [show k * 4096 + (i : Int) * 8 + 8 = k * 4096 + ((i + 1 : Nat) : Int) * 8 by omega] at this), Lib.hid (mrow_below R16.out (drewN_below _ _)), Lib.hid (mrow_below R26.out (drewN_below _ _)), Lib.hid (HW6.out.trans ((drewN_below _ _).mono HW6.out.size))⟩
              case measure => simp [intOf]; omega
            · have eb : (x != y) = true := by simpa using hxy
              have HN := Lib.hid (HD6.out.add (by omega) (by rw [eX, hx, hy]; exact hxy))
              clear hx hy hxy eX
              go_wp2
              go_quiet (fail)
              obtain ⟨w5, hw5, HB5⟩ : ∃ w5, wr.drewN nq = w5 ∧ Hid (Below wr.heap.size wr w5) := ⟨_, rfl, Lib.hid (drewN_below _ _)⟩
              rw [hw5]
              clear hw5 q1 q2
              have HS5 := Lib.hid (Lst.keptL HS6.out (show Kept wr w5 from HB5.out))
              have R15 := Lib.hid (mrow_below R16.out HB5.out)
              have R25 := Lib.hid (mrow_below R26.out HB5.out)
              have HW5 := Lib.hid (HW6.out.trans (HB5.out.mono HW6.out.size))
              clear HS6 R16 R26 HW6 HB5
              go_wp2_with (at_builtin; refine wpList_append_own _ rfl _ _ 43 rfl w1.heap.size 23 i0 (.int .u64 0) 1 8 Tryz.underlying43 hi hz0 hz1 hz2 rfl (by decide) _ d2.length (d2.map (Value.int .u64)) rfl (World.ownsRow.alloc HS5.out _) ⟨w5.heap.size, 0, none⟩ 1 1 [.int .u64 (k * 4096 + (i : Int) * 8)] rfl rfl (cell_one_new _ _ _) (ints_oneCell .u64 [_]) (by unfold maxLen; omega) (by omega) (by have := HW5.out.size; simp; omega) ?_; intro v7 w7 hown7 hgrow7 hnil7; have HS7 := Lib.hid (lst_more hown7); have HB7 := Lib.hid (HW5.out.trans (app_below HS5.out HW5.out.size hgrow7)); have R17 := Lib.hid (app_rows HS5.out R15.out hgrow7); have R27 := Lib.hid (app_rows HS5.out R25.out hgrow7); clear hown7 hgrow7 hnil7; obtain ⟨A7, c7, rfl⟩ := HS7.out.len)
              go_roundw
              case rel => exact ⟨i + 1, d2 ++ [k * 4096 + (i : Int) * 8], A7, c7, by go_num, by omega, by simp, by simp; omega, HS7, Lib.hid (by have := HN.out; rwa [show k * 4096 + (i : Int) * 8 + 8 = k * 4096 + ((i + 1 : Nat) : Int) * 8 by omega] at this), R17, R27, HB7⟩
              case measure => simp [intOf]; omega
          · have e : i = 512 := by omega
            subst e
            have HX := Lib.hid (HLv.out d2 (by have := HD6.out; rwa [show k * 4096 + ((512 : Nat) : Int) * 8 = k * 4096 + 4096 by omega] at this))
            go_wp2
            go_roundw
            case rel => exact ⟨j + 1, d2, _, A6, c6, by go_num, by omega, rfl, by omega, HS6, HX, HW6⟩
            case measure => simp [intOf]; omega
      · have HX := Lib.hid (HLv.out ds (HD.out.skip (by omega) fun x hx hle => by
          by_cases c : k * 4096 + 4096 ≤ x
          · exact c
          · exfalso
            have := sameP_yes HR0.out (x / 8 - k * 512).toNat (by omega)
            rw [show k * 512 + ((x / 8 - k * 512).toNat : Int) = x / 8 by omega] at this
            exact hx.2 this))
        go_wp2
        go_roundw
        case rel => exact ⟨j + 1, ds, _, A5, c5, by go_num, by omega, rfl, by omega, HS4, HX, HW4⟩
        case measure => simp [intOf]; omega
    · have e : j = ps.length := by omega
      subst e
      have HE := Lib.hid HF.out.done
      go_wp2
      go_ret
      exact ⟨A5, c5, ds, rfl, Lst.down HS.out (Below.size HB1.out), HE.out, HB1.out.trans (HW.out.mono (Below.size HB1.out))⟩

end Go.Proofs.YtopmmlcjlopmaaaGreatDoor
/- (*Mem).Copy. -/
namespace Go.Proofs.YtopmmlcjlopmaaaGreatDoor
set_option linter.unusedVariables false
set_option linter.unusedSimpArgs false
open Go.ChangeShapes Go.WideShapes Go.ChangeAt Go.RowKit Go.Joins

theorem wpList_store_last {P : Program} {ops : Array Oper} {rest : List Oper} {o : Oper} {a : Act} {w : World} {Q : Exit → Act → World → Prop} (hgd : o.guard = none) (ty : TypeId) (x y : Operand) (ho : o.op = .store ty x y)
    (hx : a.eval x = .pointer (some ⟨w.heap.size, 0, none⟩)) (c c' : Array Value) (hy : a.eval y = .agg c') (hi : (P.info? ty).map (·.size) = some c'.size) (hc : c.size = c'.size) (h1 : c'.all (·.oneCell') = true)
    (h : wpList P ops Q rest (a.put o.dst undef) (w.alloc (.cells c' ty))) : wpList P ops Q (o :: rest) a (w.alloc (.cells c ty)) := by
  refine wpList_plain hgd fun K hK => ?_
  have hr := run_storeAt_new (P := P) w ty c c' hi hc h1
  unfold Oper.wp execOp
  simp only [ho, hx, hy, Sem.run_bind, hr, Result.andThen_ok, Sem.run_pure]
  exact hK _ _ h

section
variable {w w' : World} {m : Nat} {M : Int} {f f' : Int → Int} {tr : List Int} {n mb : Nat} {v : Value} {D : Dw}

/-- a page is laid, with its words -/
theorem Mm.laid (h : Mm w m M f tr n mb v D) {k : Int} (hk : pageOf D k = .nil) (k0 : 0 ≤ k) (k1 : k * 4096 < 2 ^ M.toNat) {cs : Array Value} (hs : cs.size = 512) (hcs : ∀ i : Nat, i < 512 → cs[i]? = some (.int .u64 (f' (k * 512 + i)))) (hf : ∀ s, s / 512 ≠ k → f' s = f s) (hw : ∀ s, W64 (f' s))
    (hmap : w'.ownsMap Tryz.prog 23 ptrElem mb (n + 1) (D.put (.int .u64 k) (.lit (.int .u64 w.heap.size)))) (hg : (w.alloc (.cells cs 110)).grownBy w' (some mb)) :
    Mm w' m M f' tr (n + 1) mb v (D.put (.int .u64 k) (.lit (.int .u64 w.heap.size))) := by
  have hD := h.pages.isMap
  obtain ⟨a1, a2, a3⟩ := h.apart
  have keep : ∀ i, i < w.heap.size → i ≠ mb → w'.heap[i]? = w.heap[i]? := fun i hi hne =>
    (hg.block i (by simp; omega) (by simpa using hne)).trans (Below.heap_alloc _ _ _ hi)
  have hnew : w'.rowIs w.heap.size 110 512 (fun i => .int .u64 (f' (k * 512 + i))) := by
    have r0 : (w.alloc (.cells cs 110)).rowIs w.heap.size 110 512 (fun i => .int .u64 (f' (k * 512 + i))) := ⟨_, Deep.blk_alloc_new _ _, hs, hcs⟩
    have hne : w.heap.size ≠ mb := by have := h.pages.lt; omega
    exact r0.of_block (hg.block _ (by simp) (by simpa using hne))
  refine ⟨h.bits, (keep m (h.own_lt (Or.inl rfl)) a1).trans h.here, hmap, ?_, ?_, ?_, ?_, Nat.le_succ_of_le h.few, hw⟩
  · intro k'
    by_cases e : k' = k
    · subst e
      exact Or.inr ⟨w.heap.size, pageOf_same hD _ _, hnew⟩
    · rw [pageOf_other e]
      have hff : ∀ i : Nat, i < 512 → f' (k' * 512 + i) = f (k' * 512 + i) := fun i hi => hf _ (by omega)
      rcases h.page k' with ⟨hn, hz⟩ | ⟨b, hb, hr⟩
      · exact Or.inl ⟨hn, fun i hi => by rw [hff i hi, hz i hi]⟩
      · exact Or.inr ⟨b, hb, (hr.of_block (keep b hr.lt (h.page_apart hb).2.1)).congr fun i hi => by rw [hff i hi]⟩
  · intro k1 k2 b h1 h2
    have old : ∀ k', pageOf D k' = .lit (.int .u64 b) → b < w.heap.size := fun k' hk' => h.own_lt (Or.inr (Or.inr (Or.inr ⟨k', hk'⟩)))
    by_cases e1 : k1 = k
    · by_cases e2 : k2 = k
      · rw [e1, e2]
      · rw [e1, pageOf_same hD] at h1
        rw [pageOf_other e2] at h2
        have := old _ h2
        simp at h1
        have e : w.heap.size = b := by omega
        omega
    · rw [pageOf_other e1] at h1
      by_cases e2 : k2 = k
      · rw [e2, pageOf_same hD] at h2
        have := old _ h1
        simp at h2
        have e : w.heap.size = b := by omega
        omega
      · rw [pageOf_other e2] at h2
        exact h.inj _ _ _ h1 h2
  · intro kl hkl
    by_cases e : kl = .int .u64 k
    · subst e
      exact ⟨k, w.heap.size, rfl, pageOf_same hD _ _, k0, k1⟩
    · rw [Maps.has_put_other e] at hkl
      obtain ⟨k', b, rfl, hb, r⟩ := h.full kl hkl
      exact ⟨k', b, rfl, by rw [pageOf_other (by simpa using e)]; exact hb, r⟩
  · exact (h.trace.alloc _).kept hg (Or.inr a3)
end

/-- how far a copy has come -/
structure Copied (w wr : World) (D Dk : Dw) (f fk : Int → Int) (left : Lit → Bool) (c : Nat) (M : Int) (nk mbc : Nat) (vc : Value) : Prop where
  mm : Mm wr c M fk [] nk mbc vc Dk
  own : ∀ i, Own c mbc vc Dk i → w.heap.size ≤ i
  yes : ∀ x, left (.int .u64 x) = false → ∀ s, s / 512 = x → fk s = f s
  no : ∀ x, left (.int .u64 x) = true → pageOf Dk x = .nil ∧ ∀ s, s / 512 = x → fk s = 0

theorem Copied.step {w wr w2 w3 : World} {D Dk : Dw} {f fk : Int → Int} {left : Lit → Bool} {c : Nat} {M : Int} {nk mbc : Nat} {vc : Value} (h : Copied w wr D Dk f fk left c M nk mbc vc) {x : Int} (hx : left (.int .u64 x) = true) (k0 : 0 ≤ x) (k1 : x * 4096 < 2 ^ M.toNat)
    (h2 : Mm w2 c M fk [] nk mbc vc Dk) (hs2 : w.heap.size ≤ w2.heap.size) {cs : Array Value} (hs : cs.size = 512) (hcs : ∀ i : Nat, i < 512 → cs[i]? = some (.int .u64 (f (x * 512 + i)))) (hw : ∀ s, W64 (f s))
    (hmap : w3.ownsMap Tryz.prog 23 ptrElem mbc (nk + 1) (Dk.put (.int .u64 x) (.lit (.int .u64 w2.heap.size)))) (hg : (w2.alloc (.cells cs 110)).grownBy w3 (some mbc)) :
    Copied w w3 D (Dk.put (.int .u64 x) (.lit (.int .u64 w2.heap.size))) f (fun s => if s / 512 = x then f s else fk s) (fun z => left z && !z.sameKey (.int .u64 x)) c M (nk + 1) mbc vc := by
  obtain ⟨n1, n2⟩ := h.no x hx
  refine ⟨h2.laid n1 k0 k1 hs (fun i hi => ?_) (fun s hs => if_neg hs) (fun s => ?_) hmap hg, fun i hi => ?_, fun y hy s hsy => ?_, fun y hy => ?_⟩
  · rw [if_pos (by omega)]; exact hcs i hi
  · show W64 (if s / 512 = x then f s else fk s)
    split
    · exact hw s
    · exact h.mm.words s
  · rcases own_put_page h2.pages.isMap hi with hi | rfl
    · exact h.own i hi
    · exact hs2
  · show (if s / 512 = x then f s else fk s) = f s
    by_cases e : s / 512 = x
    · rw [if_pos e]
    · rw [if_neg e]
      refine h.yes y ?_ s hsy
      have hne : y ≠ x := fun h => e (hsy.trans h)
      simpa [Lit.sameKey, hne] using hy
  · have hne : y ≠ x := by
      rintro rfl
      simp [Lit.sameKey] at hy
    have hy' : left (.int .u64 y) = true := by simpa [Lit.sameKey, hne] using hy
    obtain ⟨q1, q2⟩ := h.no y hy'
    refine ⟨by rw [pageOf_other hne]; exact q1, fun s hs => ?_⟩
    show (if s / 512 = x then f s else fk s) = 0
    rw [if_neg (by omega)]
    exact q2 s hs

end Go.Proofs.YtopmmlcjlopmaaaGreatDoor
