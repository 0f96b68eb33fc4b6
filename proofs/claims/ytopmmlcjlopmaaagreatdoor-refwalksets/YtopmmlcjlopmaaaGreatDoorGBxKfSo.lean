/- Several texts of ours in one: Bx, Kf, So. -/
import Derived.Test.YtopmmlcjlopmaaaGreatDoorGHcEbHd
import Derived.Test.YtopmmlcjlopmaaaGreatDoorGRjIaEr
import Derived.Test.YtopmmlcjlopmaaaGreatDoorGGbRgHb
import Derived.Test.YtopmmlcjlopmaaaGreatDoorGIeKbGt
import Derived.Test.YtopmmlcjlopmaaaGreatDoorGGuKcKe
import Derived.Test.YtopmmlcjlopmaaaGreatDoorGHfHgGc
import Derived.Test.YtopmmlcjlopmaaaGreatDoorGByWdMm
import Derived.Test.YtopmmlcjlopmaaaGreatDoorGVaVrFr
import Derived.Sort.LotD3
import Derived.Sort.LotB
import Derived.Sort.LotC
import Derived.BigQuiet
import Derived.RegionTactic
import Derived.BigRegion
import Derived.ChangeAlike
/- Boxes and rows that a walk holds, beside what others own: as lists, so that one step carries all of them. Nothing of the program. -/
namespace Go.Proofs.YtopmmlcjlopmaaaGreatDoor
set_option linter.unusedVariables false
set_option linter.unusedSimpArgs false
open Go.ChangeShapes Go.WideShapes Go.ChangeAt Go.RowKit Go.Joins

/-- a box: its block, its cells, its type -/
structure BoxD where
  b : Nat
  cs : Array Value
  t : TypeId
/-- a row that a slice owns -/
structure RowD where
  e : TypeId
  sz : Nat
  v : Value
  n : Nat
  xs : List Value

/-- the boxes bs and the rows rs, none of which is one of G -/
structure Hold (wr : World) (G : Nat → Prop) (bs : List BoxD) (rs : List RowD) : Prop where
  box : ∀ z ∈ bs, Blk wr z.b z.cs z.t ∧ ¬ G z.b
  row : ∀ r ∈ rs, wr.ownsRow 0 r.e r.sz r.v r.n r.xs ∧ ∀ i, r.v.ownBlock = some i → ¬ G i
  once : (bs.map (·.b)).Nodup
  lt : ∀ i, G i → i < wr.heap.size

theorem own_lt {wr : World} {B sz n : Nat} {e : TypeId} {v : Value} {xs : List Value} (h : wr.ownsRow B e sz v n xs) {i : Nat} (hi : v.ownBlock = some i) : B ≤ i ∧ i < wr.heap.size := World.ownsRow.lt h i hi
theorem own_down {wr : World} {B B' sz n : Nat} {e : TypeId} {v : Value} {xs : List Value} (h : wr.ownsRow B e sz v n xs) (hB : B' ≤ B) : wr.ownsRow B' e sz v n xs := by
  refine ⟨h.1, ?_⟩
  rcases h.2 with h2 | ⟨g, cap, cur, hv, hb, r⟩
  · exact Or.inl h2
  · exact Or.inr ⟨g, cap, cur, hv, Nat.le_trans hB hb, r⟩

section
variable {w wr w3 w4 : World} {F G G' H : Nat → Prop} {bs : List BoxD} {rs : List RowD} {b k m n' B n sz : Nat} {cs cs' xs : List Value} {M : Int} {f' : Int → Int} {tr' : List Int} {t e : TypeId} {v : Value}

theorem Hold.at_ (h : Hold wr G bs rs) (k : Nat) {b : Nat} {cs : Array Value} {t : TypeId} (hk : bs[k]? = some ⟨b, cs, t⟩) : Blk wr b cs t := (h.box _ (List.mem_of_getElem? hk)).1
theorem Hold.no (h : Hold wr G bs rs) (k : Nat) {b : Nat} {cs : Array Value} {t : TypeId} (hk : bs[k]? = some ⟨b, cs, t⟩) : ¬ G b := (h.box _ (List.mem_of_getElem? hk)).2
theorem Hold.of_ (h : Hold wr G bs rs) (k : Nat) {e : TypeId} {sz n : Nat} {v : Value} {xs : List Value} (hk : rs[k]? = some ⟨e, sz, v, n, xs⟩) : wr.ownsRow 0 e sz v n xs := (h.row _ (List.mem_of_getElem? hk)).1
theorem Hold.off (h : Hold wr G bs rs) (k : Nat) {e : TypeId} {sz n : Nat} {v : Value} {xs : List Value} (hk : rs[k]? = some ⟨e, sz, v, n, xs⟩) : ∀ i, v.ownBlock = some i → ¬ G i := (h.row _ (List.mem_of_getElem? hk)).2
theorem Hold.nil (wr : World) (G : Nat → Prop) (hG : ∀ i, G i → i < wr.heap.size) : Hold wr G [] [] := ⟨by simp, by simp, by simp, hG⟩
/-- of a call's own: what is older is others' -/
theorem Hold.start (w : World) : Hold w (fun i => i < w.heap.size) [] [] := Hold.nil _ _ fun _ h => h

theorem Hold.turn (h : Hold wr G bs rs) (ht : Turn H wr w3) (hb : ∀ z ∈ bs, ¬ H z.b) (hr : ∀ r ∈ rs, ∀ i, r.v.ownBlock = some i → ¬ H i) : Hold w3 G bs rs :=
  ⟨fun z hz => ⟨(h.box z hz).1.turn ht (hb z hz), (h.box z hz).2⟩, fun r hr' => ⟨own_turn (h.row r hr').1 ht (hr r hr'), (h.row r hr').2⟩, h.once, fun i hi => Nat.lt_of_lt_of_le (h.lt i hi) ht.size⟩
theorem Hold.quiet (h : Hold wr G bs rs) (hb : Below wr.heap.size wr w3) : Hold w3 G bs rs :=
  h.turn (H := fun _ => False) (Turn.of_kept _ hb) (fun _ _ h => h) (fun _ _ _ _ h => h)
/-- what is G's was turned, and G is another one behind it -/
theorem Hold.step (h : Hold wr G bs rs) (k : Wk wr w4 G m M f' tr' n' G') : Hold w4 G' bs rs :=
  ⟨fun z hz => ⟨(h.box z hz).1.turn k.turn (h.box z hz).2, k.free (h.box z hz).2 (h.box z hz).1.lt⟩,
   fun r hr => ⟨own_turn (h.row r hr).1 k.turn (h.row r hr).2, fun i hi => k.free ((h.row r hr).2 i hi) (own_lt (h.row r hr).1 hi).2⟩, h.once, fun i hi => (k.foot i hi).1⟩
theorem Hold.new (h : Hold wr G bs rs) (cs : Array Value) (t : TypeId) : Hold (wr.alloc (.cells cs t)) G (⟨wr.heap.size, cs, t⟩ :: bs) rs := by
  have hq := h.quiet (below_alloc1 wr (.cells cs t))
  refine ⟨fun z hz => ?_, hq.row, ?_, hq.lt⟩
  · rcases List.mem_cons.1 hz with rfl | hz
    · exact ⟨Blk.new _ _ _, fun hg => Nat.lt_irrefl _ (h.lt _ hg)⟩
    · exact hq.box z hz
  · refine List.nodup_cons.2 ⟨fun hm => ?_, h.once⟩
    obtain ⟨z, hz, e⟩ := List.mem_map.1 hm
    have h1 := (h.box z hz).1.lt
    have h2 : z.b = wr.heap.size := e
    omega
/-- a row that a call answered -/
theorem Hold.got (h : Hold wr G bs rs) (hr : wr.ownsRow B e sz v n xs) (hv : ∀ i, v.ownBlock = some i → ¬ G i) : Hold wr G bs (⟨e, sz, v, n, xs⟩ :: rs) :=
  ⟨h.box, fun r hr' => by
    rcases List.mem_cons.1 hr' with rfl | hr'
    · exact ⟨own_down hr (Nat.zero_le _), hv⟩
    · exact h.row r hr', h.once, h.lt⟩
/-- a box is turned -/
theorem Hold.put (h : Hold wr G bs rs) (k : Nat) {b : Nat} {cs cs' : Array Value} {t : TypeId} (hk : bs[k]? = some ⟨b, cs, t⟩) (ht : Turn (fun i => i = b) wr w3) (hb : Blk w3 b cs' t) (hr : rs.all (fun r => r.e != t) = true) : Hold w3 G (bs.set k ⟨b, cs', t⟩) rs := by
  have hkl : k < bs.length := by
    rcases Nat.lt_or_ge k bs.length with h1 | h1
    · exact h1
    · rw [List.getElem?_eq_none h1] at hk; cases hk
  have hkk : bs[k] = ⟨b, cs, t⟩ := by rw [List.getElem?_eq_getElem hkl] at hk; exact Option.some.inj hk
  have hmap : (bs.set k ⟨b, cs', t⟩).map (·.b) = bs.map (·.b) := by
    rw [List.map_set]
    apply List.ext_getElem (by simp)
    intro i h1 h2
    by_cases e : k = i
    · subst e; simp [hkk]
    · simp [List.getElem_set_ne e]
  have hne : ∀ j (hj : j < bs.length), j ≠ k → bs[j].b ≠ b := by
    intro j hj hjk e
    have h1 := List.getElem_inj (i := j) (j := k) (h₀ := by simpa using hj) (h₁ := by simpa using hkl) h.once
    simp [hkk] at h1
    exact hjk (h1.1 e)
  refine ⟨fun z hz => ?_, fun r hr' => ⟨own_turn (h.row r hr').1 ht (not_box (h.row r hr').1 (h.at_ k hk) ?_), (h.row r hr').2⟩, by rw [hmap]; exact h.once, fun i hi => Nat.lt_of_lt_of_le (h.lt i hi) ht.size⟩
  · obtain ⟨j, hj, hz⟩ := List.mem_iff_getElem.1 hz
    have hj' : j < bs.length := by simpa using hj
    by_cases e : k = j
    · subst e
      simp at hz
      subst hz
      exact ⟨hb, h.no k hk⟩
    · rw [List.getElem_set_ne e] at hz
      subst hz
      exact ⟨(h.box _ (List.getElem_mem hj')).1.turn ht (hne j hj' (fun h => e h.symm)), (h.box _ (List.getElem_mem hj')).2⟩
  · have := List.all_eq_true.1 hr r hr'
    simpa using this
/-- fewer are held -/
theorem Hold.less (h : Hold wr G bs rs) {bs' : List BoxD} {rs' : List RowD} (hb : bs'.Sublist bs) (hr : ∀ r ∈ rs', r ∈ rs) : Hold wr G bs' rs' :=
  ⟨fun z hz => h.box z (hb.subset hz), fun r h' => h.row r (hr r h'), h.once.sublist (hb.map _), h.lt⟩
/-- nothing of the call's start was turned -/
theorem Hold.below {B : Nat} (h : Hold wr (fun i => i < B) bs rs) (k : Nat) {b : Nat} {cs : Array Value} {t : TypeId} (hk : bs[k]? = some ⟨b, cs, t⟩) (hw : Below B w wr) (ht : Turn (fun i => i = b) wr w3) : Below B w w3 :=
  hw.trans (ht.below (fun i hi => by have := h.no k hk; omega) (Nat.le_of_not_lt fun hl => Nat.lt_irrefl _ (h.lt _ hl)))
end

/- OWN -/
/-- a call's own boxes and rows; nothing older was turned -/
structure Mine (w wr : World) (bs : List BoxD) (rs : List RowD) : Prop where
  hold : Hold wr (fun i => i < w.heap.size) bs rs
  below : Below w.heap.size w wr

section
variable {w wr w3 : World} {bs : List BoxD} {rs : List RowD} {b B n sz : Nat} {e t : TypeId} {v : Value} {xs : List Value} {cs : Array Value}
theorem Mine.start (w : World) : Mine w w [] [] := ⟨Hold.start w, Below.refl _ _⟩
theorem Mine.world (h : Mine w wr bs rs) (e : wr = w3) : Mine w w3 bs rs := e ▸ h
theorem Mine.size (h : Mine w wr bs rs) : w.heap.size ≤ wr.heap.size := h.below.size
theorem Mine.quiet (h : Mine w wr bs rs) (hb : Below wr.heap.size wr w3) : Mine w w3 bs rs := ⟨h.hold.quiet hb, h.below.trans (hb.mono h.below.size)⟩
theorem Mine.new (h : Mine w wr bs rs) {b : Nat} (hb : wr.heap.size = b) (cs : Array Value) (t : TypeId) : Mine w (wr.alloc (.cells cs t)) (⟨b, cs, t⟩ :: bs) rs := by
  subst hb; exact ⟨h.hold.new cs t, h.below.trans ((below_alloc1 _ _).mono h.below.size)⟩
theorem Mine.got (h : Mine w wr bs rs) (hr : wr.ownsRow B e sz v n xs) (hB : w.heap.size ≤ B) : Mine w wr bs (⟨e, sz, v, n, xs⟩ :: rs) :=
  ⟨h.hold.got hr fun i hi hl => by have := (own_lt hr hi).1; omega, h.below⟩
theorem Mine.put (h : Mine w wr bs rs) (k : Nat) {b : Nat} {cs cs' : Array Value} {t : TypeId} (hk : bs[k]? = some ⟨b, cs, t⟩) (ht : Turn (fun i => i = b) wr w3) (hb : Blk w3 b cs' t) (hr : rs.all (fun r => r.e != t) = true := by rfl) : Mine w w3 (bs.set k ⟨b, cs', t⟩) rs :=
  ⟨h.hold.put k hk ht hb hr, h.hold.below k hk h.below ht⟩
theorem Mine.at_ (h : Mine w wr bs rs) (k : Nat) {b : Nat} {cs : Array Value} {t : TypeId} (hk : bs[k]? = some ⟨b, cs, t⟩) : Blk wr b cs t := h.hold.at_ k hk
theorem Mine.of_ (h : Mine w wr bs rs) (k : Nat) {e : TypeId} {sz n : Nat} {v : Value} {xs : List Value} (hk : rs[k]? = some ⟨e, sz, v, n, xs⟩) : wr.ownsRow 0 e sz v n xs := h.hold.of_ k hk
theorem own_up {wr : World} {B B' sz n : Nat} {e : TypeId} {v : Value} {xs : List Value} (h : wr.ownsRow B' e sz v n xs) (hn : ∀ i, v.ownBlock = some i → B ≤ i) : wr.ownsRow B e sz v n xs := by
  refine ⟨h.1, ?_⟩
  rcases h.2 with h2 | ⟨g, cap, cur, hv, _, r⟩
  · exact Or.inl h2
  · exact Or.inr ⟨g, cap, cur, hv, hn g (by rw [hv]; rfl), r⟩
/-- a row, from the call's start on -/
theorem Mine.mine (h : Mine w wr bs rs) (k : Nat) {e : TypeId} {sz n : Nat} {v : Value} {xs : List Value} (hk : rs[k]? = some ⟨e, sz, v, n, xs⟩) : wr.ownsRow w.heap.size e sz v n xs :=
  own_up (h.hold.of_ k hk) fun i hi => Nat.le_of_not_lt (h.hold.off k hk i hi)
theorem Hold.drop {G : Nat → Prop} (h : Hold wr G bs rs) (n m : Nat) : Hold wr G (bs.drop n) (rs.drop m) := h.less (List.drop_sublist n bs) fun r hr => List.mem_of_mem_drop hr
theorem Hold.pick {G : Nat → Prop} (h : Hold wr G bs rs) (l m : List Nat) (hl : l.Nodup := by decide) : Hold wr G (l.filterMap fun i => bs[i]?) (m.filterMap fun i => rs[i]?) := by
  refine ⟨fun z hz => ?_, fun r hr => ?_, ?_, h.lt⟩
  · obtain ⟨i, _, hi⟩ := List.mem_filterMap.1 hz
    exact h.box z (List.mem_of_getElem? hi)
  · obtain ⟨i, _, hi⟩ := List.mem_filterMap.1 hr
    exact h.row r (List.mem_of_getElem? hi)
  · rw [List.map_filterMap]
    refine List.Pairwise.filterMap (R := fun x y => x ≠ y) _ ?_ hl
    intro i j hij x hx y hy
    obtain ⟨z, hz, rfl⟩ := Option.map_eq_some_iff.1 hx
    obtain ⟨z', hz', rfl⟩ := Option.map_eq_some_iff.1 hy
    intro e
    have h1 : i < bs.length := by
      rcases Nat.lt_or_ge i bs.length with h | h
      · exact h
      · rw [List.getElem?_eq_none h] at hz; cases hz
    have h2 : j < bs.length := by
      rcases Nat.lt_or_ge j bs.length with h | h
      · exact h
      · rw [List.getElem?_eq_none h] at hz'; cases hz'
    rw [List.getElem?_eq_getElem h1] at hz
    rw [List.getElem?_eq_getElem h2] at hz'
    have e1 := Option.some.inj hz
    have e2 := Option.some.inj hz'
    have h3 := List.getElem_inj (i := i) (j := j) (h₀ := by simpa using h1) (h₁ := by simpa using h2) h.once
    simp [e1, e2] at h3
    exact hij (h3.1 e)
theorem Mine.pick (h : Mine w wr bs rs) (l m : List Nat) (hl : l.Nodup := by decide) : Mine w wr (l.filterMap fun i => bs[i]?) (m.filterMap fun i => rs[i]?) := ⟨h.hold.pick l m hl, h.below⟩
theorem Mine.drop (h : Mine w wr bs rs) (n m : Nat) : Mine w wr (bs.drop n) (rs.drop m) := ⟨h.hold.drop n m, h.below⟩
end

section
variable {w wr w3 : World} {G : Nat → Prop} {bs : List BoxD} {rs : List RowD} {b : Nat} {t : TypeId} {x0 x1 y0 y1 : Value}
end

section
variable {w wr w3 : World} {G : Nat → Prop} {bs : List BoxD} {rs : List RowD} {b : Nat} {t : TypeId} {x0 x1 x2 y0 y1 y2 : Value}
theorem turnB3 (w : World) (b : Nat) (y0 y1 y2 : Value) : Turn (fun i => i = b) w (((w.setCell ⟨b, 0, none⟩ y0).setCell ⟨b, 1, none⟩ y1).setCell ⟨b, 2, none⟩ y2) := ((turn1 _ _ _ _).and (turn1 _ _ _ _)).and (turn1 _ _ _ _)
theorem setB3 (h : Blk w b #[x0, x1, x2] t) (y0 y1 y2 : Value) : Blk (((w.setCell ⟨b, 0, none⟩ y0).setCell ⟨b, 1, none⟩ y1).setCell ⟨b, 2, none⟩ y2) b #[y0, y1, y2] t := by
  unfold Blk at *; simp [World.setCell, Array.getElem?_modify, h]
theorem Hold.put3 (h : Hold wr G bs rs) (k : Nat) (hk : bs[k]? = some ⟨b, #[x0, x1, x2], t⟩) (hq : ((wr.setCell ⟨b, 0, none⟩ y0).setCell ⟨b, 1, none⟩ y1).setCell ⟨b, 2, none⟩ y2 = w3) (hr : rs.all (fun r => r.e != t) = true := by rfl) : Hold w3 G (bs.set k ⟨b, #[y0, y1, y2], t⟩) rs := by
  subst hq; exact h.put k hk (turnB3 _ _ _ _ _) (setB3 (h.at_ k hk) _ _ _) hr
theorem Mine.put3 (h : Mine w wr bs rs) (k : Nat) (hk : bs[k]? = some ⟨b, #[x0, x1, x2], t⟩) (hq : ((wr.setCell ⟨b, 0, none⟩ y0).setCell ⟨b, 1, none⟩ y1).setCell ⟨b, 2, none⟩ y2 = w3) (hr : rs.all (fun r => r.e != t) = true := by rfl) : Mine w w3 (bs.set k ⟨b, #[y0, y1, y2], t⟩) rs := by
  subst hq; exact h.put k hk (turnB3 _ _ _ _ _) (setB3 (h.at_ k hk) _ _ _) hr
end

section
variable {w wr w3 : World} {G : Nat → Prop} {bs : List BoxD} {rs : List RowD} {b : Nat} {t : TypeId} {x0 x1 x2 x3 y0 y1 y2 y3 : Value}
theorem turnB4 (w : World) (b : Nat) (y0 y1 y2 y3 : Value) : Turn (fun i => i = b) w ((((w.setCell ⟨b, 0, none⟩ y0).setCell ⟨b, 1, none⟩ y1).setCell ⟨b, 2, none⟩ y2).setCell ⟨b, 3, none⟩ y3) := (((turn1 _ _ _ _).and (turn1 _ _ _ _)).and (turn1 _ _ _ _)).and (turn1 _ _ _ _)
theorem setB4 (h : Blk w b #[x0, x1, x2, x3] t) (y0 y1 y2 y3 : Value) : Blk ((((w.setCell ⟨b, 0, none⟩ y0).setCell ⟨b, 1, none⟩ y1).setCell ⟨b, 2, none⟩ y2).setCell ⟨b, 3, none⟩ y3) b #[y0, y1, y2, y3] t := by
  unfold Blk at *; simp [World.setCell, Array.getElem?_modify, h]
theorem Hold.put4 (h : Hold wr G bs rs) (k : Nat) (hk : bs[k]? = some ⟨b, #[x0, x1, x2, x3], t⟩) (hq : (((wr.setCell ⟨b, 0, none⟩ y0).setCell ⟨b, 1, none⟩ y1).setCell ⟨b, 2, none⟩ y2).setCell ⟨b, 3, none⟩ y3 = w3) (hr : rs.all (fun r => r.e != t) = true := by rfl) : Hold w3 G (bs.set k ⟨b, #[y0, y1, y2, y3], t⟩) rs := by
  subst hq; exact h.put k hk (turnB4 _ _ _ _ _ _) (setB4 (h.at_ k hk) _ _ _ _) hr
theorem Mine.put4 (h : Mine w wr bs rs) (k : Nat) (hk : bs[k]? = some ⟨b, #[x0, x1, x2, x3], t⟩) (hq : (((wr.setCell ⟨b, 0, none⟩ y0).setCell ⟨b, 1, none⟩ y1).setCell ⟨b, 2, none⟩ y2).setCell ⟨b, 3, none⟩ y3 = w3) (hr : rs.all (fun r => r.e != t) = true := by rfl) : Mine w w3 (bs.set k ⟨b, #[y0, y1, y2, y3], t⟩) rs := by
  subst hq; exact h.put k hk (turnB4 _ _ _ _ _ _) (setB4 (h.at_ k hk) _ _ _ _) hr
end

section
variable {w wr w3 : World} {G : Nat → Prop} {bs : List BoxD} {rs : List RowD} {b : Nat} {t : TypeId} {x0 x1 x2 x3 x4 y0 y1 y2 y3 y4 : Value}
end

section
variable {w wr w3 : World} {G : Nat → Prop} {bs : List BoxD} {rs : List RowD} {b : Nat} {t : TypeId} {x0 x1 x2 x3 x4 x5 y0 y1 y2 y3 y4 y5 : Value}
end

section
variable {w wr w3 : World} {G : Nat → Prop} {bs : List BoxD} {rs : List RowD} {b : Nat} {t : TypeId} {x0 x1 x2 x3 x4 x5 x6 y0 y1 y2 y3 y4 y5 y6 : Value}
theorem turnB7 (w : World) (b : Nat) (y0 y1 y2 y3 y4 y5 y6 : Value) : Turn (fun i => i = b) w (((((((w.setCell ⟨b, 0, none⟩ y0).setCell ⟨b, 1, none⟩ y1).setCell ⟨b, 2, none⟩ y2).setCell ⟨b, 3, none⟩ y3).setCell ⟨b, 4, none⟩ y4).setCell ⟨b, 5, none⟩ y5).setCell ⟨b, 6, none⟩ y6) := ((((((turn1 _ _ _ _).and (turn1 _ _ _ _)).and (turn1 _ _ _ _)).and (turn1 _ _ _ _)).and (turn1 _ _ _ _)).and (turn1 _ _ _ _)).and (turn1 _ _ _ _)
theorem setB7 (h : Blk w b #[x0, x1, x2, x3, x4, x5, x6] t) (y0 y1 y2 y3 y4 y5 y6 : Value) : Blk (((((((w.setCell ⟨b, 0, none⟩ y0).setCell ⟨b, 1, none⟩ y1).setCell ⟨b, 2, none⟩ y2).setCell ⟨b, 3, none⟩ y3).setCell ⟨b, 4, none⟩ y4).setCell ⟨b, 5, none⟩ y5).setCell ⟨b, 6, none⟩ y6) b #[y0, y1, y2, y3, y4, y5, y6] t := by
  unfold Blk at *; simp [World.setCell, Array.getElem?_modify, h]
theorem Hold.put7 (h : Hold wr G bs rs) (k : Nat) (hk : bs[k]? = some ⟨b, #[x0, x1, x2, x3, x4, x5, x6], t⟩) (hq : ((((((wr.setCell ⟨b, 0, none⟩ y0).setCell ⟨b, 1, none⟩ y1).setCell ⟨b, 2, none⟩ y2).setCell ⟨b, 3, none⟩ y3).setCell ⟨b, 4, none⟩ y4).setCell ⟨b, 5, none⟩ y5).setCell ⟨b, 6, none⟩ y6 = w3) (hr : rs.all (fun r => r.e != t) = true := by rfl) : Hold w3 G (bs.set k ⟨b, #[y0, y1, y2, y3, y4, y5, y6], t⟩) rs := by
  subst hq; exact h.put k hk (turnB7 _ _ _ _ _ _ _ _ _) (setB7 (h.at_ k hk) _ _ _ _ _ _ _) hr
theorem Mine.put7 (h : Mine w wr bs rs) (k : Nat) (hk : bs[k]? = some ⟨b, #[x0, x1, x2, x3, x4, x5, x6], t⟩) (hq : ((((((wr.setCell ⟨b, 0, none⟩ y0).setCell ⟨b, 1, none⟩ y1).setCell ⟨b, 2, none⟩ y2).setCell ⟨b, 3, none⟩ y3).setCell ⟨b, 4, none⟩ y4).setCell ⟨b, 5, none⟩ y5).setCell ⟨b, 6, none⟩ y6 = w3) (hr : rs.all (fun r => r.e != t) = true := by rfl) : Mine w w3 (bs.set k ⟨b, #[y0, y1, y2, y3, y4, y5, y6], t⟩) rs := by
  subst hq; exact h.put k hk (turnB7 _ _ _ _ _ _ _ _ _) (setB7 (h.at_ k hk) _ _ _ _ _ _ _) hr
end

section
variable {w wr w3 : World} {G : Nat → Prop} {bs : List BoxD} {rs : List RowD} {b : Nat} {t : TypeId} {x0 x1 x2 x3 x4 x5 x6 x7 y0 y1 y2 y3 y4 y5 y6 y7 : Value}
end

/-- a memory of a law's own, and the law's boxes and rows beside it; nothing older was turned -/
structure Law (w wr : World) (m : Nat) (f : Int → Int) (tr : List Int) (n : Nat) (G : Nat → Prop) (bs : List BoxD) (rs : List RowD) : Prop where
  wk : Wk w wr (From w.heap.size) m 16 f tr n G
  hold : Hold wr G bs rs
  low : ∀ z ∈ bs, w.heap.size ≤ z.b

section
variable {w wr w1 w2 w3 w4 : World} {G G' : Nat → Prop} {bs : List BoxD} {rs : List RowD} {m n n' B sz k : Nat} {f f' : Int → Int} {tr tr' : List Int} {e : TypeId} {v : Value} {xs : List Value}
theorem Law.start (h : Mine w w1 bs rs) (hM : Mem w2 (From w1.heap.size) m 16 f tr n) (hB : Below w1.heap.size w1 w2) : Law w w2 m f tr n (fun i => From w1.heap.size i ∧ i < w2.heap.size) bs rs := by
  have hq := h.quiet hB
  refine ⟨Wk.made hM hq.below h.size, ⟨fun z hz => ⟨(hq.hold.box z hz).1, fun hg => ?_⟩, fun r hr => ⟨(hq.hold.row r hr).1, fun i hi hg => ?_⟩, hq.hold.once, fun i hi => hi.2⟩, fun z hz => Nat.le_of_not_lt (h.hold.box z hz).2⟩
  · have h1 := (h.hold.box z hz).1.lt
    have h2 : w1.heap.size ≤ z.b := hg.1
    omega
  · have h1 := (own_lt (h.hold.row r hr).1 hi).2
    have h2 : w1.heap.size ≤ i := hg.1
    omega
theorem Law.world (h : Law w wr m f tr n G bs rs) (e : wr = w3) : Law w w3 m f tr n G bs rs := e ▸ h
theorem Law.below (h : Law w wr m f tr n G bs rs) : Below w.heap.size w wr := h.wk.belowW
theorem Law.size (h : Law w wr m f tr n G bs rs) : w.heap.size ≤ wr.heap.size := h.wk.belowW.size
theorem Law.quiet (h : Law w wr m f tr n G bs rs) (hb : Below wr.heap.size wr w3) : Law w w3 m f tr n G bs rs := ⟨h.wk.quiet hb, h.hold.quiet hb, h.low⟩
theorem Law.step (h : Law w wr m f tr n G bs rs) (k : Wk wr w4 G m 16 f' tr' n' G') : Law w w4 m f' tr' n' G' bs rs := ⟨h.wk.join k, h.hold.step k, h.low⟩
theorem Law.new (h : Law w wr m f tr n G bs rs) {b : Nat} (hb : wr.heap.size = b) (cs : Array Value) (t : TypeId) : Law w (wr.alloc (.cells cs t)) m f tr n G (⟨b, cs, t⟩ :: bs) rs := by
  subst hb; exact ⟨h.wk.quiet (below_alloc1 _ _), h.hold.new cs t, fun z hz => by
    rcases List.mem_cons.1 hz with rfl | hz
    · exact h.size
    · exact h.low z hz⟩
theorem Law.got (h : Law w wr m f tr n G bs rs) (hr : wr.ownsRow B e sz v k xs) (hv : ∀ i, v.ownBlock = some i → ¬ G i) : Law w wr m f tr n G bs (⟨e, sz, v, k, xs⟩ :: rs) := ⟨h.wk, h.hold.got hr hv, h.low⟩
/-- a row that a quiet call made -/
theorem Law.made (h : Law w wr m f tr n G bs rs) (hb : Below wr.heap.size wr w3) (hr : w3.ownsRow B e sz v k xs) (hB : wr.heap.size ≤ B) : Law w w3 m f tr n G bs (⟨e, sz, v, k, xs⟩ :: rs) :=
  (h.quiet hb).got hr fun i hi hg => by have := h.hold.lt i hg; have := (own_lt hr hi).1; omega
theorem Law.at_ (h : Law w wr m f tr n G bs rs) (k : Nat) {b : Nat} {cs : Array Value} {t : TypeId} (hk : bs[k]? = some ⟨b, cs, t⟩) : Blk wr b cs t := h.hold.at_ k hk
theorem Law.no (h : Law w wr m f tr n G bs rs) (k : Nat) {b : Nat} {cs : Array Value} {t : TypeId} (hk : bs[k]? = some ⟨b, cs, t⟩) : ¬ G b := h.hold.no k hk
theorem Law.of_ (h : Law w wr m f tr n G bs rs) (k : Nat) {e : TypeId} {sz n : Nat} {v : Value} {xs : List Value} (hk : rs[k]? = some ⟨e, sz, v, n, xs⟩) : wr.ownsRow 0 e sz v n xs := h.hold.of_ k hk
theorem Law.off (h : Law w wr m f tr n G bs rs) (k : Nat) {e : TypeId} {sz n : Nat} {v : Value} {xs : List Value} (hk : rs[k]? = some ⟨e, sz, v, n, xs⟩) : ∀ i, v.ownBlock = some i → ¬ G i := h.hold.off k hk
theorem Law.put (h : Law w wr m f tr n G bs rs) (k : Nat) {b : Nat} {cs cs' : Array Value} {t : TypeId} (hk : bs[k]? = some ⟨b, cs, t⟩) (ht : Turn (fun i => i = b) wr w3) (hb : Blk w3 b cs' t) (hr : rs.all (fun r => r.e != t) = true := by rfl) : Law w w3 m f tr n G (bs.set k ⟨b, cs', t⟩) rs :=
  ⟨h.wk.set ht (h.hold.no k hk) (h.low _ (List.mem_of_getElem? hk)), h.hold.put k hk ht hb hr, fun z hz => by
    rcases List.mem_or_eq_of_mem_set hz with hz | rfl
    · exact h.low z hz
    · exact h.low ⟨b, cs, t⟩ (List.mem_of_getElem? hk)⟩
theorem Law.pick (h : Law w wr m f tr n G bs rs) (l k : List Nat) (hl : l.Nodup := by decide) : Law w wr m f tr n G (l.filterMap fun i => bs[i]?) (k.filterMap fun i => rs[i]?) := ⟨h.wk, h.hold.pick l k hl, fun z hz => by
    obtain ⟨i, _, hi⟩ := List.mem_filterMap.1 hz
    exact h.low z (List.mem_of_getElem? hi)⟩
end

/-- two memories of a law's own, apart -/
structure Law2 (w wr : World) (m : Nat) (f : Int → Int) (tr : List Int) (n : Nat) (G : Nat → Prop) (m0 : Nat) (f0 : Int → Int) (tr0 : List Int) (n0 : Nat) (H : Nat → Prop) (bs : List BoxD) (rs : List RowD) : Prop where
  m : Wk w wr (From w.heap.size) m 16 f tr n G
  k : Wk w wr (From w.heap.size) m0 16 f0 tr0 n0 H
  free : ∀ i, G i → ¬ H i
  hold : Hold wr (fun i => G i ∨ H i) bs rs

section
variable {w wr w1 w2 w3 w4 : World} {G G' H H' : Nat → Prop} {bs : List BoxD} {rs : List RowD} {m m0 n n' n0 n0' B sz k : Nat} {f f' f0 f0' : Int → Int} {tr tr' tr0 tr0' : List Int} {e : TypeId} {v : Value} {xs : List Value}
theorem Law.stepGot (h : Law w wr m f tr n G bs rs) (j : Wk wr w4 G m 16 f' tr' n' G') (hr : w4.ownsRow B e sz v k xs) (hv : ∀ i, v.ownBlock = some i → ¬ G' i) : Law w w4 m f' tr' n' G' bs (⟨e, sz, v, k, xs⟩ :: rs) := (h.step j).got hr hv
/-- a second memory was made -/
theorem Law.two (h : Law w wr m f tr n G bs rs) (hM : Mem w3 (From wr.heap.size) m0 16 f0 tr0 n0) (hB : Below wr.heap.size wr w3) : Law2 w w3 m f tr n G m0 f0 tr0 n0 (fun i => From wr.heap.size i ∧ i < w3.heap.size) bs rs := by
  have hq := h.quiet hB
  refine ⟨hq.wk, Wk.made hM hq.below h.size, fun i hi hg => ?_, fun z hz => ⟨(hq.hold.box z hz).1, ?_⟩, fun r hr => ⟨(hq.hold.row r hr).1, fun i hi => ?_⟩, hq.hold.once, ?_⟩
  · have h1 := h.hold.lt i hi
    have h2 : wr.heap.size ≤ i := hg.1
    omega
  · rintro (hg | hg)
    · exact (hq.hold.box z hz).2 hg
    · have h1 := (h.hold.box z hz).1.lt
      have h2 : wr.heap.size ≤ z.b := hg.1
      omega
  · rintro (hg | hg)
    · exact (hq.hold.row r hr).2 i hi hg
    · have h1 := (own_lt (h.hold.row r hr).1 hi).2
      have h2 : wr.heap.size ≤ i := hg.1
      omega
  · rintro i (hg | hg)
    · exact hq.hold.lt i hg
    · exact hg.2
theorem Law2.world (h : Law2 w wr m f tr n G m0 f0 tr0 n0 H bs rs) (e : wr = w3) : Law2 w w3 m f tr n G m0 f0 tr0 n0 H bs rs := e ▸ h
theorem Law2.below (h : Law2 w wr m f tr n G m0 f0 tr0 n0 H bs rs) : Below w.heap.size w wr := h.m.belowW
theorem Law2.quiet (h : Law2 w wr m f tr n G m0 f0 tr0 n0 H bs rs) (hb : Below wr.heap.size wr w3) : Law2 w w3 m f tr n G m0 f0 tr0 n0 H bs rs := ⟨h.m.quiet hb, h.k.quiet hb, h.free, h.hold.quiet hb⟩
theorem Law2.swap (h : Law2 w wr m f tr n G m0 f0 tr0 n0 H bs rs) : Law2 w wr m0 f0 tr0 n0 H m f tr n G bs rs :=
  ⟨h.k, h.m, fun i hi hg => h.free i hg hi, fun z hz => ⟨(h.hold.box z hz).1, fun hg => (h.hold.box z hz).2 hg.symm⟩, fun r hr => ⟨(h.hold.row r hr).1, fun i hi hg => (h.hold.row r hr).2 i hi hg.symm⟩, h.hold.once, fun i hi => h.hold.lt i hi.symm⟩
theorem Law2.step (h : Law2 w wr m f tr n G m0 f0 tr0 n0 H bs rs) (j : Wk wr w4 G m 16 f' tr' n' G') : Law2 w w4 m f' tr' n' G' m0 f0 tr0 n0 H bs rs := by
  refine ⟨h.m.join j, h.k.other j.turn (fun i _ hg hh => h.free i hg hh) (fun i hi => (h.m.foot i hi).2), fun i hi hh => j.free (fun hg => h.free i hg hh) (h.k.foot i hh).1 hi, ?_⟩
  have hb : ∀ i, ¬ (G i ∨ H i) → i < wr.heap.size → ¬ (G' i ∨ H i) := fun i hn hl hg => by
    rcases hg with hg | hg
    · exact j.free (fun h' => hn (Or.inl h')) hl hg
    · exact hn (Or.inr hg)
  exact ⟨fun z hz => ⟨(h.hold.box z hz).1.turn j.turn (fun hg => (h.hold.box z hz).2 (Or.inl hg)), hb _ (h.hold.box z hz).2 (h.hold.box z hz).1.lt⟩,
    fun r hr => ⟨own_turn (h.hold.row r hr).1 j.turn (fun i hi hg => (h.hold.row r hr).2 i hi (Or.inl hg)), fun i hi => hb i ((h.hold.row r hr).2 i hi) (own_lt (h.hold.row r hr).1 hi).2⟩, h.hold.once,
    fun i hi => hi.elim (fun hg => (j.foot i hg).1) (fun hg => Nat.lt_of_lt_of_le (h.k.foot i hg).1 j.turn.size)⟩
theorem Law2.got (h : Law2 w wr m f tr n G m0 f0 tr0 n0 H bs rs) (hr : wr.ownsRow B e sz v k xs) (hv : ∀ i, v.ownBlock = some i → ¬ G i) (hh : ∀ i, v.ownBlock = some i → ¬ H i) : Law2 w wr m f tr n G m0 f0 tr0 n0 H bs (⟨e, sz, v, k, xs⟩ :: rs) :=
  ⟨h.m, h.k, h.free, h.hold.got hr fun i hi hg => hg.elim (hv i hi) (hh i hi)⟩
theorem Law2.stepGot (h : Law2 w wr m f tr n G m0 f0 tr0 n0 H bs rs) (j : Wk wr w4 G m 16 f' tr' n' G') (hr : w4.ownsRow B e sz v k xs) (hB : wr.heap.size ≤ B) (hv : ∀ i, v.ownBlock = some i → ¬ G' i) : Law2 w w4 m f' tr' n' G' m0 f0 tr0 n0 H bs (⟨e, sz, v, k, xs⟩ :: rs) :=
  (h.step j).got hr hv fun i hi hg => by have := (h.k.foot i hg).1; have := (own_lt hr hi).1; omega
theorem Law2.new (h : Law2 w wr m f tr n G m0 f0 tr0 n0 H bs rs) {b : Nat} (hb : wr.heap.size = b) (cs : Array Value) (t : TypeId) : Law2 w (wr.alloc (.cells cs t)) m f tr n G m0 f0 tr0 n0 H (⟨b, cs, t⟩ :: bs) rs := by
  subst hb; exact ⟨h.m.quiet (below_alloc1 _ _), h.k.quiet (below_alloc1 _ _), h.free, h.hold.new cs t⟩
theorem Law2.at_ (h : Law2 w wr m f tr n G m0 f0 tr0 n0 H bs rs) (k : Nat) {b : Nat} {cs : Array Value} {t : TypeId} (hk : bs[k]? = some ⟨b, cs, t⟩) : Blk wr b cs t := h.hold.at_ k hk
theorem Law2.of_ (h : Law2 w wr m f tr n G m0 f0 tr0 n0 H bs rs) (k : Nat) {e : TypeId} {sz n' : Nat} {v : Value} {xs : List Value} (hk : rs[k]? = some ⟨e, sz, v, n', xs⟩) : wr.ownsRow 0 e sz v n' xs := h.hold.of_ k hk
theorem Law2.off (h : Law2 w wr m f tr n G m0 f0 tr0 n0 H bs rs) (k : Nat) {e : TypeId} {sz n' : Nat} {v : Value} {xs : List Value} (hk : rs[k]? = some ⟨e, sz, v, n', xs⟩) : (∀ i, v.ownBlock = some i → ¬ G i) ∧ ∀ i, v.ownBlock = some i → ¬ H i :=
  ⟨fun i hi hg => h.hold.off k hk i hi (Or.inl hg), fun i hi hg => h.hold.off k hk i hi (Or.inr hg)⟩
end

section
variable {w wr w3 : World} {G : Nat → Prop} {bs : List BoxD} {rs : List RowD} {m n b : Nat} {f : Int → Int} {tr : List Int} {t : TypeId}
theorem Law.put3 {x0 x1 x2 y0 y1 y2 : Value} (h : Law w wr m f tr n G bs rs) (k : Nat) (hk : bs[k]? = some ⟨b, #[x0, x1, x2], t⟩) (hq : ((wr.setCell ⟨b, 0, none⟩ y0).setCell ⟨b, 1, none⟩ y1).setCell ⟨b, 2, none⟩ y2 = w3) (hr : rs.all (fun r => r.e != t) = true := by rfl) : Law w w3 m f tr n G (bs.set k ⟨b, #[y0, y1, y2], t⟩) rs := by
  subst hq; exact h.put k hk (turnB3 _ _ _ _ _) (setB3 (h.at_ k hk) _ _ _) hr
theorem Law.put4 {x0 x1 x2 x3 y0 y1 y2 y3 : Value} (h : Law w wr m f tr n G bs rs) (k : Nat) (hk : bs[k]? = some ⟨b, #[x0, x1, x2, x3], t⟩) (hq : (((wr.setCell ⟨b, 0, none⟩ y0).setCell ⟨b, 1, none⟩ y1).setCell ⟨b, 2, none⟩ y2).setCell ⟨b, 3, none⟩ y3 = w3) (hr : rs.all (fun r => r.e != t) = true := by rfl) : Law w w3 m f tr n G (bs.set k ⟨b, #[y0, y1, y2, y3], t⟩) rs := by
  subst hq; exact h.put k hk (turnB4 _ _ _ _ _ _) (setB4 (h.at_ k hk) _ _ _ _) hr
theorem Law.put7 {x0 x1 x2 x3 x4 x5 x6 y0 y1 y2 y3 y4 y5 y6 : Value} (h : Law w wr m f tr n G bs rs) (k : Nat) (hk : bs[k]? = some ⟨b, #[x0, x1, x2, x3, x4, x5, x6], t⟩) (hq : ((((((wr.setCell ⟨b, 0, none⟩ y0).setCell ⟨b, 1, none⟩ y1).setCell ⟨b, 2, none⟩ y2).setCell ⟨b, 3, none⟩ y3).setCell ⟨b, 4, none⟩ y4).setCell ⟨b, 5, none⟩ y5).setCell ⟨b, 6, none⟩ y6 = w3) (hr : rs.all (fun r => r.e != t) = true := by rfl) : Law w w3 m f tr n G (bs.set k ⟨b, #[y0, y1, y2, y3, y4, y5, y6], t⟩) rs := by
  subst hq; exact h.put k hk (turnB7 _ _ _ _ _ _ _ _ _) (setB7 (h.at_ k hk) _ _ _ _ _ _ _) hr
end
/-- nothing that was there has turned -/
structure Grow (w wr : World) : Prop where
  h : Below w.heap.size w wr
theorem Grow.quiet {w wr w3 : World} (g : Grow w wr) (hb : Below wr.heap.size wr w3) : Grow w w3 := ⟨g.h.trans (hb.mono g.h.size)⟩
theorem Grow.put {w wr w3 : World} {b : Nat} (g : Grow w wr) (hb : w.heap.size ≤ b) (ht : Turn (fun i => i = b) wr w3) : Grow w w3 := ⟨turn_below g.h ht hb g.h.size⟩

/- steps of a region that draws its order, in few words -/
section
variable {P : Program} {ops : Array Oper} {Q : Exit → Act → World → Prop} {md : Region.Mode} {S : World → Prop}
theorem share {T G : Prop} (ht : T) (h : T → G) : G := h ht
/-- number i is taken first -/
theorem tk (i : Nat) {oi : Oper} {rest : List Oper} {v : Value} {fuel : Nat} {listed : Array Bool} {a : Act} {w : World}
    (hy : ∀ w, S w → (execOp a.eval oi).run P w = .ok (.value v) w) (h : wpAnyH P md ops Q S fuel (listed.setIfInBounds i true) (a.put oi.dst v) w)
    (hi : ops.toList.drop i = oi :: rest := by rfl) (hs : Region.noSelect ops = true := by kernel_rfl) (hf : Region.free md ops listed i = true := by kernel_rfl) (hr : (Region.ready md ops listed).contains i = true := by kernel_rfl)
    (hQ : ∀ c a w, Q (.panic c) (a.put oi.dst v) w → Q (.panic c) a w := by exact fun _ _ _ h => h) (hwt : Region.wanted oi (yielded ops a.tmps) = true := by rfl) (hS : S w := by assumption) : wpAnyH P md ops Q S (fuel + 1) listed a w :=
  anyH_take hi hs hf hr hQ hwt hS hy h
end
end Go.Proofs.YtopmmlcjlopmaaaGreatDoor
/- Layer 9: Translate in a memory of 16 bits, by what its path allows; the page fault's and the law's awake. -/
namespace Go.Proofs.YtopmmlcjlopmaaaGreatDoor
set_option linter.unusedVariables false
set_option linter.unusedSimpArgs false
open Go.ChangeShapes Go.WideShapes Go.ChangeAt Go.RowKit Go.Joins

theorem walk_four (f : Int → Int) (hw : ∀ s, W64 (f s)) (a : Int) (nxe : Bool) (t : Int) (W U X : Bool) (P : Pth) (hP : walkZ 16 f a nxe 4 t W U X = P) : Snd f 4 P ∧ P.steps.length ≤ 4 ∧ ∀ k, k < P.steps.length → W64 (stepAt P.steps k).2.1 ∧ W64 (stepAt P.steps k).2.2 := by
  have hs := walk_snd f hw a nxe 4 (by decide) t W U X
  rw [show ((4 : Nat) : Int) = 4 from rfl, hP] at hs
  have := hs.len
  refine ⟨hs, by omega, fun k hk => ?_⟩
  obtain ⟨h1, h2, h3⟩ := hs.at_ k hk
  exact ⟨slot_w8 h1 h3, by rw [h2]; exact hw _⟩

section
variable {w : World} {F : Nat → Prop} {m : Nat} {f : Int → Int} {tr : List Int} {n : Nat}
theorem trans_no (h : Mem w F m 16 f tr n) (hn : n < 800000) (h0 : ¬ F 1) (hs : Shifts w) (u : Usx) (a : Int) (hr : W64 u.root) (ha : W64 a) (hc : canonF a = true) (P : Pth) (hP : walkZ 16 f a u.nxe 4 (tableF u.root) true true true = P) (hm : jmay P u = false) :
    Calls Tryz.prog 9 #[.pointer (some ⟨m, 0, none⟩), useV u, .int .u64 a] w fun e w' => ∃ (v : Value) (G : Nat → Prop) (g : Nat), e = .returned (.tuple #[.int .u64 0, .agg (pathCells v P), .iface 111 (.pointer (some ⟨g, 0, none⟩))]) ∧ PageIn w' 0 111 (.pointer (some ⟨g, 0, none⟩)) a (jcode P u) ∧ Tro w w' F m 16 f (tr ++ slotsP P.steps) (n + 5) G v P := by
  have hf := walk_four f h.words a u.nxe (tableF u.root) true true true P hP
  refine (trans_any h hn h0 hs u a hr ha hc P hP hf.2.1 fun k hk => (hf.2.2 k hk).1).mono ?_
  rintro e w' ⟨v, G, ⟨h1, _⟩ | ⟨_, g, he, hp, ho⟩⟩
  · rw [hm] at h1; cases h1
  · exact ⟨v, G, g, he, hp, ho⟩
theorem trans_yes (h : Mem w F m 16 f tr n) (hn : n < 800000) (h0 : ¬ F 1) (hs : Shifts w) (u : Usx) (a : Int) (hr : W64 u.root) (ha : W64 a) (hc : canonF a = true) (P : Pth) (hP : walkZ 16 f a u.nxe 4 (tableF u.root) true true true = P) (hm : jmay P u = true) :
    Calls Tryz.prog 9 #[.pointer (some ⟨m, 0, none⟩), useV u, .int .u64 a] w fun e w' => ∃ (v : Value) (G : Nat → Prop), e = .returned (.tuple #[.int .u64 (jpa P a), .agg (pathCells v P), .nilIface]) ∧ Tro w w' F m 16 (markN 16 f P.steps (u.k == 2) P.steps.length) (tr ++ slotsP P.steps) (n + 5 + P.steps.length) G v P := by
  have hf := walk_four f h.words a u.nxe (tableF u.root) true true true P hP
  refine (trans_any h hn h0 hs u a hr ha hc P hP hf.2.1 fun k hk => (hf.2.2 k hk).1).mono ?_
  rintro e w' ⟨v, G, ⟨_, he, ho⟩ | ⟨h1, _⟩⟩
  · exact ⟨v, G, he, ho⟩
  · rw [hm] at h1; cases h1
end

def useA : Usx := ⟨0, 2, true, false, false, false, false, false⟩
abbrev useAV : Value := .agg #[.int .u64 0, .int .i64 2, .bool true, .bool false, .bool false, .bool false, .bool false, .bool false]
abbrev pathA1 (v : Value) : Value := .agg #[v, .int .i64 1, .bool false, .bool false, .bool false, .int .i64 0, .int .u64 0]
abbrev pathA2 (v : Value) : Value := .agg #[v, .int .i64 0, .bool true, .bool true, .bool true, .int .i64 1, .int .u64 16384]
theorem aw9a : walkZ 16 (fun _ => 0) 0 false 4 (tableF 0) true true true = ⟨[(4, 0, 0)], 1, false, false, false, 0, 0⟩ := by kernel_rfl
theorem aw9b : walkZ 16 (putSt tinyP 4) 291 false 4 (tableF 0) true true true = ⟨[(4, 0, 4103), (3, 4096, 8199), (2, 8192, 12295), (1, 12288, 16391)], 0, true, true, true, 1, 16384⟩ := by kernel_rfl
theorem aw9c : jmay ⟨[(4, 0, 0)], 1, false, false, false, 0, 0⟩ useA = false := by decide
theorem aw9d : jmay ⟨[(4, 0, 4103), (3, 4096, 8199), (2, 8192, 12295), (1, 12288, 16391)], 0, true, true, true, 1, 16384⟩ useA = true := by decide
theorem aw9e : jcode ⟨[(4, 0, 0)], 1, false, false, false, 0, 0⟩ useA = 6 := by decide
theorem aw9f : jpa ⟨[(4, 0, 4103), (3, 4096, 8199), (2, 8192, 12295), (1, 12288, 16391)], 0, true, true, true, 1, 16384⟩ 291 = 16675 := by decide +kernel

theorem trans_aw1 {w : World} {B m : Nat} {tr : List Int} {n : Nat} (h : Mem w (From B) m 16 (fun _ => 0) tr n) (hn : n < 800000) (h0 : 1 < B) (hB : B ≤ w.heap.size) (hs : Shifts w) :
    Calls Tryz.prog 9 #[.pointer (some ⟨m, 0, none⟩), useAV, .int .u64 0] w fun e w' => ∃ (A : Option Addr) (c g : Nat), e = .returned (.tuple #[.int .u64 0, pathA1 (.slice A 1 c), .iface 111 (.pointer (some ⟨g, 0, none⟩))]) ∧ PageIn w' 0 111 (.pointer (some ⟨g, 0, none⟩)) 0 6 ∧ Below B w w' := by
  refine (trans_no h hn (from_not0 h0) hs useA 0 w0 w0 (by decide) _ aw9a aw9c).mono ?_
  rintro e w' ⟨v, G, g, rfl, hp, ho⟩
  obtain ⟨A, c, rfl⟩ := ho.own.form
  rw [aw9e] at hp
  exact ⟨A, c, g, rfl, hp, wk_below ho.wk hB⟩
theorem trans_aw2 {w : World} {B m : Nat} {tr : List Int} {n : Nat} (h : Mem w (From B) m 16 (putSt tinyP 4) tr n) (hn : n < 800000) (h0 : 1 < B) (hB : B ≤ w.heap.size) (hs : Shifts w) :
    Calls Tryz.prog 9 #[.pointer (some ⟨m, 0, none⟩), useAV, .int .u64 291] w fun e w' => ∃ (A : Option Addr) (c : Nat), e = .returned (.tuple #[.int .u64 16675, pathA2 (.slice A 4 c), .nilIface]) ∧ Below B w w' := by
  refine (trans_yes h hn (from_not0 h0) hs useA 291 w0 ⟨by decide, by decide⟩ (by decide +kernel) _ aw9b aw9d).mono ?_
  rintro e w' ⟨v, G, rfl, ho⟩
  obtain ⟨A, c, rfl⟩ := ho.own.form
  rw [aw9f]
  exact ⟨A, c, rfl, wk_below ho.wk hB⟩

theorem tiny_in (w : World) : PutsIn (w.alloc (.cells #[.int .u16 0, .int .u16 1, .int .u8 7, .int .u64 0, .int .u16 8, .int .u16 2, .int .u8 7, .int .u64 0, .int .u16 16, .int .u16 3, .int .u8 7, .int .u64 0, .int .u16 24, .int .u16 4, .int .u8 7, .int .u64 0] 76)) (some ⟨w.heap.size, 0, none⟩) tinyP := by
  intro k hk
  have hk4 : k < 4 := hk
  have : k = 0 ∨ k = 1 ∨ k = 2 ∨ k = 3 := by omega
  rcases this with rfl | rfl | rfl | rfl <;> exact ⟨_, rfl, by simp [Addr.add, tinyP], by simp [Addr.add, tinyP], by simp [Addr.add, tinyP], by simp [Addr.add, tinyP]⟩

set_option maxRecDepth 100000 in
theorem awake9_any (w : World) (hs : Shifts w) (hg : ErrT w) :
    Calls Tryz.prog 7 #[] w fun e w' => e = .returned (.bool true) ∧ Below w.heap.size w w' := by
  have HS := Lib.hid hs
  have HG := Lib.hid hg
  have hz := size_shifts hs
  clear hs hg
  go_enter Tryz.func7, Tryz.ntmps7
  go_upto_region 5 with (first | (go_at_call 24; refine (newMem_any 16 _ ⟨by decide, by decide⟩).mono ?_; rintro e w1 ⟨rfl, hM1, hB1⟩; have HM1 := Lib.hid hM1; have HB1 := Lib.hid hB1; have HS1 := Lib.hid (shifts_under HS.out hB1 hz); clear hM1 hB1) | (go_at_call 9; refine (trans_aw1 HM1.out (by decide) hz HB1.out.size HS1.out).mono ?_; rintro e w2 ⟨A2, c2, g2, rfl, hP2, hB2⟩; have HP2 := Lib.hid hP2; have H2 := Lib.hid (Mine.start w |>.quiet (HB1.out.trans hB2)); clear hP2 hB2 HM1 HB1 HS1))
  generalize hw3 : w2.alloc _ = w3
  have H3 := Lib.hid ((H2.out.new (b := w2.heap.size) rfl _ _).world hw3)
  have HP3 := Lib.hid (page_keep HP2.out (show Kept w2 w3 by rw [← hw3]; exact below_alloc1 _ _))
  clear hw3 HP2 H2
  go_upto_region 6 with (first | (go_at_call 18; refine (of_pageIn 0 _ _ 0 6 _ (errT_keep HG.out H3.out.below) HP3.out).mono ?_; rintro e w4 ⟨rfl, hk4⟩; have H4 := Lib.hid (H3.out.quiet hk4); clear hk4 H3 HP3))
  generalize hw5 : w4.alloc _ = w5
  have H5 := Lib.hid ((H4.out.new (b := w4.heap.size) rfl _ _).world hw5)
  have HS5 := Lib.hid (shifts_under HS.out H5.out.below hz)
  clear hw5 H4
  go_upto_region 7 with (first | (go_at_call 8; refine (built_any _ _ 4 tinyP (by decide) (tiny_in _) tiny_ok).mono ?_; rintro e w6 ⟨rfl, hM6, hB6⟩; simp only [World.size_alloc] at hM6 hB6 ⊢; rw [show mostP tinyP = 4 from rfl] at hM6; have HM6 := Lib.hid hM6; have HL6 : Hid (w5.heap.size + 1 ≤ w6.heap.size) := Lib.hid (by have := hB6.size; simp at this; exact this); have HB6 := Lib.hid ((below_alloc1 w5 _).trans (hB6.mono (Nat.le_succ _))); have HS6 := Lib.hid (shifts_under HS5.out HB6.out (size_shifts HS5.out)); clear hM6 hB6))
  have hz5 : 1 < w5.heap.size + 1 := Nat.lt_succ_of_lt (size_shifts HS5.out)
  go_upto_region 8 with (first | (go_at_call 9; refine (trans_aw2 HM6.out (by decide) hz5 HL6.out HS6.out).mono ?_; rintro e w7 ⟨A7, c7, rfl, hB7⟩; have H7 := Lib.hid (H5.out.quiet (HB6.out.trans (hB7.mono (Nat.le_succ _)))); clear hB7 HM6 H5))
  generalize hw8 : w7.alloc _ = w8
  have H8 := Lib.hid ((H7.out.new (b := w7.heap.size) rfl _ _).world hw8)
  clear hw8 H7
  obtain ⟨d0, d1⟩ := (H8.out.at_ 1 rfl).two
  go_wp2
  go_ret
  exact ⟨rfl, H8.out.below⟩
end Go.Proofs.YtopmmlcjlopmaaaGreatDoor
/- slices.Sort at uint64, at fewer than fifty: a row of words and what turns; cmp.Less; insertionSortOrdered. -/
namespace Go.Proofs.YtopmmlcjlopmaaaGreatDoor
set_option linter.unusedVariables false
set_option linter.unusedSimpArgs false
open Go.ChangeShapes Go.WideShapes Go.ChangeAt Go.RowKit
open Go.Sort (swp insInner insOuter insertionSort ltInt)

/-- block g is a row of N words, of which the first are d -/
def Row (w : World) (g N : Nat) (d : Array Int) : Prop := ∃ c : Array Value, w.heap[g]? = some (.cells c 23 (0, 0)) ∧ c.size = N ∧ d.size ≤ N ∧ ∀ i, i < d.size → c[i]? = some (.int .u64 d[i]!)

/-- w' is w but for the row, which is d, and new blocks -/
structure Srt (w w' : World) (g N : Nat) (d : Array Int) : Prop where
  turn : Turn (fun i => i = g) w w'
  row : Row w' g N d

section
variable {w w' w2 : World} {g N : Nat} {d d' : Array Int}

theorem Row.cell (h : Row w g N d) {i : Nat} (hi : i < d.size) : w.cell? ⟨g, i, none⟩ = some (.int .u64 d[i]!) := by
  obtain ⟨c, hc, _, _, hv⟩ := h
  simp only [World.cell?]
  rw [hc]
  exact hv i hi
theorem Row.free (h : Row w g N d) (i : Nat) : w.frozen? ⟨g, i, none⟩ = false := by
  obtain ⟨c, hc, _⟩ := h
  simp [World.frozen?, hc]
theorem Row.lt (h : Row w g N d) : g < w.heap.size := by
  obtain ⟨c, hc, _⟩ := h
  exact lt_of_block hc
theorem Row.drewN (h : Row w g N d) (n : Nat) : Row (w.drewN n) g N d := h
theorem Row.set (h : Row w g N d) {i : Nat} (hi : i < d.size) (x : Int) : Row (w.setCell ⟨g, i, none⟩ (.int .u64 x)) g N (d.setIfInBounds i x) := by
  obtain ⟨c, hc, hN, hd, hv⟩ := h
  refine ⟨c.setIfInBounds i (.int .u64 x), ?_, by simpa using hN, by simpa using hd, fun j hj => ?_⟩
  · simp [World.setCell, Array.getElem?_modify, hc]
  · have hj' : j < d.size := by simpa using hj
    rw [Array.getElem?_setIfInBounds]
    by_cases e : j = i
    · subst e
      rw [if_pos rfl, if_pos (by omega), Sort.getElem!_set_same d j x hi]
    · rw [if_neg (fun h => e h.symm), hv j hj', Sort.getElem!_set_other d i j x e]
theorem Srt.start (h : Row w g N d) : Srt w w g N d := ⟨Turn.refl _ _, h⟩
theorem Srt.drew (h : Srt w w' g N d) : Srt w w'.drew g N d := ⟨⟨h.turn.os, h.turn.tape, h.turn.output, h.turn.size, h.turn.block⟩, h.row⟩
theorem Srt.drewN (h : Srt w w' g N d) (n : Nat) : Srt w (w'.drewN n) g N d := ⟨⟨h.turn.os, h.turn.tape, h.turn.output, h.turn.size, h.turn.block⟩, h.row⟩
theorem Srt.trans (h : Srt w w' g N d) (k : Srt w' w2 g N d') : Srt w w2 g N d' := ⟨h.turn.trans (k.turn.mono fun i _ hi => Or.inl hi), k.row⟩
theorem Srt.swap (h : Srt w w' g N d) {i j : Nat} (hi : i < d.size) (hj : j < d.size) : Srt w ((w'.setCell ⟨g, i, none⟩ (.int .u64 d[j]!)).setCell ⟨g, j, none⟩ (.int .u64 d[i]!)) g N (swp d i j) :=
  ⟨h.turn.trans (Turn.trans (Turn.setCell _ _ _ _ (Or.inl rfl)) ((Turn.setCell _ _ _ _ (Or.inl (Or.inl rfl))))), (h.row.set hi _).set (by simpa using hj) _⟩
theorem Srt.swap' (h : Srt w w' g N d) {i j : Nat} (hi : i < d.size) (hj : j < d.size) {x y : Int} (hx : d[i]! = x) (hy : d[j]! = y) : Srt w ((w'.setCell ⟨g, i, none⟩ (.int .u64 y)).setCell ⟨g, j, none⟩ (.int .u64 x)) g N (swp d i j) := by
  rw [← hx, ← hy]; exact h.swap hi hj
theorem Srt.alloc (h : Srt w w' g N d) (o : Obj) : Srt w (w'.alloc o) g N d := by
  refine ⟨h.turn.trans (Turn.alloc _ _ _), ?_⟩
  obtain ⟨c, hc, r⟩ := h.row
  exact ⟨c, (Below.heap_alloc _ _ _ (lt_of_block hc)).trans hc, r⟩
end

theorem isNaN_any (x : Int) (w : World) : Calls Tryz.prog 140 #[.int .u64 x] w fun e w' => e = .returned (.bool false) ∧ w = w' := by
  go_enter Tryz.func140, Tryz.ntmps140
  go_wp2
  go_ret
  exact ⟨by simp, rfl⟩

theorem less_any (x y : Int) (w : World) : Calls Tryz.prog 130 #[.int .u64 x, .int .u64 y] w fun e w' => e = .returned (.bool (ltInt x y)) ∧ w = w' := by
  go_enter Tryz.func130, Tryz.ntmps130
  go_wp2_with (go_at_call 140; refine (isNaN_any _ _).mono ?_; rintro e w' ⟨rfl, rfl⟩)
  go_ret
  exact ⟨rfl, rfl⟩

theorem insOuter_more {a b i : Nat} {d : Array Int} (h : i < b) : insOuter ltInt a b i d = insOuter ltInt a b (i + 1) (insInner ltInt a i d) := by
  rw [insOuter, if_pos h]
theorem insOuter_end {a b i : Nat} {d : Array Int} (h : ¬ i < b) : insOuter ltInt a b i d = d := by
  rw [insOuter, if_neg h]

theorem ins_stop {a j : Nat} {d : Array Int} (h : j ≤ a) : insInner ltInt a j d = d := by
  rcases j with _ | q
  · rfl
  · simp only [insInner]
    rw [if_neg (by simp; omega)]
theorem ins_stop2 {a q : Nat} {d : Array Int} (h : ltInt d[q + 1]! d[q]! = false) : insInner ltInt a (q + 1) d = d := by
  simp only [insInner]
  rw [h]; simp
theorem ins_go {a q : Nat} {d : Array Int} (h0 : a < q + 1) (h : ltInt d[q + 1]! d[q]! = true) : insInner ltInt a (q + 1) d = insInner ltInt a q (swp d (q + 1) q) := by
  simp only [insInner]
  rw [h, if_pos (by simp; omega)]

set_option maxRecDepth 100000 in
set_option maxHeartbeats 4000000 in
theorem ins_any (w : World) (g N cap : Nat) (d : Array Int) (a b : Nat) (hS : Row w g N d) (hab : a ≤ b) (hb : b ≤ d.size) (hn : d.size < 50) :
    Calls Tryz.prog 124 #[.slice (some ⟨g, 0, none⟩) d.size cap, .int .i64 a, .int .i64 b] w fun e w' => e = .returned (.tuple #[]) ∧ Srt w w' g N (insertionSort ltInt d a b) ∧ (insertionSort ltInt d a b).size = d.size := by
  obtain ⟨n, hnd⟩ : ∃ n, d.size = n := ⟨_, rfl⟩
  rw [hnd] at hb hn ⊢
  go_enter Tryz.func124, Tryz.ntmps124
  go_wp2
  go_loopw [6] (fun v wr => ∃ (i : Nat) (d1 : Array Int), a + 1 ≤ i ∧ i ≤ n + 1 ∧ v = .int .i64 i ∧ d1.size = n ∧ insOuter ltInt a b i d1 = insertionSort ltInt d a b ∧ Srt w wr g N d1) (fun v _ => (n + 1 - intOf v).toNat)
  case atStart => exact ⟨a + 1, d, by omega, by omega, by go_num, hnd, rfl, Srt.start hS⟩
  case round =>
    obtain ⟨i, d1, hi1, hi2, rfl, hd1, hE, hR⟩ := hrel
    by_cases hlt : i < b
    · have HE := Lib.hid hE
      clear hE
      go_wp2
      go_loopw [7] (fun v wr2 => ∃ (j : Nat) (d2 : Array Int), j ≤ i ∧ v = .int .i64 j ∧ d2.size = n ∧ insInner ltInt a j d2 = insInner ltInt a i d1 ∧ Srt w wr2 g N d2) (fun v _ => (intOf v).toNat)
      case atStart => exact ⟨i, d1, Nat.le_refl _, rfl, hd1, rfl, hR⟩
      case round =>
        obtain ⟨j, d2, hj, rfl, hd2, hE2, hR2⟩ := hrel
        by_cases haj : a < j
        · obtain ⟨q, rfl⟩ : ∃ q, j = q + 1 := ⟨j - 1, by omega⟩
          have c1 := hR2.row.cell (i := q + 1) (by omega)
          have c2 := hR2.row.cell (i := q) (by omega)
          have f1 := hR2.row.free (q + 1)
          have f2 := hR2.row.free q
          have HS := Lib.hid (hR2.swap (i := q + 1) (j := q) (by omega) (by omega))
          have HE2 := Lib.hid hE2
          obtain ⟨x, hx⟩ : ∃ x, d2[q + 1]! = x := ⟨_, rfl⟩
          obtain ⟨y, hy⟩ : ∃ y, d2[q]! = y := ⟨_, rfl⟩
          have HXY := Lib.hid (And.intro hx hy)
          rw [hx] at c1
          rw [hy] at c2
          clear hx hy hE2
          have e1 : ((q : Int) + 1 - 1) = q := by omega
          have hq1 : (a : Int) < q + 1 := by omega
          have hq2 : (q : Int) + 1 < n := by omega
          by_cases hl : ltInt x y = true
          · have E := Lib.hid ((ins_go (a := a) (q := q) (d := d2) haj (by rw [HXY.out.1, HXY.out.2]; exact hl)).symm.trans HE2.out)
            go_wp2
            go_quiet (first | (go_at_call 130; exact quietOf (less_any _ _ _)))
            go_wp2
            go_region
            go_wp2
            go_roundw
            case rel => exact ⟨q, swp d2 (q + 1) q, by omega, rfl, by rw [Sort.size_swp]; exact hd2, E.out, (hR2.drewN _).swap' (by omega) (by omega) HXY.out.1 HXY.out.2⟩
            case measure => simp [intOf]
          · have hl' : ltInt x y = false := by simpa using hl
            have E := Lib.hid ((ins_stop2 (a := a) (q := q) (d := d2) (by rw [HXY.out.1, HXY.out.2]; exact hl')).symm.trans HE2.out)
            have EO := Lib.hid ((insOuter_more (a := a) (d := d1) hlt).symm.trans HE.out)
            clear hl
            go_wp2
            go_quiet (first | (go_at_call 130; exact quietOf (less_any _ _ _)))
            go_wp2
            go_roundw
            case rel => exact ⟨i + 1, d2, by omega, by omega, by go_num, hd2, by rw [E.out]; exact EO.out, hR2.drewN _⟩
            case measure => simp [intOf]; omega
        · have E := Lib.hid ((ins_stop (d := d2) (show j ≤ a by omega)).symm.trans hE2)
          have EO := Lib.hid ((insOuter_more (a := a) (d := d1) hlt).symm.trans HE.out)
          have hg : decide ((a : Int) < (j : Int)) = false := by simp; omega
          clear hE2
          go_wp2
          go_quiet (fail)
          go_wp2
          go_roundw
          case rel => exact ⟨i + 1, d2, by omega, by omega, by go_num, hd2, by rw [E.out]; exact EO.out, hR2.drewN _⟩
          case measure => simp [intOf]; omega
    · have HE := Lib.hid ((insOuter_end hlt).symm.trans hE)
      have hle : b ≤ i := by omega
      clear hE
      go_wp2
      go_end0
      exact ⟨rfl, by rw [← HE.out]; exact hR, by rw [← HE.out]; exact hd1⟩

end Go.Proofs.YtopmmlcjlopmaaaGreatDoor
