/- Several texts of ours in one: Cc, Hd, Sm. -/
import Derived.Test.YtddbjbdhbeijjaaDoorGNbTpCb
import Derived.Test.YtddbjbdhbeijjaaDoorGRsRjBx
import Derived.Test.YtddbjbdhbeijjaaDoorGHcDpWa
import Derived.Test.YtddbjbdhbeijjaaDoorGEaEbGa
import Derived.Test.YtddbjbdhbeijjaaDoorGWrRfRl
import Derived.BigQuiet
/- A cache of package cache as it lies in the world; a cache beside other blocks. -/
namespace Go.Proofs.YtddbjbdhbeijjaaDoor
set_option linter.unusedVariables false
set_option linter.unusedSimpArgs false
open Go.ChangeShapes Go.WideShapes Go.ChangeAt Go.RowKit Go.Joins

/- CELLS OF ELEMENTS, ONE BEHIND THE OTHER -/
section
variable {α : Type} {f : α → List Value} {s : Nat}
theorem flat_len (hs : ∀ x, (f x).length = s) (L : List α) : (L.flatMap f).length = L.length * s := by
  induction L with
  | nil => simp
  | cons x L ih => rw [List.flatMap_cons, List.length_append, hs, ih, List.length_cons, Nat.succ_mul]; omega
theorem flat_get (hs : ∀ x, (f x).length = s) (L : List α) (z : α) : ∀ k j, k < L.length → j < s → (L.flatMap f)[k * s + j]? = (f (L.getD k z))[j]? := by
  induction L with
  | nil => intro k j hk; simp at hk
  | cons x L ih =>
    intro k j hk hj
    rw [List.flatMap_cons]
    rcases k with _ | k
    · rw [List.getElem?_append_left (by rw [hs]; omega)]
      simp
    · rw [List.getElem?_append_right (by rw [hs, Nat.succ_mul]; omega), hs, show (k + 1) * s + j - s = k * s + j by rw [Nat.succ_mul]; omega, ih k j (by simpa using hk) hj]
      simp
theorem flat_take (hs : ∀ x, (f x).length = s) (L : List α) : ∀ k, (L.flatMap f).take (k * s) = (L.take k).flatMap f := by
  induction L with
  | nil => intro k; simp
  | cons x L ih =>
    intro k
    rcases k with _ | k
    · simp
    · rw [List.flatMap_cons, List.take_append, hs, show (k + 1) * s - s = k * s by rw [Nat.succ_mul]; omega, ih k, List.take_succ_cons, List.flatMap_cons]
      rw [List.take_of_length_le (by rw [hs, Nat.succ_mul]; omega)]
theorem flat_drop (hs : ∀ x, (f x).length = s) (L : List α) : ∀ k, (L.flatMap f).drop (k * s) = (L.drop k).flatMap f := by
  induction L with
  | nil => intro k; simp
  | cons x L ih =>
    intro k
    rcases k with _ | k
    · simp
    · rw [List.flatMap_cons, List.drop_append, hs, show (k + 1) * s - s = k * s by rw [Nat.succ_mul]; omega, ih k, List.drop_succ_cons]
      rw [List.drop_of_length_le (by rw [hs, Nat.succ_mul]; omega)]
      simp
end

def kc (k : Ky) : List Value := [.int .i64 k.1, .int .i64 k.2.1, .int .u64 k.2.2]
def pc (x : Pr) : List Value := [.int .i64 x.1.1, .int .i64 x.1.2.1, .int .u64 x.1.2.2, .int .u64 x.2.1, .bool x.2.2.1, .bool x.2.2.2.1, .bool x.2.2.2.2.1, .bool x.2.2.2.2.2.1, .int .u8 x.2.2.2.2.2.2]
def kcs (ks : List Ky) : List Value := ks.flatMap kc
def pcs (L : List Pr) : List Value := L.flatMap pc
theorem kc_len (k : Ky) : (kc k).length = 3 := rfl
theorem pc_len (x : Pr) : (pc x).length = 9 := rfl
theorem kc_one (k : Ky) : ∀ u ∈ kc k, u.oneCell' = true := by
  intro u hu
  simp [kc] at hu
  rcases hu with rfl | rfl | rfl <;> rfl
theorem pc_one (x : Pr) : ∀ u ∈ pc x, u.oneCell' = true := by
  intro u hu
  simp [pc] at hu
  rcases hu with rfl | rfl | rfl | rfl | rfl | rfl | rfl | rfl | rfl <;> rfl
theorem kcs_one (ks : List Ky) : ∀ u ∈ kcs ks, u.oneCell' = true := by
  intro u hu
  obtain ⟨k, _, h⟩ := List.mem_flatMap.1 hu
  exact kc_one k u h
theorem kcs_len (ks : List Ky) : (kcs ks).length = ks.length * 3 := flat_len kc_len ks
theorem pcs_len (L : List Pr) : (pcs L).length = L.length * 9 := flat_len pc_len L

/-- v is the order of the keys ks; its block may be longer than its room -/
def OrdIs (w : World) (v : Value) (ks : List Ky) : Prop :=
  (v = .slice none 0 0 ∧ ks = []) ∨ ∃ g cap cur, v = .slice (some ⟨g, 0, none⟩) ks.length cap ∧ w.heap[g]? = some (.cells cur 88 (0, 0)) ∧ ks.length ≤ cap ∧ cap * 3 ≤ cur.size ∧ cur.toList.take (ks.length * 3) = kcs ks

section
variable {w w' : World} {v : Value} {ks : List Ky}
theorem OrdIs.lt (h : OrdIs w v ks) {i : Nat} (hi : v.ownBlock = some i) : i < w.heap.size := by
  rcases h with ⟨rfl, _⟩ | ⟨g, cap, cur, rfl, hg, _⟩
  · simp [Value.ownBlock] at hi
  · simp [Value.ownBlock] at hi
    exact hi ▸ lt_of_block hg
theorem OrdIs.same (h : OrdIs w v ks) (he : ∀ i, v.ownBlock = some i → w'.heap[i]? = w.heap[i]?) : OrdIs w' v ks := by
  rcases h with h | ⟨g, cap, cur, rfl, hg, r⟩
  · exact Or.inl h
  · exact Or.inr ⟨g, cap, cur, rfl, (he g rfl).trans hg, r⟩
theorem OrdIs.form (h : OrdIs w v ks) : ∃ A cap, v = .slice A ks.length cap := by
  rcases h with ⟨rfl, rfl⟩ | ⟨g, cap, cur, rfl, _⟩
  · exact ⟨none, 0, rfl⟩
  · exact ⟨_, _, rfl⟩
theorem OrdIs.type (h : OrdIs w v ks) {i : Nat} (hi : v.ownBlock = some i) : ∃ cur, w.heap[i]? = some (.cells cur 88 (0, 0)) := by
  rcases h with ⟨rfl, _⟩ | ⟨g, cap, cur, rfl, hg, _⟩
  · simp [Value.ownBlock] at hi
  · simp [Value.ownBlock] at hi
    exact ⟨cur, hi ▸ hg⟩
theorem ord_cells {g cap : Nat} {cur : Array Value} {n : Nat} (hg : w.heap[g]? = some (.cells cur 88 (0, 0))) (ht : cur.toList.take (n * 3) = kcs ks) (hn : ks.length = n) : ∀ j u, (kcs ks)[j]? = some u → w.cell? ((⟨g, 0, none⟩ : Addr).add j) = some u := by
  intro j u hj
  rw [add2, cell_of_row w g j cur _ _ hg]
  rw [← ht, List.getElem?_take] at hj
  split at hj
  · simpa using hj
  · cases hj
/-- the key at a place -/
theorem OrdIs.at_ (h : OrdIs w v ks) {k : Nat} (hk : k < ks.length) : ∃ g cap, v = .slice (some ⟨g, 0, none⟩) ks.length cap ∧ w.cell? ⟨g, k * 3, none⟩ = some (.int .i64 (ks.getD k zK).1) ∧ w.cell? ⟨g, k * 3 + 1, none⟩ = some (.int .i64 (ks.getD k zK).2.1) ∧ w.cell? ⟨g, k * 3 + 2, none⟩ = some (.int .u64 (ks.getD k zK).2.2) := by
  rcases h with ⟨_, rfl⟩ | ⟨g, cap, cur, rfl, hg, h1, h2, h3⟩
  · simp at hk
  · have hc := ord_cells (ks := ks) (n := ks.length) (cap := 0) hg h3 rfl
    have e : ∀ j, j < 3 → (kcs ks)[k * 3 + j]? = (kc (ks.getD k zK))[j]? := fun j hj => flat_get kc_len ks zK k j hk hj
    refine ⟨g, cap, rfl, ?_, ?_, ?_⟩
    · have := hc (k * 3 + 0) _ (e 0 (by omega)); rwa [add2] at this
    · have := hc (k * 3 + 1) _ (e 1 (by omega)); rwa [add2] at this
    · have := hc (k * 3 + 2) _ (e 2 (by omega)); rwa [add2] at this
end

/-- block c of w is a cache of room R with the lines L; mb: its map's block, v: its order -/
structure Cch (w : World) (c : Nat) (R : Nat) (L : List Pr) (mb : Nat) (v : Value) : Prop where
  here : w.heap[c]? = some (.cells #[.int .i64 R, .map (some mb), v] 94 (0, 0))
  map : MapAt w mb (getK L)
  ord : OrdIs w v (keysK L)
  nodup : (keysK L).Nodup
  ok : ∀ k ∈ keysK L, OkK k
  len : L.length ≤ R
  room : R ≤ 64

def OwnC (c mb : Nat) (v : Value) (i : Nat) : Prop := i = c ∨ i = mb ∨ v.ownBlock = some i
/-- .. all of whose blocks are G's -/
def Cac (w : World) (G : Nat → Prop) (c R : Nat) (L : List Pr) : Prop := ∃ mb v, Cch w c R L mb v ∧ ∀ i, OwnC c mb v i → G i

section
variable {w w' : World} {F G : Nat → Prop} {c R mb : Nat} {L : List Pr} {v : Value}

theorem Cch.own_lt (h : Cch w c R L mb v) {i : Nat} (hi : OwnC c mb v i) : i < w.heap.size := by
  rcases hi with rfl | rfl | hv
  · exact lt_of_block h.here
  · exact h.map.lt
  · exact h.ord.lt hv
theorem Cch.same (h : Cch w c R L mb v) (he : ∀ i, OwnC c mb v i → w'.heap[i]? = w.heap[i]?) : Cch w' c R L mb v :=
  ⟨(he c (Or.inl rfl)).trans h.here, h.map.same (he mb (Or.inr (Or.inl rfl))), h.ord.same fun i hi => he i (Or.inr (Or.inr hi)), h.nodup, h.ok, h.len, h.room⟩
theorem Cch.apart (h : Cch w c R L mb v) : c ≠ mb ∧ v.ownBlock ≠ some c ∧ v.ownBlock ≠ some mb := by
  refine ⟨fun e => ?_, fun e => ?_, fun e => ?_⟩
  · obtain ⟨es, clock, hm, _⟩ := h.map
    rw [← e, h.here] at hm; simp at hm
  · obtain ⟨cur, hg⟩ := h.ord.type e
    rw [h.here] at hg; simp at hg
  · obtain ⟨cur, hg⟩ := h.ord.type e
    obtain ⟨es, clock, hm, _⟩ := h.map
    rw [hm] at hg; simp at hg
theorem Cch.cells (h : Cch w c R L mb v) : w.cell? ⟨c, 0, none⟩ = some (.int .i64 R) ∧ w.cell? ⟨c, 1, none⟩ = some (.map (some mb)) ∧ w.cell? ⟨c, 2, none⟩ = some v ∧ w.frozen? ⟨c, 2, none⟩ = false := by
  simp [World.cell?, World.frozen?, h.here]
theorem Cac.mono (h : Cac w F c R L) (hG : ∀ i, F i → G i) : Cac w G c R L := by
  obtain ⟨mb, v, h, hF⟩ := h
  exact ⟨mb, v, h, fun i hi => hG i (hF i hi)⟩
theorem Cac.turned (h : Cac w F c R L) (ht : Turn G w w') (ha : ∀ i, i < w.heap.size → F i → ¬ G i) : Cac w' F c R L := by
  obtain ⟨mb, v, h, hF⟩ := h
  exact ⟨mb, v, h.same (fun i hi => ht.block i (h.own_lt hi) (ha i (h.own_lt hi) (hF i hi))), hF⟩
theorem Cac.kept (h : Cac w F c R L) (ht : Below w.heap.size w w') : Cac w' F c R L := h.turned (Turn.of_kept (fun _ => False) ht) (fun _ _ _ h => h)
theorem Cac.room (h : Cac w F c R L) : R ≤ 64 := by obtain ⟨mb, v, h, _⟩ := h; exact h.room
theorem Cac.len (h : Cac w F c R L) : L.length ≤ R := by obtain ⟨mb, v, h, _⟩ := h; exact h.len
theorem Cac.nodup (h : Cac w F c R L) : (keysK L).Nodup := by obtain ⟨mb, v, h, _⟩ := h; exact h.nodup
theorem Cac.ok (h : Cac w F c R L) : ∀ k ∈ keysK L, OkK k := by obtain ⟨mb, v, h, _⟩ := h; exact h.ok
theorem Cac.here (h : Cac w F c R L) : F c ∧ c < w.heap.size := by obtain ⟨mb, v, h, hF⟩ := h; exact ⟨hF c (Or.inl rfl), h.own_lt (Or.inl rfl)⟩
end

/-- a cache beside other blocks: G are its own; nothing but F has turned since w -/
structure Ck (w wr : World) (F : Nat → Prop) (c R : Nat) (L : List Pr) (G : Nat → Prop) : Prop where
  cac : Cac wr G c R L
  foot : ∀ i, G i → i < wr.heap.size ∧ (F i ∨ w.heap.size ≤ i)
  turn : Turn F w wr

section
variable {w wr w3 w4 : World} {F G H G' : Nat → Prop} {c R R' : Nat} {L L' : List Pr}

theorem Ck.start (h : Cac w F c R L) : Ck w w F c R L (fun i => F i ∧ i < w.heap.size) := by
  obtain ⟨mb, v, hM, hF⟩ := h
  exact ⟨⟨mb, v, hM, fun i hi => ⟨hF i hi, hM.own_lt hi⟩⟩, fun i hi => ⟨hi.2, Or.inl hi.1⟩, Turn.refl _ _⟩
theorem Ck.step (h : Ck w wr F c R L G) (hm : Cac w3 (Since G wr) c R L') (ht : Turn G wr w3) : Ck w w3 F c R L' (fun i => Since G wr i ∧ i < w3.heap.size) := by
  refine ⟨?_, ?_, ?_⟩
  · obtain ⟨mb, v, hM, hF⟩ := hm
    exact ⟨mb, v, hM, fun i hi => ⟨hF i hi, hM.own_lt hi⟩⟩
  · rintro i ⟨hi, hl⟩
    refine ⟨hl, ?_⟩
    rcases hi with hi | hi
    · exact (h.foot i hi).2
    · exact Or.inr (Nat.le_trans h.turn.size hi)
  · exact h.turn.trans (ht.mono fun i _ hi => (h.foot i hi).2)
theorem Ck.other (h : Ck w wr F c R L G) (ht : Turn H wr w3) (h1 : ∀ i, i < wr.heap.size → H i → ¬ G i) (h2 : ∀ i, H i → F i ∨ w.heap.size ≤ i) : Ck w w3 F c R L G :=
  ⟨h.cac.turned ht (fun i hl hg hh => h1 i hl hh hg), fun i hi => ⟨Nat.lt_of_lt_of_le (h.foot i hi).1 ht.size, (h.foot i hi).2⟩, h.turn.trans (ht.mono fun i _ hi => h2 i hi)⟩
theorem Ck.quiet (h : Ck w wr F c R L G) (hb : Below wr.heap.size wr w3) : Ck w w3 F c R L G :=
  h.other (H := fun _ => False) (Turn.of_kept _ hb) (fun _ _ h => h.elim) (fun _ h => h.elim)
theorem Ck.set (h : Ck w wr F c R L G) {b : Nat} (ht : Turn (fun i => i = b) wr w3) (hb : ¬ G b) (hl : w.heap.size ≤ b) : Ck w w3 F c R L G :=
  h.other ht (fun i _ e => e ▸ hb) (fun i e => Or.inr (e ▸ hl))
theorem Ck.join (h : Ck w wr F c R L G) (k : Ck wr w4 G c R L' G') : Ck w w4 F c R L' G' := by
  refine ⟨k.cac, fun i hi => ⟨(k.foot i hi).1, ?_⟩, h.turn.trans (k.turn.mono fun i _ hi => (h.foot i hi).2)⟩
  rcases (k.foot i hi).2 with hg | hg
  · exact (h.foot i hg).2
  · exact Or.inr (Nat.le_trans h.turn.size hg)
theorem Ck.free {i : Nat} (k : Ck wr w4 G c R L' G') (hi : ¬ G i) (hl : i < wr.heap.size) : ¬ G' i := fun hg => by
  rcases (k.foot i hg).2 with h | h
  · exact hi h
  · omega
/-- a cache that was made behind w -/
theorem Ck.made {B : Nat} (h : Cac wr (From B) c R L) (hb : Below w.heap.size w wr) (hB : w.heap.size ≤ B) : Ck w wr (From w.heap.size) c R L (fun i => From B i ∧ i < wr.heap.size) := by
  obtain ⟨mb, v, hM, hF⟩ := h
  exact ⟨⟨mb, v, hM, fun i hi => ⟨hF i hi, hM.own_lt hi⟩⟩, fun i hi => ⟨hi.2, Or.inr (Nat.le_trans hB hi.1)⟩, Turn.of_below hb⟩
theorem Ck.belowW (h : Ck w wr (From w.heap.size) c R L G) : Below w.heap.size w wr := h.turn.below (fun _ hi => hi) (Nat.le_refl _)
/-- what a call's contract says of the cache -/
theorem Ck.out (h : Ck w wr F c R L G) : Cac wr (Since F w) c R L ∧ Turn F w wr := ⟨h.cac.mono fun i hi => (h.foot i hi).2, h.turn⟩
end

/-- a cache of others' (or made behind w), and a call's boxes and rows beside it -/
structure LawC (w wr : World) (F : Nat → Prop) (c R : Nat) (L : List Pr) (G : Nat → Prop) (bs : List BoxD) (rs : List RowD) : Prop where
  wk : Ck w wr F c R L G
  hold : Hold wr G bs rs
  low : ∀ z ∈ bs, w.heap.size ≤ z.b

section
variable {w wr w1 w2 w3 w4 : World} {F G G' : Nat → Prop} {bs : List BoxD} {rs : List RowD} {c R B sz k : Nat} {L L' : List Pr} {e : TypeId} {v : Value} {xs : List Value}
theorem Hold.stepC (h : Hold wr G bs rs) (k : Ck wr w4 G c R L' G') : Hold w4 G' bs rs :=
  ⟨fun z hz => ⟨(h.box z hz).1.turn k.turn (h.box z hz).2, k.free (h.box z hz).2 (h.box z hz).1.lt⟩,
   fun r hr => ⟨own_turn (h.row r hr).1 k.turn (h.row r hr).2, fun i hi => k.free ((h.row r hr).2 i hi) (own_lt (h.row r hr).1 hi).2⟩, h.once, fun i hi => (k.foot i hi).1⟩
/-- a call over a cache of others' begins -/
theorem LawC.start (h : Cac w F c R L) : LawC w w F c R L (fun i => F i ∧ i < w.heap.size) [] [] := ⟨Ck.start h, Hold.nil _ _ fun _ h => h.2, by simp⟩
/-- a cache was made -/
theorem LawC.first (h : Mine w w1 bs rs) (hM : Cac w2 (From w1.heap.size) c R L) (hB : Below w1.heap.size w1 w2) : LawC w w2 (From w.heap.size) c R L (fun i => From w1.heap.size i ∧ i < w2.heap.size) bs rs := by
  have hq := h.quiet hB
  refine ⟨Ck.made hM hq.below h.size, ⟨fun z hz => ⟨(hq.hold.box z hz).1, fun hg => ?_⟩, fun r hr => ⟨(hq.hold.row r hr).1, fun i hi hg => ?_⟩, hq.hold.once, fun i hi => hi.2⟩, fun z hz => Nat.le_of_not_lt (h.hold.box z hz).2⟩
  · have h1 := (h.hold.box z hz).1.lt
    have h2 : w1.heap.size ≤ z.b := hg.1
    omega
  · have h1 := (own_lt (h.hold.row r hr).1 hi).2
    have h2 : w1.heap.size ≤ i := hg.1
    omega
theorem LawC.world (h : LawC w wr F c R L G bs rs) (e : wr = w3) : LawC w w3 F c R L G bs rs := e ▸ h
theorem LawC.size (h : LawC w wr F c R L G bs rs) : w.heap.size ≤ wr.heap.size := h.wk.turn.size
theorem LawC.below (h : LawC w wr (From w.heap.size) c R L G bs rs) : Below w.heap.size w wr := h.wk.belowW
theorem LawC.quiet (h : LawC w wr F c R L G bs rs) (hb : Below wr.heap.size wr w3) : LawC w w3 F c R L G bs rs := ⟨h.wk.quiet hb, h.hold.quiet hb, h.low⟩
theorem LawC.step (h : LawC w wr F c R L G bs rs) (k : Ck wr w4 G c R L' G') : LawC w w4 F c R L' G' bs rs := ⟨h.wk.join k, h.hold.stepC k, h.low⟩
/-- a call turned the cache -/
theorem LawC.did (h : LawC w wr F c R L G bs rs) (hm : Cac w4 (Since G wr) c R L') (ht : Turn G wr w4) : LawC w w4 F c R L' (fun i => Since G wr i ∧ i < w4.heap.size) bs rs := by
  have k : Ck wr w4 G c R L' (fun i => Since G wr i ∧ i < w4.heap.size) := by
    obtain ⟨mb, v, hM, hF⟩ := hm
    exact ⟨⟨mb, v, hM, fun i hi => ⟨hF i hi, hM.own_lt hi⟩⟩, fun i hi => ⟨hi.2, hi.1⟩, ht⟩
  exact h.step k
theorem LawC.new (h : LawC w wr F c R L G bs rs) {b : Nat} (hb : wr.heap.size = b) (cs : Array Value) (t : TypeId) : LawC w (wr.alloc (.cells cs t)) F c R L G (⟨b, cs, t⟩ :: bs) rs := by
  subst hb; exact ⟨h.wk.quiet (below_alloc1 _ _), h.hold.new cs t, fun z hz => by
    rcases List.mem_cons.1 hz with rfl | hz
    · exact h.size
    · exact h.low z hz⟩
theorem LawC.got (h : LawC w wr F c R L G bs rs) (hr : wr.ownsRow B e sz v k xs) (hv : ∀ i, v.ownBlock = some i → ¬ G i) : LawC w wr F c R L G bs (⟨e, sz, v, k, xs⟩ :: rs) := ⟨h.wk, h.hold.got hr hv, h.low⟩
theorem LawC.made (h : LawC w wr F c R L G bs rs) (hb : Below wr.heap.size wr w3) (hr : w3.ownsRow B e sz v k xs) (hB : wr.heap.size ≤ B) : LawC w w3 F c R L G bs (⟨e, sz, v, k, xs⟩ :: rs) :=
  (h.quiet hb).got hr fun i hi hg => by have := h.hold.lt i hg; have := (own_lt hr hi).1; omega
theorem LawC.at_ (h : LawC w wr F c R L G bs rs) (k : Nat) {b : Nat} {cs : Array Value} {t : TypeId} (hk : bs[k]? = some ⟨b, cs, t⟩) : Blk wr b cs t := h.hold.at_ k hk
theorem LawC.no (h : LawC w wr F c R L G bs rs) (k : Nat) {b : Nat} {cs : Array Value} {t : TypeId} (hk : bs[k]? = some ⟨b, cs, t⟩) : ¬ G b := h.hold.no k hk
theorem LawC.of_ (h : LawC w wr F c R L G bs rs) (k : Nat) {e : TypeId} {sz n : Nat} {v : Value} {xs : List Value} (hk : rs[k]? = some ⟨e, sz, v, n, xs⟩) : wr.ownsRow 0 e sz v n xs := h.hold.of_ k hk
theorem LawC.off (h : LawC w wr F c R L G bs rs) (k : Nat) {e : TypeId} {sz n : Nat} {v : Value} {xs : List Value} (hk : rs[k]? = some ⟨e, sz, v, n, xs⟩) : ∀ i, v.ownBlock = some i → ¬ G i := h.hold.off k hk
theorem LawC.put (h : LawC w wr F c R L G bs rs) (k : Nat) {b : Nat} {cs cs' : Array Value} {t : TypeId} (hk : bs[k]? = some ⟨b, cs, t⟩) (ht : Turn (fun i => i = b) wr w3) (hb : Blk w3 b cs' t) (hr : rs.all (fun r => r.e != t) = true := by rfl) : LawC w w3 F c R L G (bs.set k ⟨b, cs', t⟩) rs :=
  ⟨h.wk.set ht (h.hold.no k hk) (h.low _ (List.mem_of_getElem? hk)), h.hold.put k hk ht hb hr, fun z hz => by
    rcases List.mem_or_eq_of_mem_set hz with hz | rfl
    · exact h.low z hz
    · exact h.low ⟨b, cs, t⟩ (List.mem_of_getElem? hk)⟩
theorem LawC.pick (h : LawC w wr F c R L G bs rs) (l k : List Nat) (hl : l.Nodup := by decide) : LawC w wr F c R L G (l.filterMap fun i => bs[i]?) (k.filterMap fun i => rs[i]?) := ⟨h.wk, h.hold.pick l k hl, fun z hz => by
    obtain ⟨i, _, hi⟩ := List.mem_filterMap.1 hz
    exact h.low z (List.mem_of_getElem? hi)⟩
theorem LawC.out (h : LawC w wr F c R L G bs rs) : Cac wr (Since F w) c R L ∧ Turn F w wr := h.wk.out
end
end Go.Proofs.YtddbjbdhbeijjaaDoor
/- Contracts of package walk: From: what lies where in its loop. -/
namespace Go.Proofs.YtddbjbdhbeijjaaDoor
set_option linter.unusedVariables false
set_option linter.unusedSimpArgs false
open Go.ChangeShapes Go.WideShapes Go.ChangeAt Go.RowKit Go.Joins

section
variable {w wr w3 : World} {F : Nat → Prop} {m : Nat} {M : Int} {f : Int → Int} {T T' : List Int} {n n' : Nat} {lev t : Int} {W U X : Bool} {S : List (Int × Int × Int)} {v v' : Value} {p p' : Pth} {G : Nat → Prop}

end
end Go.Proofs.YtddbjbdhbeijjaaDoor
/- Same of dormerref04. -/
namespace Go.Proofs.YtddbjbdhbeijjaaDoor
set_option linter.unusedVariables false
set_option linter.unusedSimpArgs false
open Go.ChangeShapes Go.WideShapes Go.ChangeAt Go.RowKit Go.Joins

theorem WordsOwn.form {w : World} {v : Value} {tr : List Int} (h : WordsOwn w v tr) :
    ∃ A c, v = .slice A tr.length c ∧ ∀ k, k < tr.length → ∃ g, A = some ⟨g, 0, none⟩ ∧ w.cell? ⟨g, k, none⟩ = some (.int .u64 (tr.getD k 0)) := by
  have h' := h
  rcases h.2 with ⟨rfl, hn⟩ | ⟨g, cap, cur, rfl, _⟩
  · exact ⟨none, 0, by rw [hn], fun k hk => by omega⟩
  · refine ⟨_, _, rfl, fun k hk => ⟨g, rfl, ?_⟩⟩
    have := World.ownsRow.cells h' (g := g) rfl k (.int .u64 (tr.getD k 0)) (by simp [List.getD, List.getElem?_eq_getElem hk])
    rwa [show (⟨g, 0, none⟩ : Addr).add k = ⟨g, k, none⟩ by unfold Addr.add; split <;> simp_all] at this

end Go.Proofs.YtddbjbdhbeijjaaDoor
