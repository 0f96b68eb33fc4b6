/- Several texts of ours in one: Rf, Sm, He. -/
import Derived.Test.YtopmmlcjlopmaaaGreatDoorGDpWaWr
import Derived.Test.YtopmmlcjlopmaaaGreatDoorGVaVrFr
import Derived.BigQuiet
import Derived.Test.YtopmmlcjlopmaaaGreatDoorGHcEbHd
import Derived.Deep.Cut
/- Contracts of package dormerref04: a memory of the document's, by its slots and its trace; what only reads. -/
namespace Go.Proofs.YtopmmlcjlopmaaaGreatDoor
set_option linter.unusedVariables false
set_option linter.unusedSimpArgs false
open Go.ChangeShapes Go.WideShapes Go.ChangeAt Go.RowKit Go.Joins

/-- the cells of slots -/
def slotCells : List (Int × Int) → List Value
  | [] => []
  | p :: L => .int .u64 p.1 :: .int .u64 p.2 :: slotCells L

theorem slotCells_append (L K : List (Int × Int)) : slotCells (L ++ K) = slotCells L ++ slotCells K := by
  induction L with
  | nil => rfl
  | cons p L ih => simp [slotCells, ih]
theorem slotCells_get (L : List (Int × Int)) : ∀ k, k < L.length → (slotCells L)[k * 2]? = some (.int .u64 (L.getD k (0, 0)).1) ∧ (slotCells L)[k * 2 + 1]? = some (.int .u64 (L.getD k (0, 0)).2) := by
  induction L with
  | nil => intro k hk; simp at hk
  | cons p L ih =>
    intro k hk
    rcases k with _ | k
    · exact ⟨rfl, rfl⟩
    · have := ih k (by simpa using hk)
      rw [show (k + 1) * 2 = k * 2 + 1 + 1 by omega]
      simpa [slotCells] using this

/-- vs holds the slots L, vt the words tr -/
def SlotsOwn (w : World) (vs : Value) (L : List (Int × Int)) : Prop := w.ownsRow 0 103 2 vs L.length (slotCells L)
def WordsOwn (w : World) (vt : Value) (tr : List Int) : Prop := w.ownsRow 0 23 1 vt tr.length (tr.map (Value.int .u64))

theorem own_below {w w' : World} {base : Nat} {e : TypeId} {sz : Nat} {v : Value} {n : Nat} {xs : List Value} (h : w.ownsRow base e sz v n xs) (hb : Below w.heap.size w w') : w'.ownsRow base e sz v n xs :=
  h.kept (row := none) ⟨hb.os, hb.tape, hb.output, hb.size, fun k hk _ => hb.block k hk⟩ (by cases hv : v.ownBlock <;> simp)

theorem SlotsOwn.form {w : World} {vs : Value} {L : List (Int × Int)} (h : SlotsOwn w vs L) :
    ∃ A c, vs = .slice A L.length c ∧ ∀ k, k < L.length → ∃ g, A = some ⟨g, 0, none⟩ ∧ w.cell? ⟨g, k * 2, none⟩ = some (.int .u64 (L.getD k (0, 0)).1) ∧ w.cell? ⟨g, k * 2 + 1, none⟩ = some (.int .u64 (L.getD k (0, 0)).2) := by
  have h' := h
  rcases h.2 with ⟨rfl, hn⟩ | ⟨g, cap, cur, rfl, _⟩
  · exact ⟨none, 0, by rw [hn], fun k hk => by omega⟩
  · refine ⟨_, _, rfl, fun k hk => ⟨g, rfl, ?_, ?_⟩⟩
    · have := World.ownsRow.cells h' (g := g) rfl (k * 2) _ (slotCells_get L k hk).1
      rwa [show (⟨g, 0, none⟩ : Addr).add (k * 2) = ⟨g, k * 2, none⟩ by unfold Addr.add; split <;> simp_all] at this
    · have := World.ownsRow.cells h' (g := g) rfl (k * 2 + 1) _ (slotCells_get L k hk).2
      rwa [show (⟨g, 0, none⟩ : Addr).add (k * 2 + 1) = ⟨g, k * 2 + 1, none⟩ by unfold Addr.add; split <;> simp_all] at this

/-- a slot's word -/
def wordL : List (Int × Int) → Int → Int
  | [], _ => 0
  | p :: L, a => if p.1 = a then p.2 else wordL L a

theorem wordL_hit : ∀ (L : List (Int × Int)) (a : Int) (k : Nat), k < L.length → (∀ j, j < k → (L.getD j (0, 0)).1 ≠ a) → (L.getD k (0, 0)).1 = a → wordL L a = (L.getD k (0, 0)).2
  | [], _, k, hk, _, _ => by simp at hk
  | p :: L, a, 0, _, _, h => by simp [wordL]; intro hn; exact absurd h hn
  | p :: L, a, k + 1, hk, hn, h => by
    have h0 : p.1 ≠ a := hn 0 (by omega)
    simp only [wordL]
    rw [if_neg h0]
    exact wordL_hit L a k (by simpa using hk) (fun j hj => hn (j + 1) (by omega)) h
theorem wordL_miss : ∀ (L : List (Int × Int)) (a : Int), (∀ j, j < L.length → (L.getD j (0, 0)).1 ≠ a) → wordL L a = 0
  | [], _, _ => rfl
  | p :: L, a, hn => by
    have h0 : p.1 ≠ a := hn 0 (by simp)
    simp only [wordL]
    rw [if_neg h0]
    exact wordL_miss L a (fun j hj => hn (j + 1) (by simpa using hj))

theorem pow_stepM (k : Nat) (hk : k < 22) : IntKind.u64.wrap (2 * 2 ^ k) = 2 ^ (k + 1) := by
  have h : (2 : Int) * 2 ^ k = 2 ^ (k + 1) := by rw [Int.pow_succ]; omega
  rw [h]
  have h1 : (2 : Int) ^ (k + 1) ≤ 2 ^ 22 := by exact_mod_cast Nat.pow_le_pow_right (by decide) (by omega)
  have h2 : (0 : Int) < 2 ^ (k + 1) := Int.pow_pos (by decide)
  exact wrap_in (by omega) (by omega)

theorem rSize_any (M : Int) (vs vt : Value) (w : World) (hM : 14 ≤ M ∧ M ≤ 22) :
    Calls Tryz.prog 113 #[.agg #[.int .i64 M, vs, vt]] w fun e w' => e = .returned (.int .u64 (sizeM M)) ∧ Below w.heap.size w w' := by
  obtain ⟨h0, h1⟩ := hM
  go_enter Tryz.func113, Tryz.ntmps113
  go_wp2
  go_loop [3, 4] (fun x i => ∃ k : Nat, (k : Int) ≤ M ∧ i = .int .i64 k ∧ x = .int .u64 (2 ^ k)) (fun _ i => (M - intOf i).toNat)
  case atStart => exact ⟨0, by omega, rfl, rfl⟩
  case round =>
    obtain ⟨k, hk, rfl, rfl⟩ := hrel
    by_cases hlt : (k : Int) < M
    · have hs := pow_stepM k (by omega)
      go_wp2
      go_round
      case rel => exact ⟨k + 1, by omega, by go_num, rfl⟩
      case measure => simp [intOf]; omega
    · have e : (k : Int) = M := by omega
      have E := Lib.hid (show (2 : Int) ^ k = sizeM M by unfold sizeM; rw [← e]; rfl)
      clear e
      go_wp2
      go_ret
      exact ⟨ret_int E.out, (Below.refl _ w).alloc (Nat.le_refl _) _⟩

theorem rWord_any (M : Int) (vs vt : Value) (L : List (Int × Int)) (a : Int) (w : World) (hS : SlotsOwn w vs L) (hl : L.length < 1000000) :
    Calls Tryz.prog 114 #[.agg #[.int .i64 M, vs, vt], .int .u64 a] w fun e w' => e = .returned (.int .u64 (wordL L a)) ∧ Below w.heap.size w w' := by
  obtain ⟨A, c, rfl, hc⟩ := hS.form
  have HC := Lib.hid hc
  clear hc hS
  go_enter Tryz.func114, Tryz.ntmps114
  go_wp2
  go_loop [5] (fun i => ∃ k : Nat, k ≤ L.length ∧ i = .int .i64 k ∧ ∀ j, j < k → (L.getD j (0, 0)).1 ≠ a) (fun i => (L.length - intOf i).toNat)
  case atStart => exact ⟨0, by omega, rfl, fun j hj => by omega⟩
  case round =>
    obtain ⟨k, hk, rfl, hn⟩ := hrel
    by_cases hlt : k < L.length
    · obtain ⟨g, rfl, c0, c1⟩ := HC.out k hlt
      have d0 : ∀ o, (w.alloc o).cell? ⟨g, k * 2, none⟩ = some (.int .u64 (L.getD k (0, 0)).1) := fun o => by
        rw [← c0]; exact World.cell?_of_block (Below.heap_alloc _ _ _ (cell_lt c0))
      have d1 : ∀ o, (w.alloc o).cell? ⟨g, k * 2 + 1, none⟩ = some (.int .u64 (L.getD k (0, 0)).2) := fun o => by
        rw [← c1]; exact World.cell?_of_block (Below.heap_alloc _ _ _ (cell_lt c1))
      have HN := Lib.hid hn
      have hh := fun h => Lib.hid (wordL_hit L a k hlt hn h)
      clear hn c0 c1
      generalize hp : L.getD k (0, 0) = pq at *
      have HP := Lib.hid hp
      clear hp
      by_cases he : pq.1 = a
      · have E := hh he
        have b : (pq.1 == a) = true := by simpa using he
        clear he
        go_wp2
        go_ret
        exact ⟨ret_int E.out.symm, (Below.refl _ w).alloc (Nat.le_refl _) _⟩
      · have b : (pq.1 == a) = false := by simpa using he
        have HE := Lib.hid he
        clear he
        go_wp2
        go_round
        case rel => exact ⟨k + 1, by omega, by go_num, fun j hj => by
          by_cases e : j = k
          · subst e; rw [HP.out]; exact HE.out
          · exact HN.out j (by omega)⟩
        case measure => simp [intOf]; omega
    · have e : k = L.length := by omega
      have E := Lib.hid (wordL_miss L a (fun j hj => hn j (by omega)))
      have hle : L.length ≤ k := by omega
      clear e hn
      go_wp2
      go_ret
      exact ⟨ret_int E.out.symm, (Below.refl _ w).alloc (Nat.le_refl _) _⟩

/-- f is what the slots L say -/
def Agree (f : Int → Int) (L : List (Int × Int)) : Prop := ∀ s : Int, f s = wordL L (s * 8)

theorem own_alloc1 {w : World} {vs : Value} {L : List (Int × Int)} (h : SlotsOwn w vs L) (o : Obj) : SlotsOwn (w.alloc o) vs L := World.ownsRow.alloc h o

theorem aligned {a : Int} (h : a % 8 = 0) : a / 8 * 8 = a := by omega
set_option maxRecDepth 100000 in
theorem rPeek_any (M : Int) (vs vt : Value) (L : List (Int × Int)) (f : Int → Int) (a : Int) (w : World) (hM : 14 ≤ M ∧ M ≤ 22) (hS : SlotsOwn w vs L) (hl : L.length < 1000000) (hf : Agree f L) (ha : W64 a) :
    Calls Tryz.prog 81 #[.agg #[.int .i64 M, vs, vt], .int .u64 a] w fun e w' => e = .returned (.tuple #[.int .u64 (peekV M f a), .int .i64 (errS M a)]) ∧ Below w.heap.size w w' := by
  have HB := Lib.hid ((Below.refl _ w).alloc (Nat.le_refl _) (.cells #[.int .i64 M, vs, vt] 45))
  obtain ⟨a0, _⟩ := ha
  have HA := Lib.hid a0
  have cl : ∀ {w1 : World}, Below (w.alloc (.cells #[.int .i64 M, vs, vt] 45)).heap.size (w.alloc (.cells #[.int .i64 M, vs, vt] 45)) w1 → w1.cell? ⟨w.heap.size, 0, none⟩ = some (.int .i64 M) ∧ w1.cell? ⟨w.heap.size, 1, none⟩ = some vs ∧ w1.cell? ⟨w.heap.size, 2, none⟩ = some vt ∧ Hid (Below w.heap.size w w1) ∧ Hid (SlotsOwn w1 vs L) := fun {w1} hb => by
    have hw : ∀ {i : Nat} {v : Value}, (#[.int .i64 M, vs, vt] : Array Value)[i]? = some v → w1.cell? ⟨w.heap.size, i, none⟩ = some v := fun {i v} hv => by
      rw [hb.cell (by simp)]
      have h := Deep.blk_alloc_new w (.cells #[.int .i64 M, vs, vt] 45)
      simp only [World.cell?]
      rw [h]
      exact hv
    exact ⟨hw rfl, hw rfl, hw rfl, HB.out.trans (hb.mono (by simp)), own_below (own_alloc1 hS _) hb⟩
  by_cases h1 : sizeM M ≤ a
  · have e1 : errS M a = 2 := if_pos h1
    rw [show peekV M f a = 0 by unfold peekV; rw [e1]; rfl, e1]
    clear e1
    go_enter Tryz.func81, Tryz.ntmps81
    go_wp2_with (go_at_call 113; refine (rSize_any M vs vt _ hM).mono ?_; rintro e w1 ⟨rfl, hb⟩; obtain ⟨c0, c1, c2, HW, HO⟩ := cl hb; clear hb)
    go_ret2
    exact ⟨rfl, HW.out⟩
  · by_cases h2 : a % 8 = 0
    · have e1 : errS M a = 0 := by unfold errS; rw [if_neg h1, if_pos h2]
      rw [show peekV M f a = wordL L a by unfold peekV; rw [e1, if_pos rfl, hf, aligned h2], e1]
      have h1' : a < sizeM M := by omega
      have t8 : a.tmod 8 = 0 := by rw [Int.tmod_eq_emod_of_nonneg a0]; exact h2
      clear e1 h1
      go_enter Tryz.func81, Tryz.ntmps81
      go_wp2_with (first | (go_at_call 113; refine (rSize_any M vs vt _ hM).mono ?_; rintro e w1 ⟨rfl, hb⟩; obtain ⟨c0, c1, c2, HW, HO⟩ := cl hb; clear hb) | (go_at_call 114; refine (rWord_any M vs vt L a _ HO.out hl).mono ?_; rintro e w2 ⟨rfl, hb2⟩))
      go_ret2
      exact ⟨rfl, HW.out.trans (hb2.mono HW.out.size)⟩
    · have e1 : errS M a = 3 := by unfold errS; rw [if_neg h1, if_neg h2]
      rw [show peekV M f a = 0 by unfold peekV; rw [e1]; rfl, e1]
      have h1' : a < sizeM M := by omega
      obtain ⟨p, ep, p0⟩ : ∃ p : Int, a.tmod 8 = p ∧ (p != 0) = true := ⟨_, rfl, by rw [Int.tmod_eq_emod_of_nonneg a0]; simpa using h2⟩
      have hp : IntKind.u64.wrap p = p := by rw [← ep, Int.tmod_eq_emod_of_nonneg a0]; exact wrap_in (by omega) (by omega)
      clear e1 h1 h2
      go_enter Tryz.func81, Tryz.ntmps81
      go_wp2_with (go_at_call 113; refine (rSize_any M vs vt _ hM).mono ?_; rintro e w1 ⟨rfl, hb⟩; obtain ⟨c0, c1, c2, HW, HO⟩ := cl hb; clear hb)
      go_ret2
      exact ⟨rfl, HW.out⟩

end Go.Proofs.YtopmmlcjlopmaaaGreatDoor
/- Same of dormerref04. -/
namespace Go.Proofs.YtopmmlcjlopmaaaGreatDoor
set_option linter.unusedVariables false
set_option linter.unusedSimpArgs false
open Go.ChangeShapes Go.WideShapes Go.ChangeAt Go.RowKit Go.Joins

theorem drewN_below (v : World) (n : Nat) : Below v.heap.size v (v.drewN n) := ⟨rfl, rfl, rfl, Nat.le_refl _, fun _ _ => rfl⟩

theorem WordsOwn.form {w : World} {v : Value} {tr : List Int} (h : WordsOwn w v tr) :
    ∃ A c, v = .slice A tr.length c ∧ ∀ k, k < tr.length → ∃ g, A = some ⟨g, 0, none⟩ ∧ w.cell? ⟨g, k, none⟩ = some (.int .u64 (tr.getD k 0)) := by
  have h' := h
  rcases h.2 with ⟨rfl, hn⟩ | ⟨g, cap, cur, rfl, _⟩
  · exact ⟨none, 0, by rw [hn], fun k hk => by omega⟩
  · refine ⟨_, _, rfl, fun k hk => ⟨g, rfl, ?_⟩⟩
    have := World.ownsRow.cells h' (g := g) rfl k (.int .u64 (tr.getD k 0)) (by simp [List.getD, List.getElem?_eq_getElem hk])
    rwa [show (⟨g, 0, none⟩ : Addr).add k = ⟨g, k, none⟩ by unfold Addr.add; split <;> simp_all] at this

set_option maxRecDepth 100000 in
set_option maxHeartbeats 1000000 in
theorem same_any (w : World) (v1 v2 : Value) (zs : List Int) (h1 : WordsOwn w v1 zs) (h2 : WordsOwn w v2 zs) (hl : zs.length < 1000000) :
    Calls Tryz.prog 39 #[v1, v2] w fun e w' => e = .returned (.bool true) ∧ ∃ n, w' = w.drewN n := by
  obtain ⟨A, c, rfl, hA⟩ := h1.form
  obtain ⟨B, d, rfl, hB⟩ := h2.form
  have HA := Lib.hid hA
  have HB := Lib.hid hB
  clear hA hB h1 h2
  go_enter Tryz.func39, Tryz.ntmps39
  go_wp2
  go_loopw [5] (fun i wr => ∃ k n : Nat, k ≤ zs.length ∧ i = .int .i64 k ∧ wr = w.drewN n) (fun i _ => (zs.length - intOf i).toNat)
  case atStart => exact ⟨0, 0, by omega, rfl, rfl⟩
  case round =>
    obtain ⟨k, n, hk, rfl, rfl⟩ := hrel
    by_cases hlt : k < zs.length
    · obtain ⟨g, rfl, c0⟩ := HA.out k hlt
      obtain ⟨g', rfl, d0⟩ := HB.out k hlt
      generalize zs.getD k 0 = z at *
      have b1 : (k : Int) < (zs.length : Int) := by omega
      go_wp2
      go_quiet (fail)
      go_wp2
      go_roundw
      case rel => exact ⟨k + 1, _, by omega, by go_num, rfl⟩
      case measure => simp [intOf]; omega
    · have hle : zs.length ≤ k := by omega
      go_wp2
      go_ret
      exact ⟨rfl, n, rfl⟩

end Go.Proofs.YtopmmlcjlopmaaaGreatDoor
/- Contracts of package walk: From. (Laid by tools/gen_he.py.) -/
namespace Go.Proofs.YtopmmlcjlopmaaaGreatDoor
set_option linter.unusedVariables false
set_option linter.unusedSimpArgs false
open Go.ChangeShapes Go.WideShapes Go.ChangeAt Go.RowKit Go.Joins

theorem slot_le (t a l : Int) : W64 (slotF t a l) := by
  have h1 := table_bd t
  have h2 := index_bd a l
  unfold slotF W64
  omega
theorem i64_of_bits {M : Int} (h : 14 ≤ M ∧ M ≤ 22) : I64 M := by unfold I64; omega
theorem i64_wrap {z : Int} (h0 : -9223372036854775808 ≤ z) (h1 : z < 9223372036854775808) : IntKind.i64.wrap z = z := by
  rw [IntKind.wrap_i64]; omega
theorem slotsP_more (tr : List Int) (S : List (Int × Int × Int)) (l s x : Int) : tr ++ slotsP S ++ [s] = tr ++ slotsP (S ++ [(l, s, x)]) := by
  unfold slotsP; simp
theorem and_one (x : Int) : (bits .and .u64 x 1 == 0) = !bitF x 0 := by
  rw [← has_b0]; unfold hasF bne; simp

/-- what the region of From's leaf keeps -/
def RegL (w : World) (lev t : Int) (W U X : Bool) (w' : World) : Prop := Blk w' w.heap.size #[.int .i64 lev, .int .u64 t, .bool W, .bool U, .bool X] 83 ∧ Shifts w'
theorem regl_set {w w' : World} {lev t : Int} {W U X : Bool} (h : RegL w lev t W U X w') {b : Nat} (hb : b = w.heap.size + 2) (i : Nat) (y : Value) : RegL w lev t W U X (w'.setCell ⟨b, i, none⟩ y) :=
  ⟨h.1.turn (turn1 _ b i y) (by omega), shifts_turn h.2 (turn1 _ b i y) (by omega)⟩

set_option maxRecDepth 100000 in
set_option maxHeartbeats 8000000 in
theorem from_any {w : World} {F : Nat → Prop} {m : Nat} {M : Int} {f : Int → Int} {tr : List Int} {n : Nat} (h : Mem w F m M f tr n) (hn : n < 900000) (h0 : ¬ F 1) (hs : Shifts w) (lev t a : Int) (W U X nxe : Bool) (ht : W64 t) (ha : W64 a) :
    Calls Tryz.prog 29 #[.pointer (some ⟨m, 0, none⟩), placeV lev t W U X, .int .u64 a, .bool nxe] w (FromAns w F m M f tr (n + 5) (walkZ M f a nxe lev t W U X)) := by
  obtain ⟨i0, hi, hz0, hz1, hz2⟩ := info_parts infoStep
  have HP := Lib.hid (fm_start (lev := lev) (t := t) (W := W) (U := U) (X := X) h h0 hs)
  have HB := Lib.hid h.bits
  have HWD := Lib.hid h.words
  clear h hs
  go_enter Tryz.func29, Tryz.ntmps29
  go_wp2
  go_step3
  go_wp2
  go_step3
  go_wp2
  go_loopg [] 5 (fun k wr => ∃ (lev' t' : Int) (W' U' X' : Bool) (S : List (Int × Int × Int)) (v : Value) (G : Nat → Prop), (lev' ≤ 4 → lev' ≤ k) ∧ k ≤ 5 ∧ S.length + k ≤ 5 ∧ W64 t' ∧ walkZ M f a nxe lev t W U X = preP S (walkZ M f a nxe lev' t' W' U' X') ∧ Fm w wr F m M f (tr ++ slotsP S) (n + 5 - k) lev' t' W' U' X' S v (offP 2) G)
  case atStart => exact ⟨lev, t, W, U, X, [], .slice none 0 0, _, by omega, by omega, by simp, ht, (preP_nil _).symm, by rw [show slotsP [] = [] from rfl, List.append_nil]; exact HP.out⟩
  case round =>
    obtain ⟨lev', t', W', U', X', S, v, G, hk, hk5, hSl, ht', hE, hF⟩ := hrel
    obtain ⟨A, c, rfl⟩ := hF.own.form
    have HE := Lib.hid hE
    have HF := Lib.hid hF
    clear hE HP
    obtain ⟨b0, b1, b2, b3, b4⟩ := hF.box.five; obtain ⟨p0, p1, p2, p3, p4, p5, p6⟩ := hF.pth.seven; have q0 := hF.pth.fz 0; have q1 := hF.pth.fz 1; have q2 := hF.pth.fz 2; have q3 := hF.pth.fz 3; have q4 := hF.pth.fz 4; have q5 := hF.pth.fz 5; have q6 := hF.pth.fz 6; obtain ⟨r0, r1, r2, r3, r4, r5, r6⟩ := hF.res.seven; have s0 := hF.res.fz 0; have s1 := hF.res.fz 1; have s2 := hF.res.fz 2; have s3 := hF.res.fz 3; have s4 := hF.res.fz 4; have s5 := hF.res.fz 5; have s6 := hF.res.fz 6
    clear hF
    by_cases hl : 1 ≤ lev' ∧ lev' ≤ 4
    · obtain ⟨h1, h4⟩ := hl
      have hk' := hk h4
      have CI := fun w' => isLevel_yes lev' w' h1 h4
      have CS := slot_any t' a lev' wr HF.out.sh ht' ha
      have HSL := Lib.hid (slot_le t' a lev')
      obtain ⟨s, hs⟩ : ∃ s, slotF t' a lev' = s := ⟨_, rfl⟩
      rw [hs] at CS HSL
      have CL := mload_any HF.out.wk.mem (by omega) s HSL.out
      by_cases he : errS M s = 0
      · obtain ⟨x, hx⟩ : ∃ x, f (s / 8) = x := ⟨_, rfl⟩
        have HX := Lib.hid (show W64 x from hx ▸ HWD.out _)
        have HA := Lib.hid (walk_at (M := M) (f := f) (a := a) (nxe := nxe) (W := W') (U := U') (X := X') h1 h4 hs he hx)
        rw [show peekV M f s = x by unfold peekV; rw [if_pos he, hx], he, show loadT M (tr ++ slotsP S) s = tr ++ slotsP (S ++ [(lev', s, x)]) by unfold loadT; rw [if_pos he]; exact slotsP_more _ _ _ _ _] at CL
        have HSO := Lib.hid hSl
        clear hs hx he hk HWD
        have hbit := and_one x
        go_upto_region 7 with (first | (go_at_call 54; refine (CI _).mono ?_; rintro e w' ⟨rfl, rfl⟩) | (go_at_call 55; refine CS.mono ?_; rintro e w' ⟨rfl, rfl⟩) | (go_at_call 56; refine CL.mono ?_; rintro e w3 ⟨rfl, hM3, hT3⟩; obtain ⟨G3, hF3⟩ := HF.out.load hM3 hT3; have HF3 := Lib.hid hF3; clear hM3 hT3 CL CS b0 b1 b2 b3 b4 p0 p1 p2 p3 p4 p5 p6 q0 q1 q2 q3 q4 q5 q6 r0 r1 r2 r3 r4 r5 r6 s0 s1 s2 s3 s4 s5 s6; obtain ⟨b0, b1, b2, b3, b4⟩ := hF3.box.five; obtain ⟨p0, p1, p2, p3, p4, p5, p6⟩ := hF3.pth.seven; have q0 := hF3.pth.fz 0; have q1 := hF3.pth.fz 1; have q2 := hF3.pth.fz 2; have q3 := hF3.pth.fz 3; have q4 := hF3.pth.fz 4; have q5 := hF3.pth.fz 5; have q6 := hF3.pth.fz 6; obtain ⟨r0, r1, r2, r3, r4, r5, r6⟩ := hF3.res.seven; have s0 := hF3.res.fz 0; have s1 := hF3.res.fz 1; have s2 := hF3.res.fz 2; have s3 := hF3.res.fz 3; have s4 := hF3.res.fz 4; have s5 := hF3.res.fz 5; have s6 := hF3.res.fz 6; have al0 : ∀ o, (w3.alloc o).cell? ⟨w.heap.size + 2, 0, none⟩ = some (.slice A S.length c) := fun o => (World.cell?_of_block (a := ⟨w.heap.size + 2, 0, none⟩) (Deep.blk_alloc_lt _ _ _ hF3.pth.lt)).trans p0; clear hF3) | (at_builtin; refine wpList_append_own_at _ rfl _ _ 33 rfl (w.heap.size + 3) 99 i0 _ 3 24 Tryz.underlying33 hi hz0 hz1 hz2 rfl (by decide) (.slice A S.length c) S.length (stepCells S) rfl (World.ownsRow.alloc HF3.out.own _) ⟨w3.heap.size, 0, none⟩ 1 1 [.int .i64 lev', .int .u64 s, .int .u64 x] rfl rfl (three_cells _ _ _ _ _) (three_one _ _ _) (by have := HSO.out; unfold maxLen; omega) (by have := HSO.out; omega) (by have := HF3.out.pth.lt; simp; omega) ?_; intro v' w5 hown' hgrow hnil hloc; have HN := Lib.hid (HF3.out.more hown' hgrow (by simpa using hloc)); obtain ⟨g5, cap5, rfl⟩ := ownsRow_form hown' (by omega); clear hgrow hown' hnil hloc; clear b0 b1 b2 b3 b4 p0 p1 p2 p3 p4 p5 p6 q0 q1 q2 q3 q4 q5 q6 r0 r1 r2 r3 r4 r5 r6 s0 s1 s2 s3 s4 s5 s6; obtain ⟨p0, p1, p2, p3, p4, p5, p6⟩ := HN.out.2.1.seven; have q0 := HN.out.2.1.fz 0))
        obtain ⟨w6, hw6⟩ : ∃ w6, w5.setCell ⟨w.heap.size + 1 + 1, 0, none⟩ (.slice (some ⟨g5, 0, none⟩) (S.length + 1) cap5) = w6 := ⟨_, rfl⟩
        have HF6 : Hid (Fm w w6 F m M f (tr ++ slotsP (S ++ [(lev', s, x)])) (n + 5 - gk + 1) lev' t' W' U' X' (S ++ [(lev', s, x)]) (.slice (some ⟨g5, 0, none⟩) (S.length + 1) cap5) (offP 2) G3) := Lib.hid (hw6 ▸ HN.out.1)
        rw [hw6]
        clear hw6 HN p0 p1 p2 p3 p4 p5 p6 q0 al0 HF3 HF
        have hF6 := HF6.out
        obtain ⟨b0, b1, b2, b3, b4⟩ := hF6.box.five; obtain ⟨p0, p1, p2, p3, p4, p5, p6⟩ := hF6.pth.seven; have q0 := hF6.pth.fz 0; have q1 := hF6.pth.fz 1; have q2 := hF6.pth.fz 2; have q3 := hF6.pth.fz 3; have q4 := hF6.pth.fz 4; have q5 := hF6.pth.fz 5; have q6 := hF6.pth.fz 6; obtain ⟨r0, r1, r2, r3, r4, r5, r6⟩ := hF6.res.seven; have s0 := hF6.res.fz 0; have s1 := hF6.res.fz 1; have s2 := hF6.res.fz 2; have s3 := hF6.res.fz 3; have s4 := hF6.res.fz 4; have s5 := hF6.res.fz 5; have s6 := hF6.res.fz 6
        clear hF6
        cases hP : bitF x 0
        · have hB2 : (bits .and .u64 x 1 == 0) = true := by rw [hbit, hP]; rfl
          have HD := Lib.hid (HF6.out.path (p' := offP 1) (turn1 w6 (w.heap.size + 2) 1 (.int .i64 1)) (HF6.out.pth.set1 1 (.int .i64 1)))
          have HO := Lib.hid (on_abs (M := M) (nxe := nxe) (lev := lev') (W := W') (U := U') (X := X') (k := walkZ M f a nxe (lev' - 1)) hP)
          clear hbit hP
          go_wp2
          (try rw [Exit.noGoto_ret])
          refine bodyPost_ret (results_cell_row rfl _ _ (w.heap.size + 1) _ _ _ _ rfl (HD.out.res.set7 _ _ _ _ _ _ _) Tryz.underlying37 rfl rfl) rfl ?_
          rw [HE.out, HA.out, HO.out, preP_preP]
          exact (Fm.done HD.out rfl rfl).more (by omega)

        · have hB2 : (bits .and .u64 x 1 == 0) = false := by rw [hbit, hP]; rfl
          have CB := fun k => mbits_any (HF6.out.wk.mem.kept (drewN_below w6 k))
          have CR := fun k => res_any x lev' M nxe (w6.drewN k) (i64_of_bits HB.out)
          have HO1 := Lib.hid (on_res (M := M) (nxe := nxe) (lev := lev') (W := W') (U := U') (X := X') (k := walkZ M f a nxe (lev' - 1)) hP)
          have HO2 := Lib.hid (on_leaf (M := M) (nxe := nxe) (lev := lev') (W := W') (U := U') (X := X') (k := walkZ M f a nxe (lev' - 1)) hP)
          have HO3 := Lib.hid (on_on (M := M) (nxe := nxe) (lev := lev') (W := W') (U := U') (X := X') (k := walkZ M f a nxe (lev' - 1)) hP)
          clear hbit hP
          have CF := fun w' => leaf_any x lev' w'
          have CA := and_any W' U' X' x
          have CBel := below_any lev' t' x W' U' X'
          cases hR : resF x lev' M nxe
          · simp only [hR] at CR
            cases hL : leafF x lev'
            · simp only [hL] at CF
              have HO := Lib.hid (HO3.out hR hL)
              clear HO1 HO2 HO3 hR hL
              go_wp2
              go_quiet (first | (go_at_call 58; exact quietOf (CB _)) | (go_at_call 57; exact quietOf (CR _)))
              have HF7 := Lib.hid (HF6.out.quiet (drewN_below w6 nq))
              clear b0 b1 b2 b3 b4 p0 p1 p2 p3 p4 p5 p6 q0 q1 q2 q3 q4 q5 q6 r0 r1 r2 r3 r4 r5 r6 s0 s1 s2 s3 s4 s5 s6 CB CR HF6 CA
              generalize w6.drewN nq = w7 at *
              have hF7 := HF7.out
              obtain ⟨b0, b1, b2, b3, b4⟩ := hF7.box.five
              clear hF7
              go_wp2_with (first | (go_at_call 59; refine (CF _).mono ?_; rintro e w' ⟨rfl, rfl⟩) | (go_at_call 62; refine (CBel _ HX.out).mono ?_; rintro e w8 ⟨rfl, hb8⟩; have HF8 := Lib.hid (HF7.out.quiet hb8); clear hb8 b0 b1 b2 b3 b4; have hF8 := HF8.out; obtain ⟨b0, b1, b2, b3, b4⟩ := hF8.box.five; have c0 := hF8.box.fz 0; have c1 := hF8.box.fz 1; have c2 := hF8.box.fz 2; have c3 := hF8.box.fz 3; have c4 := hF8.box.fz 4; clear hF8))
              have HF9 := Lib.hid (HF8.out.place (turn5 w8 w.heap.size (.int .i64 (IntKind.i64.wrap (lev' - 1))) (.int .u64 (tableF x)) (.bool (W' && bitF x 1)) (.bool (U' && bitF x 2)) (.bool (X' && !bitF x 63))) (HF8.out.box.set5 _ _ _ _ _))
              have ew : IntKind.i64.wrap (lev' - 1) = lev' - 1 := i64_wrap (by omega) (by omega)
              go_roundg (gk - 1)
              case measure => omega
              case rel =>
                refine ⟨lev' - 1, tableF x, W' && bitF x 1, U' && bitF x 2, X' && !bitF x 63, S ++ [(lev', s, x)], .slice (some ⟨g5, 0, none⟩) (S.length + 1) cap5, G3, by omega, by omega, by have := HSO.out; simp; omega, w64_table x, ?_, ?_⟩
                · rw [HE.out, HA.out, HO.out, preP_preP]
                · have h9 := HF9.out
                  rw [ew] at h9
                  rw [show n + 5 - (gk - 1) = n + 5 - gk + 1 by omega]
                  exact h9
            · simp only [hL] at CF
              have HO := Lib.hid (HO2.out hR hL)
              clear HO1 HO2 HO3 hR hL CBel
              go_wp2
              go_quiet (first | (go_at_call 58; exact quietOf (CB _)) | (go_at_call 57; exact quietOf (CR _)))
              have HF7 := Lib.hid (HF6.out.quiet (drewN_below w6 nq))
              clear b0 b1 b2 b3 b4 p0 p1 p2 p3 p4 p5 p6 q0 q1 q2 q3 q4 q5 q6 r0 r1 r2 r3 r4 r5 r6 s0 s1 s2 s3 s4 s5 s6 CB CR HF6
              generalize w6.drewN nq = w7 at *
              have hF7 := HF7.out
              obtain ⟨b0, b1, b2, b3, b4⟩ := hF7.box.five
              clear hF7
              go_upto_region 12 with (first | (go_at_call 59; refine (CF _).mono ?_; rintro e w' ⟨rfl, rfl⟩) | (go_at_call 60; refine (CA _).mono ?_; rintro e w8 ⟨rfl, hb8⟩; have HF8 := Lib.hid (HF7.out.quiet hb8); clear hb8 b0 b1 b2 b3 b4; have hF8 := HF8.out; obtain ⟨p0, p1, p2, p3, p4, p5, p6⟩ := hF8.pth.seven; have q1 := hF8.pth.fz 1; have q2 := hF8.pth.fz 2; have q3 := hF8.pth.fz 3; have q4 := hF8.pth.fz 4; clear hF8))
              obtain ⟨w9, hw9⟩ : ∃ w9, (((w8.setCell ⟨w.heap.size + 1 + 1, 1, none⟩ (.int .i64 0)).setCell ⟨w.heap.size + 1 + 1, 2, none⟩ (.bool (W' && bitF x 1))).setCell ⟨w.heap.size + 1 + 1, 3, none⟩ (.bool (U' && bitF x 2))).setCell ⟨w.heap.size + 1 + 1, 4, none⟩ (.bool (X' && !bitF x 63)) = w9 := ⟨_, rfl⟩
              have HF9 : Hid (Fm w w9 F m M f (tr ++ slotsP (S ++ [(lev', s, x)])) (n + 5 - gk + 1) lev' t' W' U' X' (S ++ [(lev', s, x)]) (.slice (some ⟨g5, 0, none⟩) (S.length + 1) cap5) ⟨[], 0, W' && bitF x 1, U' && bitF x 2, X' && !bitF x 63, 0, 0⟩ G3) :=
                Lib.hid (hw9 ▸ HF8.out.path ((((turn1 _ _ _ _).and (turn1 _ _ _ _)).and (turn1 _ _ _ _)).and (turn1 _ _ _ _)) ((((HF8.out.pth.set1 1 _).set1 2 _).set1 3 _).set1 4 _))
              (try rw [hw9])
              clear hw9 p0 p1 p2 p3 p4 p5 p6 q1 q2 q3 q4 HF8 HF7
              have HFA := Lib.hid HF9.out.drew
              have H0 : RegL w lev' t' W' U' X' w9.drew := ⟨HFA.out.box, HFA.out.sh⟩
              refine wp_region_held_drew (S := RegL w lev' t' W' U' X') (by kernel_rfl) H0 (fun hHeld => ?_)
              clear H0 HF9
              have h2 := HFA.out.z.2
              generalize w9.drew = wa at *
              have hFA := HFA.out
              obtain ⟨b0, b1, b2, b3, b4⟩ := hFA.box.five; obtain ⟨p0, p1, p2, p3, p4, p5, p6⟩ := hFA.pth.seven; have q0 := hFA.pth.fz 0; have q1 := hFA.pth.fz 1; have q2 := hFA.pth.fz 2; have q3 := hFA.pth.fz 3; have q4 := hFA.pth.fz 4; have q5 := hFA.pth.fz 5; have q6 := hFA.pth.fz 6; obtain ⟨r0, r1, r2, r3, r4, r5, r6⟩ := hFA.res.seven; have s0 := hFA.res.fz 0; have s1 := hFA.res.fz 1; have s2 := hFA.res.fz 2; have s3 := hFA.res.fz 3; have s4 := hFA.res.fz 4; have s5 := hFA.res.fz 5; have s6 := hFA.res.fz 6
              clear hFA
              refine anyH_take (i := 0) (v := ?_) rfl (by kernel_rfl) (by kernel_rfl) (by kernel_rfl) (fun _ _ _ h => h) (by rfl) (by assumption) ?_ ?_
              rotate_left
              · intro w hSw
                go_simp
                (try with_reducible rfl)
              (try simp only [Act.put, List.setIfInBounds_toArray, List.set_cons_zero, List.set_cons_succ])
              refine anyH_take (i := 1) (v := ?_) rfl (by kernel_rfl) (by kernel_rfl) (by kernel_rfl) (fun _ _ _ h => h) (by rfl) (by assumption) ?_ ?_
              rotate_left
              · intro w hSw
                obtain ⟨hA, hS⟩ := hSw
                obtain ⟨c0, c1, c2, c3, c4⟩ := hA.five
                go_simp
                (try with_reducible rfl)
              (try simp only [Act.put, List.setIfInBounds_toArray, List.set_cons_zero, List.set_cons_succ])
              refine anyH_take (i := 2) (v := ?_) rfl (by kernel_rfl) (by kernel_rfl) (by kernel_rfl) (fun _ _ _ h => h) (by rfl) (by assumption) ?_ ?_
              rotate_left
              · intro w hSw
                go_simp
                (try with_reducible rfl)
              (try simp only [Act.put, List.setIfInBounds_toArray, List.set_cons_zero, List.set_cons_succ])
              refine anyH_take (i := 3) (v := ?_) rfl (by kernel_rfl) (by kernel_rfl) (by kernel_rfl) (fun _ _ _ h => h) (by rfl) (by assumption) ?_ ?_
              rotate_left
              · intro w hSw
                go_simp
                (try with_reducible rfl)
              (try simp only [Act.put, List.setIfInBounds_toArray, List.set_cons_zero, List.set_cons_succ])
              refine anyH_take (i := 4) (v := ?_) rfl (by kernel_rfl) (by kernel_rfl) (by kernel_rfl) (fun _ _ _ h => h) (by rfl) (by assumption) ?_ ?_
              rotate_left
              · intro w hSw
                obtain ⟨hA, hS⟩ := hSw
                obtain ⟨c0, c1, c2, c3, c4⟩ := hA.five
                go_simp
                (try with_reducible rfl)
              (try simp only [Act.put, List.setIfInBounds_toArray, List.set_cons_zero, List.set_cons_succ])
              refine anyH_take (i := 6) (v := ?_) rfl (by kernel_rfl) (by kernel_rfl) (by kernel_rfl) (fun _ _ _ h => h) (by rfl) (by assumption) ?_ ?_
              rotate_left
              · intro w hSw
                go_simp
                (try with_reducible rfl)
              (try simp only [Act.put, List.setIfInBounds_toArray, List.set_cons_zero, List.set_cons_succ])
              refine wpAnyH_ready (rs := [5]) (by kernel_rfl) (by simp) ?_
              refine anyH_one rfl (fun K hK => ?_) ?_
              · go_simp
                refine (frame_any _ _ _ hHeld.2 HX.out).mono ?_
                rintro e w' ⟨rfl, rfl⟩
                refine hK.out _ _ (hHeld) (fun hHeld => ?_)
                clear hK K
                (try simp only [Act.put, List.setIfInBounds_toArray, List.set_cons_zero, List.set_cons_succ])
                refine wpAnyH_ready (rs := [7]) (by kernel_rfl) (by simp) ?_
                refine anyH_one rfl (fun K hK => ?_) ?_
                · go_simp
                  refine hK.out _ _ (regl_set hHeld rfl _ _) (fun hHeld => ?_)
                  clear hK K
                  (try simp only [Act.put, List.setIfInBounds_toArray, List.set_cons_zero, List.set_cons_succ])
                  refine anyH_take (i := 8) (v := ?_) rfl (by kernel_rfl) (by kernel_rfl) (by kernel_rfl) (fun _ _ _ h => h) (by rfl) (by assumption) ?_ ?_
                  rotate_left
                  · intro w hSw
                    go_simp
                    (try with_reducible rfl)
                  (try simp only [Act.put, List.setIfInBounds_toArray, List.set_cons_zero, List.set_cons_succ])
                  refine wpAnyH_ready (rs := [9]) (by kernel_rfl) (by simp) ?_
                  refine anyH_one rfl (fun K hK => ?_) ?_
                  · go_simp
                    refine hK.out _ _ (regl_set hHeld rfl _ _) (fun hHeld => ?_)
                    clear hK K
                    (try simp only [Act.put, List.setIfInBounds_toArray, List.set_cons_zero, List.set_cons_succ])
                    refine wpAnyH_done (by kernel_rfl) ?_ _
                    have HFL := Lib.hid (HFA.out.path (p' := ⟨[], 0, W' && bitF x 1, U' && bitF x 2, X' && !bitF x 63, lev', frameF x lev'⟩) ((turn1 wa (w.heap.size + 2) 5 (.int .i64 lev')).and (turn1 _ (w.heap.size + 2) 6 (.int .u64 (frameF x lev')))) ((HFA.out.pth.set1 5 _).set1 6 _))
                    go_wp2
                    (try rw [Exit.noGoto_ret])
                    refine bodyPost_ret (results_cell_row rfl _ _ (w.heap.size + 1) _ _ _ _ rfl (HFL.out.res.set7 _ _ _ _ _ _ _) Tryz.underlying37 rfl rfl) rfl ?_
                    rw [HE.out, HA.out, HO.out, preP_preP]
                    exact (Fm.done HFL.out rfl rfl).more (by omega)
                  exact AllReadyH.nil
                exact AllReadyH.nil
              exact AllReadyH.nil

          · simp only [hR] at CR
            have HO := Lib.hid (HO1.out hR)
            clear HO1 HO2 HO3 hR CF CA CBel
            go_wp2
            go_quiet (first | (go_at_call 58; exact quietOf (CB _)) | (go_at_call 57; exact quietOf (CR _)))
            have HF7 := Lib.hid (HF6.out.quiet (drewN_below w6 nq))
            clear b0 b1 b2 b3 b4 p0 p1 p2 p3 p4 p5 p6 q0 q1 q2 q3 q4 q5 q6 r0 r1 r2 r3 r4 r5 r6 s0 s1 s2 s3 s4 s5 s6 CB CR HF6
            generalize w6.drewN nq = w7 at *
            have hF7 := HF7.out
            obtain ⟨b0, b1, b2, b3, b4⟩ := hF7.box.five; obtain ⟨p0, p1, p2, p3, p4, p5, p6⟩ := hF7.pth.seven; have q0 := hF7.pth.fz 0; have q1 := hF7.pth.fz 1; have q2 := hF7.pth.fz 2; have q3 := hF7.pth.fz 3; have q4 := hF7.pth.fz 4; have q5 := hF7.pth.fz 5; have q6 := hF7.pth.fz 6; obtain ⟨r0, r1, r2, r3, r4, r5, r6⟩ := hF7.res.seven; have s0 := hF7.res.fz 0; have s1 := hF7.res.fz 1; have s2 := hF7.res.fz 2; have s3 := hF7.res.fz 3; have s4 := hF7.res.fz 4; have s5 := hF7.res.fz 5; have s6 := hF7.res.fz 6
            clear hF7
            go_wp2
            (try rw [Exit.noGoto_ret])
            refine bodyPost_ret (results_cell_row rfl _ _ (w.heap.size + 1) _ _ _ _ rfl (HF7.out.res.set7 _ _ _ _ _ _ _) Tryz.underlying37 rfl rfl) rfl ?_
            rw [HE.out, HA.out, HO.out, preP_preP]
            exact (Fm.done HF7.out rfl rfl).more (by omega)

      · have HA := Lib.hid (walk_err (M := M) (f := f) (a := a) (nxe := nxe) (t := t') (W := W') (U := U') (X := X') h1 h4 (hs ▸ he))
        rw [show loadT M (tr ++ slotsP S) s = tr ++ slotsP S from if_neg he] at CL
        have hne : (errS M s != 0) = true := by simpa using he
        clear hs he hk HWD
        go_wp2_with (first | (go_at_call 54; refine (CI _).mono ?_; rintro e w' ⟨rfl, rfl⟩) | (go_at_call 55; refine CS.mono ?_; rintro e w' ⟨rfl, rfl⟩) | (go_at_call 56; refine CL.mono ?_; rintro e w3 ⟨rfl, hM3, hT3⟩; obtain ⟨G3, hF3⟩ := HF.out.load hM3 hT3; have HF3 := Lib.hid hF3; clear hM3 hT3 CL CS b0 b1 b2 b3 b4 p0 p1 p2 p3 p4 p5 p6 q0 q1 q2 q3 q4 q5 q6 r0 r1 r2 r3 r4 r5 r6 s0 s1 s2 s3 s4 s5 s6; obtain ⟨b0, b1, b2, b3, b4⟩ := hF3.box.five; obtain ⟨p0, p1, p2, p3, p4, p5, p6⟩ := hF3.pth.seven; have q0 := hF3.pth.fz 0; have q1 := hF3.pth.fz 1; have q2 := hF3.pth.fz 2; have q3 := hF3.pth.fz 3; have q4 := hF3.pth.fz 4; have q5 := hF3.pth.fz 5; have q6 := hF3.pth.fz 6; obtain ⟨r0, r1, r2, r3, r4, r5, r6⟩ := hF3.res.seven; have s0 := hF3.res.fz 0; have s1 := hF3.res.fz 1; have s2 := hF3.res.fz 2; have s3 := hF3.res.fz 3; have s4 := hF3.res.fz 4; have s5 := hF3.res.fz 5; have s6 := hF3.res.fz 6; clear hF3))
        (try rw [Exit.noGoto_ret])
        refine bodyPost_ret (results_cell_row rfl _ _ (w.heap.size + 1) _ _ _ _ rfl (HF3.out.res.set7 _ _ _ _ _ _ _) Tryz.underlying37 rfl rfl) rfl ?_
        rw [HE.out, HA.out]
        exact (Fm.done HF3.out rfl rfl).more (by omega)

    · have CI := fun w' => isLevel_no lev' w' hl
      have HA := Lib.hid (walk_off (M := M) (f := f) (a := a) (nxe := nxe) (t := t') (W := W') (U := U') (X := X') hl)
      clear hl hk HWD
      go_wp2_with (go_at_call 54; refine (CI _).mono ?_; rintro e w' ⟨rfl, rfl⟩)
      (try rw [Exit.noGoto_ret])
      refine bodyPost_ret (results_cell_row rfl _ _ (w.heap.size + 1) _ _ _ _ rfl (HF.out.res.set7 _ _ _ _ _ _ _) Tryz.underlying37 rfl rfl) rfl ?_
      rw [HE.out, HA.out]
      exact (Fm.done HF.out rfl rfl).more (by omega)

end Go.Proofs.YtopmmlcjlopmaaaGreatDoor
