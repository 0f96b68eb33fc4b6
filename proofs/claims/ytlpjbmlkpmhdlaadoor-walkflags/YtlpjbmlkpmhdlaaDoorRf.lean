/- Contracts of package dormerref04: a memory of the document's, by its slots and its trace; what only reads. -/
import Derived.Test.YtlpjbmlkpmhdlaaDoorDp
import Derived.Test.YtlpjbmlkpmhdlaaDoorWr
import Derived.Test.YtlpjbmlkpmhdlaaDoorFr
namespace Go.Proofs.YtlpjbmlkpmhdlaaDoor
set_option linter.unusedVariables false
set_option linter.unusedSimpArgs false
open Go.ChangeShapes Go.WideShapes Go.ChangeAt Go.RowKit Go.Joins

/-- the cells of slots -/
def slotCells : List (Int × Int) → List Value
  | [] => []
  | p :: L => .int .u64 p.1 :: .int .u64 p.2 :: slotCells L

theorem slotCells_len (L : List (Int × Int)) : (slotCells L).length = L.length * 2 := by
  induction L with
  | nil => rfl
  | cons p L ih => simp [slotCells, ih]; omega
theorem slotCells_append (L K : List (Int × Int)) : slotCells (L ++ K) = slotCells L ++ slotCells K := by
  induction L with
  | nil => rfl
  | cons p L ih => simp [slotCells, ih]
theorem slotCells_get (L : List (Int × Int)) : ∀ k, k < L.length → (slotCells L)[k * 2]? = some (.int .u64 (L.getD k (0, 0)).1) ∧ (slotCells L)[k * 2 + 1]? = some (.int .u64 (L.getD k (0, 0)).2) := by
  induction L with
  | nil => intro k hk; simp at hk
  | cons p L ih =>
    intro k hk
    rcases k with _ | k
    · exact ⟨rfl, rfl⟩
    · have := ih k (by simpa using hk)
      rw [show (k + 1) * 2 = k * 2 + 1 + 1 by omega]
      simpa [slotCells] using this

/-- vs holds the slots L, vt the words tr -/
def SlotsOwn (w : World) (vs : Value) (L : List (Int × Int)) : Prop := w.ownsRow 0 100 2 vs L.length (slotCells L)
def WordsOwn (w : World) (vt : Value) (tr : List Int) : Prop := w.ownsRow 0 23 1 vt tr.length (tr.map (Value.int .u64))

theorem own_below {w w' : World} {base : Nat} {e : TypeId} {sz : Nat} {v : Value} {n : Nat} {xs : List Value} (h : w.ownsRow base e sz v n xs) (hb : Below w.heap.size w w') : w'.ownsRow base e sz v n xs :=
  h.kept (row := none) ⟨hb.os, hb.tape, hb.output, hb.size, fun k hk _ => hb.block k hk⟩ (by cases hv : v.ownBlock <;> simp)

theorem SlotsOwn.form {w : World} {vs : Value} {L : List (Int × Int)} (h : SlotsOwn w vs L) :
    ∃ A c, vs = .slice A L.length c ∧ ∀ k, k < L.length → ∃ g, A = some ⟨g, 0, none⟩ ∧ w.cell? ⟨g, k * 2, none⟩ = some (.int .u64 (L.getD k (0, 0)).1) ∧ w.cell? ⟨g, k * 2 + 1, none⟩ = some (.int .u64 (L.getD k (0, 0)).2) := by
  have h' := h
  rcases h.2 with ⟨rfl, hn⟩ | ⟨g, cap, cur, rfl, _⟩
  · exact ⟨none, 0, by rw [hn], fun k hk => by omega⟩
  · refine ⟨_, _, rfl, fun k hk => ⟨g, rfl, ?_, ?_⟩⟩
    · have := World.ownsRow.cells h' (g := g) rfl (k * 2) _ (slotCells_get L k hk).1
      rwa [show (⟨g, 0, none⟩ : Addr).add (k * 2) = ⟨g, k * 2, none⟩ by unfold Addr.add; split <;> simp_all] at this
    · have := World.ownsRow.cells h' (g := g) rfl (k * 2 + 1) _ (slotCells_get L k hk).2
      rwa [show (⟨g, 0, none⟩ : Addr).add (k * 2 + 1) = ⟨g, k * 2 + 1, none⟩ by unfold Addr.add; split <;> simp_all] at this

/-- a slot's word -/
def wordL : List (Int × Int) → Int → Int
  | [], _ => 0
  | p :: L, a => if p.1 = a then p.2 else wordL L a

theorem wordL_hit : ∀ (L : List (Int × Int)) (a : Int) (k : Nat), k < L.length → (∀ j, j < k → (L.getD j (0, 0)).1 ≠ a) → (L.getD k (0, 0)).1 = a → wordL L a = (L.getD k (0, 0)).2
  | [], _, k, hk, _, _ => by simp at hk
  | p :: L, a, 0, _, _, h => by simp [wordL]; intro hn; exact absurd h hn
  | p :: L, a, k + 1, hk, hn, h => by
    have h0 : p.1 ≠ a := hn 0 (by omega)
    simp only [wordL]
    rw [if_neg h0]
    exact wordL_hit L a k (by simpa using hk) (fun j hj => hn (j + 1) (by omega)) h
theorem wordL_miss : ∀ (L : List (Int × Int)) (a : Int), (∀ j, j < L.length → (L.getD j (0, 0)).1 ≠ a) → wordL L a = 0
  | [], _, _ => rfl
  | p :: L, a, hn => by
    have h0 : p.1 ≠ a := hn 0 (by simp)
    simp only [wordL]
    rw [if_neg h0]
    exact wordL_miss L a (fun j hj => hn (j + 1) (by simpa using hj))

theorem pow_stepM (k : Nat) (hk : k < 22) : IntKind.u64.wrap (2 * 2 ^ k) = 2 ^ (k + 1) := by
  have h : (2 : Int) * 2 ^ k = 2 ^ (k + 1) := by rw [Int.pow_succ]; omega
  rw [h]
  have h1 : (2 : Int) ^ (k + 1) ≤ 2 ^ 22 := by exact_mod_cast Nat.pow_le_pow_right (by decide) (by omega)
  have h2 : (0 : Int) < 2 ^ (k + 1) := Int.pow_pos (by decide)
  exact wrap_in (by omega) (by omega)

theorem rSize_any (M : Int) (vs vt : Value) (w : World) (hM : 14 ≤ M ∧ M ≤ 22) :
    Calls Tryd.prog 82 #[.agg #[.int .i64 M, vs, vt]] w fun e w' => e = .returned (.int .u64 (sizeM M)) ∧ Below w.heap.size w w' := by
  obtain ⟨h0, h1⟩ := hM
  go_enter Tryd.func82, Tryd.ntmps82
  go_wp2
  go_loop [3, 4] (fun x i => ∃ k : Nat, (k : Int) ≤ M ∧ i = .int .i64 k ∧ x = .int .u64 (2 ^ k)) (fun _ i => (M - intOf i).toNat)
  case atStart => exact ⟨0, by omega, rfl, rfl⟩
  case round =>
    obtain ⟨k, hk, rfl, rfl⟩ := hrel
    by_cases hlt : (k : Int) < M
    · have hs := pow_stepM k (by omega)
      go_wp2
      go_round
      case rel => exact ⟨k + 1, by omega, by go_num, rfl⟩
      case measure => simp [intOf]; omega
    · have e : (k : Int) = M := by omega
      have E := Lib.hid (show (2 : Int) ^ k = sizeM M by unfold sizeM; rw [← e]; rfl)
      clear e
      go_wp2
      go_ret
      exact ⟨ret_int E.out, (Below.refl _ w).alloc (Nat.le_refl _) _⟩

theorem rWord_any (M : Int) (vs vt : Value) (L : List (Int × Int)) (a : Int) (w : World) (hS : SlotsOwn w vs L) (hl : L.length < 1000000) :
    Calls Tryd.prog 83 #[.agg #[.int .i64 M, vs, vt], .int .u64 a] w fun e w' => e = .returned (.int .u64 (wordL L a)) ∧ Below w.heap.size w w' := by
  obtain ⟨A, c, rfl, hc⟩ := hS.form
  have HC := Lib.hid hc
  clear hc hS
  go_enter Tryd.func83, Tryd.ntmps83
  go_wp2
  go_loop [5] (fun i => ∃ k : Nat, k ≤ L.length ∧ i = .int .i64 k ∧ ∀ j, j < k → (L.getD j (0, 0)).1 ≠ a) (fun i => (L.length - intOf i).toNat)
  case atStart => exact ⟨0, by omega, rfl, fun j hj => by omega⟩
  case round =>
    obtain ⟨k, hk, rfl, hn⟩ := hrel
    by_cases hlt : k < L.length
    · obtain ⟨g, rfl, c0, c1⟩ := HC.out k hlt
      have d0 : ∀ o, (w.alloc o).cell? ⟨g, k * 2, none⟩ = some (.int .u64 (L.getD k (0, 0)).1) := fun o => by
        rw [← c0]; exact World.cell?_of_block (Below.heap_alloc _ _ _ (cell_lt c0))
      have d1 : ∀ o, (w.alloc o).cell? ⟨g, k * 2 + 1, none⟩ = some (.int .u64 (L.getD k (0, 0)).2) := fun o => by
        rw [← c1]; exact World.cell?_of_block (Below.heap_alloc _ _ _ (cell_lt c1))
      have HN := Lib.hid hn
      have hh := fun h => Lib.hid (wordL_hit L a k hlt hn h)
      clear hn c0 c1
      generalize hp : L.getD k (0, 0) = pq at *
      have HP := Lib.hid hp
      clear hp
      by_cases he : pq.1 = a
      · have E := hh he
        have b : (pq.1 == a) = true := by simpa using he
        clear he
        go_wp2
        go_ret
        exact ⟨ret_int E.out.symm, (Below.refl _ w).alloc (Nat.le_refl _) _⟩
      · have b : (pq.1 == a) = false := by simpa using he
        have HE := Lib.hid he
        clear he
        go_wp2
        go_round
        case rel => exact ⟨k + 1, by omega, by go_num, fun j hj => by
          by_cases e : j = k
          · subst e; rw [HP.out]; exact HE.out
          · exact HN.out j (by omega)⟩
        case measure => simp [intOf]; omega
    · have e : k = L.length := by omega
      have E := Lib.hid (wordL_miss L a (fun j hj => hn j (by omega)))
      have hle : L.length ≤ k := by omega
      clear e hn
      go_wp2
      go_ret
      exact ⟨ret_int E.out.symm, (Below.refl _ w).alloc (Nat.le_refl _) _⟩

/-- f is what the slots L say -/
def Agree (f : Int → Int) (L : List (Int × Int)) : Prop := ∀ s : Int, f s = wordL L (s * 8)

theorem own_alloc1 {w : World} {vs : Value} {L : List (Int × Int)} (h : SlotsOwn w vs L) (o : Obj) : SlotsOwn (w.alloc o) vs L := World.ownsRow.alloc h o

theorem aligned {a : Int} (h : a % 8 = 0) : a / 8 * 8 = a := by omega
theorem slotAddr {a : Int} : a / 8 * 8 = a - a % 8 := by omega

set_option maxRecDepth 100000 in
theorem rPeek_any (M : Int) (vs vt : Value) (L : List (Int × Int)) (f : Int → Int) (a : Int) (w : World) (hM : 14 ≤ M ∧ M ≤ 22) (hS : SlotsOwn w vs L) (hl : L.length < 1000000) (hf : Agree f L) (ha : W64 a) :
    Calls Tryd.prog 63 #[.agg #[.int .i64 M, vs, vt], .int .u64 a] w fun e w' => e = .returned (.tuple #[.int .u64 (peekV M f a), .int .i64 (errS M a)]) ∧ Below w.heap.size w w' := by
  have HB := Lib.hid ((Below.refl _ w).alloc (Nat.le_refl _) (.cells #[.int .i64 M, vs, vt] 34))
  obtain ⟨a0, _⟩ := ha
  have HA := Lib.hid a0
  have cl : ∀ {w1 : World}, Below (w.alloc (.cells #[.int .i64 M, vs, vt] 34)).heap.size (w.alloc (.cells #[.int .i64 M, vs, vt] 34)) w1 → w1.cell? ⟨w.heap.size, 0, none⟩ = some (.int .i64 M) ∧ w1.cell? ⟨w.heap.size, 1, none⟩ = some vs ∧ w1.cell? ⟨w.heap.size, 2, none⟩ = some vt ∧ Hid (Below w.heap.size w w1) ∧ Hid (SlotsOwn w1 vs L) := fun {w1} hb => by
    have hw : ∀ {i : Nat} {v : Value}, (#[.int .i64 M, vs, vt] : Array Value)[i]? = some v → w1.cell? ⟨w.heap.size, i, none⟩ = some v := fun {i v} hv => by
      rw [hb.cell (by simp)]
      have h := Deep.blk_alloc_new w (.cells #[.int .i64 M, vs, vt] 34)
      simp only [World.cell?]
      rw [h]
      exact hv
    exact ⟨hw rfl, hw rfl, hw rfl, HB.out.trans (hb.mono (by simp)), own_below (own_alloc1 hS _) hb⟩
  by_cases h1 : sizeM M ≤ a
  · have e1 : errS M a = 2 := if_pos h1
    rw [show peekV M f a = 0 by unfold peekV; rw [e1]; rfl, e1]
    clear e1
    go_enter Tryd.func63, Tryd.ntmps63
    go_wp2_with (go_at_call 82; refine (rSize_any M vs vt _ hM).mono ?_; rintro e w1 ⟨rfl, hb⟩; obtain ⟨c0, c1, c2, HW, HO⟩ := cl hb; clear hb)
    go_ret2
    exact ⟨rfl, HW.out⟩
  · by_cases h2 : a % 8 = 0
    · have e1 : errS M a = 0 := by unfold errS; rw [if_neg h1, if_pos h2]
      rw [show peekV M f a = wordL L a by unfold peekV; rw [e1, if_pos rfl, hf, aligned h2], e1]
      have h1' : a < sizeM M := by omega
      have t8 : a.tmod 8 = 0 := by rw [Int.tmod_eq_emod_of_nonneg a0]; exact h2
      clear e1 h1
      go_enter Tryd.func63, Tryd.ntmps63
      go_wp2_with (first | (go_at_call 82; refine (rSize_any M vs vt _ hM).mono ?_; rintro e w1 ⟨rfl, hb⟩; obtain ⟨c0, c1, c2, HW, HO⟩ := cl hb; clear hb) | (go_at_call 83; refine (rWord_any M vs vt L a _ HO.out hl).mono ?_; rintro e w2 ⟨rfl, hb2⟩))
      go_ret2
      exact ⟨rfl, HW.out.trans (hb2.mono HW.out.size)⟩
    · have e1 : errS M a = 3 := by unfold errS; rw [if_neg h1, if_neg h2]
      rw [show peekV M f a = 0 by unfold peekV; rw [e1]; rfl, e1]
      have h1' : a < sizeM M := by omega
      obtain ⟨p, ep, p0⟩ : ∃ p : Int, a.tmod 8 = p ∧ (p != 0) = true := ⟨_, rfl, by rw [Int.tmod_eq_emod_of_nonneg a0]; simpa using h2⟩
      have hp : IntKind.u64.wrap p = p := by rw [← ep, Int.tmod_eq_emod_of_nonneg a0]; exact wrap_in (by omega) (by omega)
      clear e1 h1 h2
      go_enter Tryd.func63, Tryd.ntmps63
      go_wp2_with (go_at_call 82; refine (rSize_any M vs vt _ hM).mono ?_; rintro e w1 ⟨rfl, hb⟩; obtain ⟨c0, c1, c2, HW, HO⟩ := cl hb; clear hb)
      go_ret2
      exact ⟨rfl, HW.out⟩

end Go.Proofs.YtlpjbmlkpmhdlaaDoor
