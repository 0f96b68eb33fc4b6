/- Deeds: pair, run; a slice of deeds. -/
import Derived.Test.YtfakfmefjfemhaaMe
import Derived.Laws.Cells
namespace Go.Proofs.Ytfakfmefjfemhaa
set_option linter.unusedVariables false
set_option linter.unusedSimpArgs false
open Go.ChangeShapes Go.WideShapes Go.ChangeAt Go.RowKit Go.Joins

theorem mem_on {w w0 w' : World} {F : Nat → Prop} {m : Nat} {M : Int} {f : Int → Int} {tr : List Int} {n : Nat} (h0 : Turn F w w0) (h : Mem w' (Since F w0) m M f tr n) (ht : Turn F w0 w') : Mem w' (Since F w) m M f tr n ∧ Turn F w w' :=
  ⟨h.mono fun i hi => since_mono h0.size hi, h0.trans (ht.mono fun i _ hi => Or.inl hi)⟩

/-- what a deed answers, and what it leaves -/
def pairV (M : Int) (f : Int → Int) (k a : Int) : Int := if k = 1 then getV M f a else if k = 3 then peekV M f a else if k = 4 then peekV M f a else 0
def pairE (M k a : Int) : Int := if k = 1 then getE M a else if k = 2 then getE M a else if k = 3 then errS M a else if k = 4 then errS M a else if k = 5 then errS M a else 0
def pairF (M : Int) (f : Int → Int) (k a x : Int) : Int → Int := if k = 2 then putS M f a (x % 256) else if k = 5 then storeS M f a x else f
def pairT (M : Int) (tr : List Int) (k a : Int) : List Int := if k = 1 then tr else if k = 2 then tr else if k = 3 then loadT M tr a else if k = 4 then tr else if k = 5 then tr else []

theorem getV_bd {M : Int} {f : Int → Int} (hf : ∀ s, W64 (f s)) (a : Int) : 0 ≤ getV M f a ∧ getV M f a < 256 := by
  unfold getV
  split
  · omega
  · exact byte_lt _ _ (hf _)

section
variable {w : World} {F : Nat → Prop} {m : Nat} {M : Int} {f : Int → Int} {tr : List Int} {n : Nat}

theorem pair_any (h : Mem w F m M f tr n) (hn : n < 1000000) (k a x : Int) (ha : W64 a) (hx : W64 x) :
    Calls Try.prog 11 #[.pointer (some ⟨m, 0, none⟩), .agg #[.int .i64 k, .int .u64 a, .int .u64 x]] w fun e w' => e = .returned (.tuple #[.int .u64 (pairV M f k a), .int .i64 (pairE M k a)]) ∧ Mem w' (Since F w) m M (pairF M f k a x) (pairT M tr k a) (n + 1) ∧ Turn F w w' := by
  have h0 := Lib.hid (h.kept ((Below.refl _ w).alloc (Nat.le_refl _) (.cells #[.int .i64 k, .int .u64 a, .int .u64 x] 34)))
  have ht := Lib.hid (Turn.alloc F w (.cells #[.int .i64 k, .int .u64 a, .int .u64 x] 34))
  obtain ⟨y, hy, y0, y1, e6⟩ : ∃ y : Int, IntKind.u8.wrap x = y ∧ 0 ≤ y ∧ y < 256 ∧ x % 256 = y := ⟨x % 256, rfl, by omega, by omega, rfl⟩
  by_cases k1 : k = 1
  · subst k1
    have hg : IntKind.u64.wrap (getV M f a) = getV M f a := wrap_in (getV_bd h.words a).1 (by have := (getV_bd (M := M) h.words a).2; omega)
    go_enter Try.func11, Try.ntmps11
    go_wp2_with (go_at_call 20; refine (mget_any h0.out _ ha).mono ?_; rintro e w' ⟨rfl, rfl⟩)
    go_ret2
    exact ⟨rfl, (h0.out.mono fun i hi => Or.inl hi).more (Nat.le_succ _), ht.out⟩
  by_cases k2 : k = 2
  · subst k2
    rw [show pairF M f 2 a x = putS M f a y by rw [← e6]; rfl]
    go_enter Try.func11, Try.ntmps11
    go_wp2_with (go_at_call 22; refine (mput_any h0.out hn _ _ ha y0 y1).mono ?_; rintro e w' ⟨rfl, hM', hT'⟩)
    go_ret2
    exact ⟨rfl, mem_on ht.out hM' hT'⟩
  by_cases k3 : k = 3
  · subst k3
    go_enter Try.func11, Try.ntmps11
    go_wp2_with (go_at_call 19; refine (mload_any h0.out hn _ ha).mono ?_; rintro e w' ⟨rfl, hM', hT'⟩)
    go_ret2
    exact ⟨rfl, mem_on ht.out hM' hT'⟩
  by_cases k4 : k = 4
  · subst k4
    go_enter Try.func11, Try.ntmps11
    go_wp2_with (go_at_call 17; refine (mpeek_any h0.out _ ha).mono ?_; rintro e w' ⟨rfl, rfl⟩)
    go_ret2
    exact ⟨rfl, (h0.out.mono fun i hi => Or.inl hi).more (Nat.le_succ _), ht.out⟩
  by_cases k5 : k = 5
  · subst k5
    go_enter Try.func11, Try.ntmps11
    go_wp2_with (go_at_call 18; refine (mstore_any h0.out hn _ _ ha hx).mono ?_; rintro e w' ⟨rfl, hM', hT'⟩)
    go_ret2
    exact ⟨rfl, mem_on ht.out hM' hT'⟩
  rw [show pairV M f k a = 0 by unfold pairV; rw [if_neg k1, if_neg k3, if_neg k4], show pairE M k a = 0 by unfold pairE; rw [if_neg k1, if_neg k2, if_neg k3, if_neg k4, if_neg k5],
    show pairF M f k a x = f by unfold pairF; rw [if_neg k2, if_neg k5], show pairT M tr k a = [] by unfold pairT; rw [if_neg k1, if_neg k2, if_neg k3, if_neg k4, if_neg k5]]
  have b1 : (k == 1) = false := by simpa using k1
  have b2 : (k == 2) = false := by simpa using k2
  have b3 : (k == 3) = false := by simpa using k3
  have b4 : (k == 4) = false := by simpa using k4
  have b5 : (k == 5) = false := by simpa using k5
  clear k1 k2 k3 k4 k5
  go_enter Try.func11, Try.ntmps11
  go_wp2_with (go_at_call 27; refine (mforget_any h0.out).mono ?_; rintro e w' ⟨rfl, hM', hT'⟩)
  go_ret2
  exact ⟨rfl, (hM'.mono fun i hi => Or.inl hi).more (Nat.le_succ _), ht.out.trans (hT'.mono fun i _ hi => Or.inl hi)⟩

end

theorem load_deed (w : World) (ad : Addr) (k a x : Int) (c0 : w.cell? ad = some (.int .i64 k)) (c1 : w.cell? (ad.add 1) = some (.int .u64 a)) (c2 : w.cell? (ad.add 2) = some (.int .u64 x)) :
    (Instr.loadAt 34 (.pointer (some ad))).run Try.prog w = .ok (.agg #[.int .i64 k, .int .u64 a, .int .u64 x]) w := by
  have h := run_loadCells_list (P := Try.prog) (w := w) ad [.int .i64 k, .int .u64 a, .int .u64 x] (fun j v hv => by
    match j, hv with
    | 0, hv => simp at hv; subst hv; simpa [Addr.add] using c0
    | 1, hv => simp at hv; subst hv; exact c1
    | 2, hv => simp at hv; subst hv; exact c2)
  have g1 : (isAgg 34).run Try.prog w = .ok true w := by kernel_rfl
  have g2 : (sizeOf 34).run Try.prog w = .ok 3 w := by kernel_rfl
  simp only [Instr.loadAt, Instr.sureAddr, loadVar, Sem.run_bind, Sem.run_pure, Result.andThen_ok, g1, g2, if_true]
  simp at h
  simp [h]

/-- the deeds' slice holds ds -/
def DeedsIn (w : World) (A : Option Addr) (ds : List (Int × Int × Int)) : Prop := ∀ k, k < ds.length → ∃ ad, A = some ad ∧ w.cell? (ad.add (k * 3)) = some (.int .i64 (ds.getD k (0, 0, 0)).1) ∧ w.cell? ((ad.add (k * 3)).add 1) = some (.int .u64 (ds.getD k (0, 0, 0)).2.1) ∧ w.cell? ((ad.add (k * 3)).add 2) = some (.int .u64 (ds.getD k (0, 0, 0)).2.2)

def DeedsOk (ds : List (Int × Int × Int)) : Prop := ∀ k, k < ds.length → W64 (ds.getD k (0, 0, 0)).2.1 ∧ W64 (ds.getD k (0, 0, 0)).2.2

/-- the state behind the first k deeds -/
def playF (M : Int) (ds : List (Int × Int × Int)) : Nat → (Int → Int)
  | 0 => fun _ => 0
  | k + 1 => pairF M (playF M ds k) (ds.getD k (0, 0, 0)).1 (ds.getD k (0, 0, 0)).2.1 (ds.getD k (0, 0, 0)).2.2
def playT (M : Int) (ds : List (Int × Int × Int)) : Nat → List Int
  | 0 => []
  | k + 1 => pairT M (playT M ds k) (ds.getD k (0, 0, 0)).1 (ds.getD k (0, 0, 0)).2.1

theorem block_add (ad : Addr) (n : Nat) : (ad.add n).block = ad.block := by unfold Addr.add; split <;> rfl
theorem cell_lt {w : World} {ad : Addr} {v : Value} (h : w.cell? ad = some v) : ad.block < w.heap.size := World.block_lt_of_cell? w ad h

theorem deeds_below {w w' : World} {A : Option Addr} {ds : List (Int × Int × Int)} (h : DeedsIn w A ds) (hb : Below w.heap.size w w') : DeedsIn w' A ds := by
  intro k hk
  obtain ⟨ad, e, c0, c1, c2⟩ := h k hk
  exact ⟨ad, e, (hb.cell (cell_lt c0)).trans c0, (hb.cell (cell_lt c1)).trans c1, (hb.cell (cell_lt c2)).trans c2⟩

/-- how many deeds are done -/
def many (ds : List (Int × Int × Int)) : Nat := min ds.length 120

set_option maxRecDepth 100000 in
theorem run_any (w : World) (A : Option Addr) (c : Nat) (ds : List (Int × Int × Int)) (hl : ds.length ≤ maxLen) (hd : DeedsIn w A ds) (hok : DeedsOk ds) :
    Calls Try.prog 16 #[.slice A ds.length c] w fun e w' => e = .returned (.pointer (some ⟨w.heap.size + 1, 0, none⟩)) ∧ Mem w' (From w.heap.size) (w.heap.size + 1) 16 (playF 16 ds (many ds)) (playT 16 ds (many ds)) 120 ∧ Below w.heap.size w w' := by
  unfold maxLen at hl
  go_enter Try.func16, Try.ntmps16
  go_wp2_with (go_at_call 10; refine (newMem_any 16 _ ⟨by decide, by decide⟩).mono ?_; rintro e w1 ⟨rfl, hM1, hB1⟩)
  go_loopw [4] (fun i wr => ∃ k : Nat, k ≤ many ds ∧ i = .int .i64 k ∧ Mem wr (From w.heap.size) (w.heap.size + 1) 16 (playF 16 ds k) (playT 16 ds k) k ∧ Below w.heap.size w wr) (fun i _ => (120 - intOf i).toNat)
  case atStart => exact ⟨0, Nat.zero_le _, rfl, hM1, hB1⟩
  case round =>
    obtain ⟨k, hk, rfl, hM, hB⟩ := hrel
    have hm0 : many ds ≤ 120 := by unfold many; omega
    have hm1 : many ds ≤ ds.length := by unfold many; omega
    by_cases hlt : k < many ds
    · obtain ⟨ad, rfl, c0, c1, c2⟩ := deeds_below hd hB k (by omega)
      obtain ⟨ha, hx⟩ := hok k (by omega)
      have hF : playF 16 ds (k + 1) = pairF 16 (playF 16 ds k) (ds.getD k (0, 0, 0)).1 (ds.getD k (0, 0, 0)).2.1 (ds.getD k (0, 0, 0)).2.2 := rfl
      have hT : playT 16 ds (k + 1) = pairT 16 (playT 16 ds k) (ds.getD k (0, 0, 0)).1 (ds.getD k (0, 0, 0)).2.1 := rfl
      have c1' : wr.cell? ⟨(ad.add (k * 3)).block, (ad.add (k * 3)).off + 1, none⟩ = some (.int .u64 (ds.getD k (0, 0, 0)).2.1) := c1
      have c2' : wr.cell? ⟨(ad.add (k * 3)).block, (ad.add (k * 3)).off + 2, none⟩ = some (.int .u64 (ds.getD k (0, 0, 0)).2.2) := c2
      have hks : k < ds.length := by omega
      have h120 : (k : Int) < 120 := by omega
      generalize (ds.getD k (0, 0, 0)).1 = kk at *
      generalize (ds.getD k (0, 0, 0)).2.1 = aa at *
      generalize (ds.getD k (0, 0, 0)).2.2 = xx at *
      have HF := Lib.hid hF
      have HT := Lib.hid hT
      clear hF hT c1 c2 hd hok
      go_wp2_with (go_at_call 11; refine (pair_any hM (by omega) _ _ _ ha hx).mono ?_; rintro e w2 ⟨rfl, hM2, hT2⟩)
      have R := hM.since hM2
      rw [← HF.out, ← HT.out] at R
      have RB := hB.trans (hM.belowOf hT2)
      go_roundw
      case rel => exact ⟨k + 1, by omega, by go_num, R, RB⟩
      case measure => simp [intOf]; omega
    · have e : k = many ds := by omega
      by_cases h1 : k < ds.length
      · have h2 : k = 120 := by unfold many at e; omega
        subst h2
        go_wp2
        go_ret
        exact ⟨rfl, by rw [e] at hM; rw [← e]; rw [← e] at hM; exact hM, hB⟩
      · have h2 : ds.length ≤ k := by omega
        clear hd hok
        go_wp2
        go_ret
        exact ⟨rfl, by rw [← e]; exact hM.more (by omega), hB⟩

end Go.Proofs.Ytfakfmefjfemhaa
