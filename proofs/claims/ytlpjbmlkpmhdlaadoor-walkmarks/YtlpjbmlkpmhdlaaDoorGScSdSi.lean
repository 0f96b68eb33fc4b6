/- Several texts of ours in one: Sc, Sd, Si. -/
import Derived.Test.YtlpjbmlkpmhdlaaDoorGSbSkSq
import Derived.Lib.SliceRun
import Derived.Lib.SlicesCompact
import Derived.RangeFuncBox
import Derived.RangeFuncNested
import Derived.RangeFuncBound
import Derived.RangeFuncCalls
import Derived.RangeFuncLeaves
import Derived.RangeFuncStops
import Derived.RangeFuncOne
import Derived.Sort.MapsRangeIn
import Derived.Maps.OwnIn
import Derived.Shelf.Abstract
import Derived.Shelf.RegionOpen
import Derived.WalkKit
import Derived.OwnWalkIn
import Derived.TacticsInMore
import Derived.RegionIn
import Derived.LoopNIn
import Derived.LoopIn
import Derived.Maps.AppendAt
import Derived.Test.YtlpjbmlkpmhdlaaDoorGWdMmMc
/- slices.Sort and slices.Compact at uint64, at fewer than fifty. -/
namespace Go.Proofs.YtlpjbmlkpmhdlaaDoor
set_option linter.unusedVariables false
set_option linter.unusedSimpArgs false
open Go.ChangeShapes Go.WideShapes Go.ChangeAt Go.RowKit Go.Lib
open Go.Sort (swp ltInt SortedIn PermIn Below)

set_option maxRecDepth 100000 in
theorem lenT_le (l : Nat) (h : l < 50) : ∃ k : Nat, (lenT l : Int) = (k : Int) ∧ k ≤ 64 := by
  have : ∀ l : Fin 50, ∃ k : Fin 65, (lenT l.1 : Int) = (k.1 : Int) := by decide
  obtain ⟨k, hk⟩ := this ⟨l, h⟩
  exact ⟨k.1, hk, by omega⟩

theorem sort_any (w : World) (g N cap : Nat) (d : Array Int) (hS : Row w g N d) (hn : d.size < 50) :
    Calls Tryd.prog 80 #[.slice (some ⟨g, 0, none⟩) d.size cap] w fun e w' => e = .returned (.tuple #[]) ∧ ∃ d' : Array Int, Srt w w' g N d' ∧ PermIn 0 d.size d d' ∧ SortedIn ltInt 0 d.size d' := by
  obtain ⟨k, hk, hk64⟩ := lenT_le d.size hn
  have H := Lib.hid (pdq_any (d.size + 1) w g N cap d 0 d.size k (by omega) hS (Nat.zero_le _) (Nat.le_refl _) hn hk64 (Or.inl rfl))
  have HL := Lib.hid (len_any d.size w hn)
  obtain ⟨n, hnd⟩ : ∃ n, d.size = n := ⟨_, rfl⟩
  rw [hnd] at H HL hn hk ⊢
  rw [hk] at HL
  go_enter Tryd.func80, Tryd.ntmps80
  go_wp2_with fail
  refine HL.out.mono ?_
  rintro e w1 ⟨rfl, rfl⟩
  go_wp2_with fail
  refine H.out.mono ?_
  rintro e w1 ⟨rfl, d', h1, h2, h3⟩
  go_wp2
  go_end0
  exact ⟨rfl, d', h1, h2, h3⟩

theorem ins_nil (w : World) : Calls Tryd.prog 93 #[.slice none 0 0, .int .i64 0, .int .i64 0] w fun e w' => e = .returned (.tuple #[]) ∧ w = w' := by
  go_enter Tryd.func93, Tryd.ntmps93
  go_wp2
  refine wp_loop_rounds 1 ?_
  rw [rounds_succ]
  go_wp2
  go_end0
  exact ⟨rfl, rfl⟩

theorem pdq_nil (w : World) (k : Int) : Calls Tryd.prog 90 #[.slice none 0 0, .int .i64 0, .int .i64 0, .int .i64 k] w fun e w' => e = .returned (.tuple #[]) ∧ w = w' := by
  go_enter Tryd.func90, Tryd.ntmps90
  go_wp2
  refine wp_loop_rounds 1 ?_
  rw [rounds_succ]
  go_wp2_with (go_at_call 93; refine (ins_nil _).mono ?_; rintro e w1 ⟨rfl, rfl⟩)
  (try simp only [Exit.inBlock, Exit.then]); refine bodyPost_ret (results_none rfl _ _ _) rfl ?_
  exact ⟨rfl, rfl⟩

theorem sort_nil (w : World) : Calls Tryd.prog 80 #[.slice none 0 0] w fun e w' => e = .returned (.tuple #[]) ∧ w = w' := by
  go_enter Tryd.func80, Tryd.ntmps80
  go_wp2_with fail
  refine (len_any 0 w (by omega)).mono ?_
  rintro e w1 ⟨rfl, rfl⟩
  go_wp2_with fail
  refine (pdq_nil w _).mono ?_
  rintro e w1 ⟨rfl, rfl⟩
  go_wp2
  go_end0
  exact ⟨rfl, rfl⟩

theorem Srt.set {w w' : World} {g N : Nat} {d : Array Int} (h : Srt w w' g N d) {i : Nat} (hi : i < d.size) (x : Int) : Srt w (w'.setCell ⟨g, i, none⟩ (.int .u64 x)) g N (d.setIfInBounds i x) :=
  ⟨h.turn.trans (Turn.setCell _ _ _ _ (Or.inl rfl)), h.row.set hi x⟩

theorem Srt.sets {w : World} {g N : Nat} : ∀ (xs : List Int) (d : Array Int) (w' : World) (k : Nat), Srt w w' g N d → k + xs.length ≤ d.size → Srt w (w'.setCells g k (xs.map (Value.int .u64))) g N (lay d k xs)
  | [], _, _, _, h, _ => h
  | x :: r, d, w', k, h, hk => by
    have hl : k + (r.length + 1) ≤ d.size := by simpa using hk
    exact Srt.sets r _ _ (k + 1) (h.set (i := k) (by omega) x) (by simp; omega)

theorem Row.pre {w : World} {g N : Nat} {d d' : Array Int} (h : Row w g N d) (hs : d'.size ≤ d.size) (he : ∀ i, i < d'.size → d'[i]! = d[i]!) : Row w g N d' := by
  obtain ⟨c, hc, hN, hd, hv⟩ := h
  exact ⟨c, hc, hN, by omega, fun i hi => by rw [hv i (by omega), he i hi]⟩

theorem comp_get {d dk : Array Int} {k : Nat} (h : CompInv d d.size k dk) : (compactUpTo d d.size).toArray.size = k ∧ ∀ i, i < k → (compactUpTo d d.size).toArray[i]! = dk[i]! := by
  refine ⟨by simpa using h.len, fun i hi => ?_⟩
  have := h.low i hi
  have hl : i < (compactUpTo d d.size).toArray.size := by simp [h.len]; exact hi
  rw [getElem!_pos _ i hl]
  simp only [List.getElem_toArray]
  rw [List.getElem?_eq_getElem (by rw [h.len]; exact hi)] at this
  exact Option.some.inj this

theorem lay_low {dk : Array Int} {k : Nat} {xs : List Int} (h : k + xs.length ≤ dk.size) {i : Nat} (hi : i < k) : (lay dk k xs)[i]! = dk[i]! := by
  have e := lay_get? xs dk k i h
  rw [if_neg (by omega)] at e
  rw [Array.getElem!_eq_getD, Array.getElem!_eq_getD, Array.getD_eq_getD_getElem?, Array.getD_eq_getD_getElem?, e]

theorem lay_size : ∀ (xs : List Int) (d : Array Int) (k : Nat), (lay d k xs).size = d.size
  | [], _, _ => rfl
  | x :: r, d, k => by rw [lay, lay_size r]; simp

set_option maxRecDepth 100000 in
set_option maxHeartbeats 8000000 in
theorem compact_any (w : World) (g N cap : Nat) (d : Array Int) (hS : Row w g N d) (hn : d.size < 50) (hcap : d.size ≤ cap) :
    Calls Tryd.prog 81 #[.slice (some ⟨g, 0, none⟩) d.size cap] w fun e w' => e = .returned (.slice (some ⟨g, 0, none⟩) (compactUpTo d d.size).length cap) ∧ Srt w w' g N (compactUpTo d d.size).toArray := by
  have HA : Hid (∀ q, (∀ j, j < d.size → keeps d j = true) → (compactUpTo d d.size).length = d.size ∧ Srt w (w.drewN q) g N (compactUpTo d d.size).toArray) := Lib.hid (by
    intro q hall
    have e : compactUpTo d d.size = d.toList := by rw [compactUpTo_all d _ hall, range_map_get]
    rw [e]
    exact ⟨by simp, (Srt.start hS).drewN q⟩)
  have HD : Hid (∀ k dk w', CompInv d d.size k dk → Srt w w' g N dk → k < d.size → (compactUpTo d d.size).length = k ∧ Srt w (w'.setCells g k ((List.replicate (d.size - k) 0).map (Value.int .u64))) g N (compactUpTo d d.size).toArray) := Lib.hid (by
    intro k dk w' hI hR hk
    obtain ⟨e1, e2⟩ := comp_get hI
    have hs := hI.size
    have h1 := Srt.sets (List.replicate (d.size - k) 0) dk w' k hR (by simp; omega)
    refine ⟨hI.len, h1.turn, h1.row.pre (by rw [e1, lay_size]; omega) fun i hi => ?_⟩
    rw [e2 i (by omega), lay_low (by simp; omega) (by omega)])
  obtain ⟨n, hnd⟩ : ∃ n, d.size = n := ⟨_, rfl⟩
  obtain ⟨C, hC⟩ : ∃ C, compactUpTo d d.size = C := ⟨_, rfl⟩
  rw [hC] at HA HD ⊢
  rw [hnd] at HA HD hn hcap ⊢
  clear hC
  by_cases h2 : n < 2
  · have h2' : (n : Int) < 2 := by omega
    go_enter Tryd.func81, Tryd.ntmps81
    go_wp2
    go_ret
    obtain ⟨e1, e2⟩ := HA.out 0 (fun j hj => keeps_lt_one d j (by omega))
    exact ⟨by rw [e1]; rfl, e2⟩
  · have h2' : (2 : Int) ≤ (n : Int) := by omega
    go_enter Tryd.func81, Tryd.ntmps81
    go_wp2
    go_loopg [3] n (fun g1 s3 wr => ∃ k q : Nat, 1 ≤ k ∧ k ≤ n ∧ n - k ≤ g1 ∧ s3 = .int .i64 k ∧ wr = w.drewN q ∧ Hid (∀ j, j < k → keeps d j = true))
    case atStart => exact ⟨1, 0, Nat.le_refl _, by omega, by omega, rfl, rfl, Lib.hid (keeps_lt_one d)⟩
    case round =>
      obtain ⟨k, q, hk1, hk, hg, rfl, rfl, hall⟩ := hrel
      by_cases hlt : k < n
      · obtain ⟨j, rfl⟩ : ∃ j, k = j + 1 := ⟨k - 1, by omega⟩
        have c1 := hS.cell (i := j + 1) (by omega)
        have c0 := hS.cell (i := j) (by omega)
        obtain ⟨x, hx⟩ : ∃ x, d[j + 1]! = x := ⟨_, rfl⟩
        obtain ⟨y, hy⟩ : ∃ y, d[j]! = y := ⟨_, rfl⟩
        rw [hx] at c1
        rw [hy] at c0
        have HXY := Lib.hid (And.intro hx hy)
        clear hx hy
        have e1 : ((j : Int) + 1 - 1) = j := by omega
        have kk1 : (j : Int) + 1 < (n : Int) := by omega
        by_cases hdup : x = y
        · subst hdup
          have eb : (x == x) = true := by simp
          have HI := Lib.hid (CompInv.start hall.out (keeps_neg (by omega) (by rw [HXY.out.1, show j + 1 - 1 = j by omega, HXY.out.2])))
          go_wp2
          go_quiet (fail)
          go_wp2
          go_loopg [3, 5] n (fun g1 s3 s5 wr => ∃ (kk k2 : Nat) (dk : Array Int), s3 = .int .i64 kk ∧ s5 = .int .i64 k2 ∧ 1 ≤ k2 ∧ j + 1 + k2 ≤ n ∧ n - (j + 1 + k2) ≤ g1 ∧ Srt w wr g N dk ∧ kk < j + 1 + k2 ∧ dk.size = n ∧ Hid (CompInv d (j + 1 + k2) kk dk))
          case atStart => exact ⟨j + 1, 1, d, by go_num, rfl, Nat.le_refl _, by omega, by omega, (Srt.start hS).drewN _, by omega, hnd, HI⟩
          case round =>
            obtain ⟨kk, k2, dk, rfl, rfl, h1, hle, hg2, hR, hkk, hds, hI⟩ := hrel
            by_cases hlt2 : j + 1 + k2 < n
            · obtain ⟨p, rfl⟩ : ∃ p, k2 = p + 1 := ⟨k2 - 1, by omega⟩
              have cm := hR.row.cell (i := j + 1 + (p + 1)) (by omega)
              have cp := hR.row.cell (i := j + 1 + p) (by omega)
              have ck := hR.row.cell (i := kk) (by omega)
              have fk := hR.row.free kk
              rw [hI.out.high (j + 1 + (p + 1)) (by omega)] at cm
              rw [hI.out.high (j + 1 + p) (by omega)] at cp
              obtain ⟨u, hu⟩ : ∃ u, d[j + 1 + (p + 1)]! = u := ⟨_, rfl⟩
              obtain ⟨v, hv⟩ : ∃ v, d[j + 1 + p]! = v := ⟨_, rfl⟩
              obtain ⟨old, ho⟩ : ∃ old, dk[kk]! = old := ⟨_, rfl⟩
              rw [hu] at cm
              rw [hv] at cp
              rw [ho] at ck
              have HUV := Lib.hid (And.intro hu hv)
              clear hu hv ho
              have e2 : ((p : Int) + 1 - 1) = p := by omega
              have kk2 : (j : Int) + 1 + ((p : Int) + 1) < (n : Int) := by omega
              have kk3 : (kk : Int) < (n : Int) := by omega
              by_cases huv : u = v
              · subst huv
                have eb2 : (u != u) = false := by simp
                have HN := Lib.hid (hI.out.skip (keeps_neg (by omega) (by rw [HUV.out.1, show j + 1 + (p + 1) - 1 = j + 1 + p by omega, HUV.out.2])))
                go_wp2
                go_quiet (fail)
                go_wp2
                go_roundg (n - (j + 1 + (p + 1 + 1)))
                case measure => omega
                case rel => exact ⟨kk, p + 1 + 1, dk, rfl, by go_num, by omega, by omega, Nat.le_refl _, hR.drewN _, by omega, hds, HN⟩
              · have eb2 : (u != v) = true := by simpa using huv
                have HN := Lib.hid (by have := hI.out.keep (by omega) (keeps_pos (by rw [HUV.out.1, show j + 1 + (p + 1) - 1 = j + 1 + p by omega, HUV.out.2]; exact huv)); rw [HUV.out.1] at this; exact this)
                go_wp2
                go_quiet (fail)
                go_wp2
                go_roundg (n - (j + 1 + (p + 1 + 1)))
                case measure => omega
                case rel => exact ⟨kk + 1, p + 1 + 1, dk.setIfInBounds kk u, by go_num, by go_num, by omega, by omega, Nat.le_refl _, (hR.drewN _).set (i := kk) (by omega) u, by omega, by simp [hds], HN⟩
            · have hend : j + 1 + k2 = n := by omega
              have hcl : ∀ ty, (Builtin.clear_ #[32] ty #[.slice (some ⟨g, kk, none⟩) (n - kk) (cap - kk)]).run Tryd.prog wr = .ok (.tuple #[]) (wr.setCells g kk (List.replicate (n - kk) (.int .u64 0))) :=
                fun ty => Lib.run_clear_slice wr _ _ ty _ Tryd.underlying32 Tryd.zeroValue23 rfl rfl g kk _ _ (by omega) (fun i hi => by rw [hR.row.cell (i := kk + i) (by omega)]; rfl) (fun i hi => hR.row.free (kk + i))
              have HE := Lib.hid (HD.out kk dk wr (hend ▸ hI.out) hR (by omega))
              go_wp2
              go_ret
              refine ⟨by rw [HE.out.1]; rfl, ?_⟩
              have := HE.out.2
              rw [List.map_replicate] at this
              exact this
        · have eb : (x == y) = false := by simpa using hdup
          have HN : Hid (∀ i, i < j + 1 + 1 → keeps d i = true) := Lib.hid (by
            intro i hi
            by_cases e : i = j + 1
            · subst e
              exact keeps_pos (by rw [HXY.out.1, show j + 1 - 1 = j by omega, HXY.out.2]; exact hdup)
            · exact hall.out i (by omega))
          go_wp2
          go_quiet (fail)
          go_wp2
          go_roundg (n - (j + 1 + 1))
          case measure => omega
          case rel => exact ⟨j + 1 + 1, _, by omega, by omega, Nat.le_refl _, by go_num, rfl, HN⟩
      · have hkn : k = n := by omega
        subst hkn
        go_wp2
        go_ret
        obtain ⟨e1, e2⟩ := HA.out q hall.out
        exact ⟨by rw [e1]; rfl, e2⟩

theorem compact_nil (w : World) : Calls Tryd.prog 81 #[.slice none 0 0] w fun e w' => e = .returned (.slice none 0 0) ∧ w = w' := by
  go_enter Tryd.func81, Tryd.ntmps81
  go_wp2
  go_ret
  exact ⟨rfl, rfl⟩

end Go.Proofs.YtlpjbmlkpmhdlaaDoor
/- slices.Sort and slices.Compact at uint64, over lists: what lies in a row of one's own. -/
namespace Go.Proofs.YtlpjbmlkpmhdlaaDoor
set_option linter.unusedVariables false
set_option linter.unusedSimpArgs false
open Go.ChangeShapes Go.WideShapes Go.ChangeAt Go.RowKit Go.Lib
open Go.Sort (swp ltInt SortedIn PermIn Below)

/-- v is a slice of one's own, behind block B, with the words zs -/
def Lst (w : World) (B : Nat) (v : Value) (zs : List Int) : Prop := w.ownsRow B 23 1 v zs.length (zs.map (Value.int .u64))

theorem Lst.form {w : World} {B : Nat} {v : Value} {zs : List Int} (h : Lst w B v zs) : (v = .slice none 0 0 ∧ zs = []) ∨ ∃ g cap, v = .slice (some ⟨g, 0, none⟩) zs.length cap ∧ B ≤ g ∧ zs.length ≤ cap ∧ cap ≤ maxLen ∧ Row w g cap zs.toArray := by
  rcases h.2 with ⟨h1, h2⟩ | ⟨g, cap, cur, h1, h2, h3, h4, h5, h6, h7⟩
  · exact Or.inl ⟨h1, List.length_eq_zero_iff.1 h2⟩
  · refine Or.inr ⟨g, cap, h1, h2, h4, h5, cur, h3, by omega, by simpa using h4, fun i hi => ?_⟩
    have hi' : i < zs.length := by simpa using hi
    have e : (cur.toList.take (zs.length * 1))[i]? = (zs.map (Value.int .u64))[i]? := by rw [h7]
    rw [List.getElem?_take, if_pos (by omega), Array.getElem?_toList] at e
    rw [e, List.getElem?_map, List.getElem?_eq_getElem hi']
    simp [getElem!_pos, hi']

theorem Row.lst {w : World} {B g cap : Nat} {d : Array Int} (h : Row w g cap d) (hB : B ≤ g) (hc : cap ≤ maxLen) : Lst w B (.slice (some ⟨g, 0, none⟩) d.toList.length cap) d.toList := by
  obtain ⟨c, h1, h2, h3, h4⟩ := h
  refine ⟨by simp, Or.inr ⟨g, cap, c, rfl, hB, h1, by simpa using h3, hc, by omega, ?_⟩⟩
  apply List.ext_getElem?
  intro i
  rw [List.getElem?_take]
  by_cases hi : i < d.size
  · rw [if_pos (by simpa using hi), Array.getElem?_toList, h4 i hi, List.getElem?_map, Array.getElem?_toList, Array.getElem?_eq_getElem hi, getElem!_pos d i hi]
    rfl
  · rw [if_neg (by simpa using hi), List.getElem?_map, Array.getElem?_toList, Array.getElem?_eq_none (by omega)]
    rfl

theorem Lst.len {w : World} {B : Nat} {v : Value} {zs : List Int} (h : Lst w B v zs) : ∃ A c, v = .slice A zs.length c := by
  rcases h.form with ⟨h1, h2⟩ | ⟨g, cap, h1, _⟩
  · exact ⟨none, 0, by rw [h1, h2]; rfl⟩
  · exact ⟨_, _, h1⟩

theorem below_refl (B : Nat) (w : World) : Go.RowKit.Below B w w := Go.RowKit.Below.refl B w

theorem Srt.below {w w' : World} {g N B : Nat} {d : Array Int} (h : Srt w w' g N d) (hg : B ≤ g) (hB : B ≤ w.heap.size) : Go.RowKit.Below B w w' := h.turn.below (fun i hi => by rw [hi]; exact hg) hB

theorem sort_lst (w : World) (B : Nat) (v : Value) (zs : List Int) (h : Lst w B v zs) (hB : B ≤ w.heap.size) (hn : zs.length < 50) :
    Calls Tryd.prog 80 #[v] w fun e w' => e = .returned (.tuple #[]) ∧ ∃ zs', zs'.Perm zs ∧ zs'.Pairwise (· ≤ ·) ∧ Lst w' B v zs' ∧ Go.RowKit.Below B w w' := by
  rcases h.form with ⟨rfl, rfl⟩ | ⟨g, cap, rfl, h2, h3, h4, h5⟩
  · refine (sort_nil w).mono ?_
    rintro e w' ⟨rfl, rfl⟩
    exact ⟨rfl, [], List.Perm.refl _, List.Pairwise.nil, h, below_refl _ _⟩
  · have := sort_any w g cap cap zs.toArray h5 (by simpa using hn)
    rw [List.size_toArray] at this
    refine this.mono ?_
    rintro e w' ⟨rfl, d', k1, k2, k3⟩
    have hs : d'.size = zs.length := by simpa using k2.1
    have hl : d'.toList.length = zs.length := by simpa using hs
    refine ⟨rfl, d'.toList, ?_, ?_, ?_, k1.below h2 hB⟩
    · have := k2.2.2
      rw [← hs, Array.extract_size] at this
      rw [hs] at this
      simpa using this
    · rw [List.pairwise_iff_getElem]
      intro i j hi hj hij
      have := k3 i j (Nat.zero_le _) hij (by omega)
      rw [getElem!_pos d' i (by simpa using hi), getElem!_pos d' j (by simpa using hj)] at this
      simp only [ltInt, decide_eq_false_iff_not] at this
      simp only [Array.getElem_toList]
      omega
    · rw [← hl]
      exact k1.row.lst h2 h4

theorem comp_rising {d : Array Int} (hs : ∀ i j, i < j → j < d.size → d[i]! ≤ d[j]!) : ∀ m, m ≤ d.size → (compactUpTo d m).Pairwise (· < ·) ∧ (∀ x, x ∈ compactUpTo d m ↔ ∃ i, i < m ∧ d[i]! = x) := by
  intro m
  induction m with
  | zero => intro _; exact ⟨by simp [compactUpTo], by simp [compactUpTo]⟩
  | succ m ih =>
    intro hm
    obtain ⟨h1, h2⟩ := ih (by omega)
    rw [compactUpTo_succ]
    by_cases hk : keeps d m = true
    · rw [if_pos hk]
      refine ⟨List.pairwise_append.2 ⟨h1, by simp, fun x hx y hy => ?_⟩, fun x => ?_⟩
      · simp at hy; subst hy
        obtain ⟨i, hi, rfl⟩ := (h2 x).1 hx
        have h3 : m ≠ 0 := by omega
        have h4 : d[m]! ≠ d[m - 1]! := by simpa [keeps, h3] using hk
        have h5 := hs (m - 1) m (by omega) (by omega)
        have h6 : d[i]! ≤ d[m - 1]! := by
          by_cases e : i = m - 1
          · rw [e]; exact Int.le_refl _
          · exact hs i (m - 1) (by omega) (by omega)
        omega
      · rw [List.mem_append, h2 x]
        constructor
        · rintro (⟨i, hi, e⟩ | hx)
          · exact ⟨i, by omega, e⟩
          · simp at hx; exact ⟨m, by omega, hx.symm⟩
        · rintro ⟨i, hi, e⟩
          by_cases him : i = m
          · subst him; right; simp [e]
          · left; exact ⟨i, by omega, e⟩
    · have hk' : keeps d m = false := by simpa using hk
      have h3 : m ≠ 0 := by intro e; subst e; simp [keeps] at hk'
      have h4 : d[m]! = d[m - 1]! := by
        have := hk'
        simp only [keeps, decide_eq_false_iff_not, not_or] at this
        exact Decidable.not_not.1 this.2
      rw [hk', if_neg (by simp), List.append_nil]
      refine ⟨h1, fun x => ?_⟩
      rw [h2 x]
      constructor
      · rintro ⟨i, hi, e⟩
        exact ⟨i, by omega, e⟩
      · rintro ⟨i, hi, e⟩
        by_cases him : i = m
        · subst him; exact ⟨i - 1, by omega, by rw [← e, h4]⟩
        · exact ⟨i, by omega, e⟩

theorem compact_lst (w : World) (B : Nat) (v : Value) (zs : List Int) (h : Lst w B v zs) (hs : zs.Pairwise (· ≤ ·)) (hB : B ≤ w.heap.size) (hn : zs.length < 50) :
    Calls Tryd.prog 81 #[v] w fun e w' => ∃ v' ps, e = .returned v' ∧ ps.Pairwise (· < ·) ∧ (∀ x, x ∈ ps ↔ x ∈ zs) ∧ Lst w' B v' ps ∧ Go.RowKit.Below B w w' := by
  rcases h.form with ⟨rfl, rfl⟩ | ⟨g, cap, rfl, h2, h3, h4, h5⟩
  · refine (compact_nil w).mono ?_
    rintro e w' ⟨rfl, rfl⟩
    exact ⟨_, [], rfl, List.Pairwise.nil, fun _ => Iff.rfl, h, below_refl _ _⟩
  · have := compact_any w g cap cap zs.toArray h5 (by simpa using hn) (by simpa using h3)
    rw [List.size_toArray] at this
    refine this.mono ?_
    rintro e w' ⟨rfl, k1⟩
    obtain ⟨r1, r2⟩ := comp_rising (d := zs.toArray) (fun i j hij hj => by
      have hj' : j < zs.length := by simpa using hj
      have := List.pairwise_iff_getElem.1 hs i j (by omega) hj' hij
      rw [getElem!_pos _ i (by simp; omega), getElem!_pos _ j (by simpa using hj')]
      simpa using this) zs.length (by simp)
    refine ⟨_, _, rfl, r1, fun x => ?_, k1.row.lst h2 h4, k1.below h2 hB⟩
    rw [r2 x, List.mem_iff_getElem]
    constructor
    · rintro ⟨i, hi, e⟩
      rw [getElem!_pos _ i (by simpa using hi)] at e
      exact ⟨i, hi, by simpa using e⟩
    · rintro ⟨i, hi, e⟩
      exact ⟨i, hi, by rw [getElem!_pos _ i (by simpa using hi)]; simpa using e⟩

end Go.Proofs.YtlpjbmlkpmhdlaaDoor
/- maps.Keys over the pages of a memory, slices.AppendSeq and slices.Collect at uint64. -/
namespace Go.Proofs.YtlpjbmlkpmhdlaaDoor
set_option linter.unusedVariables false
set_option linter.unusedSimpArgs false
open Go.RowKit Go.Shelf Go.Maps

attribute [local go_sem] Oper.semAt_some

/-- the numbers ks are the keys of D, each once -/
def KeyList (D : Dw) (ks : List Int) : Prop := ks.Nodup ∧ ∀ x, x ∈ ks ↔ has D (.int .u64 x) = true

/-- those of D that are no longer to come are ss -/
def CollU (D : Dw) (left : Lit → Bool) (ss : List Int) : Prop := ss.Nodup ∧ ∀ x, x ∈ ss ↔ (has D (.int .u64 x) = true ∧ left (.int .u64 x) = false)

theorem CollU.start (D : Dw) : CollU D (has D) [] := ⟨List.nodup_nil, fun x => by cases has D (.int .u64 x) <;> simp⟩
theorem CollU.step {D : Dw} {left : Lit → Bool} {ss : List Int} (h : CollU D left ss) {x : Int} {y : Dw} (hlk : left (.int .u64 x) = true) (hat : ∀ zd, D.atKey (.int .u64 x) zd = y) : CollU D (fun z => left z && !z.sameKey (.int .u64 x)) (ss ++ [x]) := by
  have hhas : has D (.int .u64 x) = true := has_true_of_atKey hat
  have hnew : x ∉ ss := fun hx => by have := ((h.2 x).1 hx).2; rw [hlk] at this; cases this
  refine ⟨List.nodup_append.2 ⟨h.1, by simp, fun a ha b hb => by simp at hb; subst hb; exact fun e => hnew (e ▸ ha)⟩, fun y => ?_⟩
  by_cases hy : y = x
  · subst hy; simp [hhas, Lit.sameKey]
  · simp [h.2 y, hy, Lit.sameKey]

set_option maxRecDepth 100000 in
set_option maxHeartbeats 1000000 in
theorem keys1_in (F : Fence) (n : Nat) (h10 : F.fn 89) (hro : F.round = none) (hn : 1 ≤ n) (l Bm b nn : Nat) (D0 : Dw) (J Jx : List Int → World → Prop)
    (hY : ∀ pre x W, J pre W → pre.length < Maps.size D0 → YieldAt F (n - 1) Tryd.prog l #[Value.int .u64 x] W fun e W' =>
      (e = .returned (.bool true) ∧ J (pre ++ [x]) W' ∧ KeepsWalks W W') ∨ (e = .returned (.bool false) ∧ Jx (pre ++ [x]) W'))
    (W : World) (hJ : AbidesFrom W.heap.size J) (hm : W.cell? ⟨Bm, 0, none⟩ = some (.map (some b))) (hown : W.ownsMap Tryd.prog 23 ptrElem b nn D0) (h0 : J [] W) :
    CallsIn F n Tryd.prog 89 #[.func (.yield l) #[] #[], .pointer (some ⟨Bm, 0, none⟩)] W fun e W' => (∃ v, e = .returned v) ∧
      ((∃ ss : List Int, KeyList D0 ss ∧ J ss W') ∨ (∃ pre : List Int, True ∧ Jx pre W')) := by
  refine callsIn_of_wp Tryd.func89 rfl h10 ?_ hro
  simp only [Tryd.ntmps89, List.size_toArray, List.length_cons, List.length_nil, Nat.reduceAdd, Nat.reduceSub, Array.replicate_succ, Array.replicate_zero, List.push_toArray, List.append_toArray, List.nil_append, List.cons_append]
  gi_wp2_with (first
    | (gi_at_range; refine wpListIn_range_own _ rfl _ 108 rfl 23 111 law64 Tryd.underlying108 _ b nn _ rfl hown ?_; intro w0 hrg0 hg0 hs0)
    | gi_in)
  go_frame
  gi_loopw [3] (fun _ wr => ∃ (left : Lit → Bool) (cnt : Nat) (ss : List Int), wr.ranges Tryd.prog 23 ptrElem b W.heap.size nn D0 left cnt ∧ ss.length + cnt ≤ Maps.size D0 ∧ CollU D0 left ss ∧ J ss wr)
    (fun _ wr => wr.rangeLeft b W.heap.size)
  case atStart =>
    exact ⟨_, _, [], hrg0, by simp, CollU.start D0, hJ [] W w0 none h0 hg0 (fun r e => by cases e)⟩
  case round =>
    obtain ⟨left, cnt, ss, hrg, hcs, hC, hJs⟩ := hrel
    gi_wp2_with (first
      | (gi_at_next; refine wpListIn_next_ranges _ rfl _ rfl 23 law64 ptrElem (Value.int .u64) Value.pointer (fun key kl hk => by obtain ⟨x, hx, _⟩ := Maps.keyOf_int_inv Tryd.underlying23 hk; exact ⟨x, hx⟩) (fun v y hv => by unfold ptrElem at hv; split at hv; exact ⟨_, rfl⟩; exact ⟨_, rfl⟩; cases hv) b W.heap.size nn _ _ _ rfl hrg ?_ ?_)
      | gi_in)
    · intro hc0 hl0
      gi_wp2
      go_end0
      exact ⟨⟨_, rfl⟩, .inl ⟨ss, ⟨hC.1, fun x => by rw [hC.2 x, hl0]; simp⟩, hJs⟩⟩
    · intro x c kl yd yp w2 cnt2 hkey hlk hv hat hrg2 hlt hg2 hs2 hen
      obtain ⟨x', ex, rfl, _⟩ := Maps.keyOf_int_inv Tryd.underlying23 hkey
      obtain rfl : x = x' := by simpa using ex
      have hJ2 : J ss w2 := hJ ss wr w2 (some W.heap.size) hJs hg2 (fun r e => by cases e; exact ⟨Nat.le_refl _, hrg.iter_walk⟩)
      obtain ⟨fn, tmps, assign, body, hy, hR⟩ := hY ss x w2 hJ2 (by omega)
      clear hs2
      gi_wp2
      refine hR.mono ?_
      have hC2 := hC.step hlk hat
      rintro e W3 (⟨rfl, hJ3, hk3⟩ | ⟨rfl, hJx3⟩)
      · gi_wp2
        have hrg3 := hrg2.of_walks hk3
        go_roundw
        case rel => exact ⟨_, cnt2, ss ++ [x], hrg3, by simp; omega, hC2, hJ3⟩
        case measure => rw [hrg3.left_eq, hrg.left_eq]; exact hlt
      · gi_wp2
        refine bodyPost_ret (results_none rfl _ _ _) rfl ?_
        exact ⟨⟨_, rfl⟩, .inr ⟨ss ++ [x], trivial, hJx3⟩⟩

theorem keys_stops (F : Fence) (n : Nat) (h10 : F.fn 89) (hro : F.round = none) (hn : 1 ≤ n) (Bm b nn : Nat) (D0 : Dw) (w : World) (hBm : Bm < w.heap.size)
    (hm : w.cell? ⟨Bm, 0, none⟩ = some (.map (some b))) (hown : w.ownsMap Tryd.prog 23 ptrElem b nn D0) :
    SeqStopsK F n Tryd.prog 89 #[.pointer (some ⟨Bm, 0, none⟩)] (fun x : Int => #[Value.int .u64 x]) KeepsWalks (KeyList D0) (fun _ => True) (Maps.size D0) w := fun l J Jx W hW hJ _ hY h0 => by
  have hown' : W.ownsMap Tryd.prog 23 ptrElem b nn D0 := by
    have hbl := hown.lt
    obtain ⟨es, clock, hb, Ft, hs, hD⟩ := hown
    exact ⟨es, clock, (hW.block b hbl).trans hb, Ft, hs, hD⟩
  exact keys1_in F n h10 hro hn l Bm b nn D0 J Jx hY W hJ ((hW.cell (p := ⟨Bm, 0, none⟩) hBm).trans hm) hown' h0

theorem keys_any (w : World) (mb : Option Nat) : Calls Tryd.prog 79 #[.map mb] w fun e w' => e = .returned (.func (.func 89) #[] #[.pointer (some ⟨w.heap.size, 0, none⟩)]) ∧ w' = w.alloc (.cells #[.map mb] 108) := by
  go_enter Tryd.func79, Tryd.ntmps79
  go_wp2
  go_ret
  exact ⟨rfl, rfl⟩

theorem infoU64 : (Tryd.prog.info? 23).map (fun i => (i.zero, i.size, i.bytes)) = some (some (.int .u64 0), 1, 8) := by kernel_rfl

set_option maxRecDepth 100000 in
set_option maxHeartbeats 2000000 in
theorem appendSeq_in (F : Fence) (n : Nat) (h3 : F.fn 77) (h5 : F.fn 89) (hro : F.round = none) (hn : 3 ≤ n) (n0 Bm b nn : Nat) (D0 : Dw) (v0 : Value) (zs : List Int) (w : World)
    (hn0 : n0 ≤ w.heap.size) (hBm : Bm < w.heap.size) (hm : w.cell? ⟨Bm, 0, none⟩ = some (.map (some b))) (hown : w.ownsMap Tryd.prog 23 ptrElem b nn D0) (hz : w.ownsRow n0 23 1 v0 zs.length (zs.map (Value.int .u64))) (hlen : zs.length + nn ≤ 1000000) :
    CallsIn F n Tryd.prog 77 #[v0, .func (.func 89) #[] #[.pointer (some ⟨Bm, 0, none⟩)]] w fun e W' => ∃ v ks, e = .returned v ∧ KeyList D0 ks ∧ W'.ownsRow n0 23 1 v (zs ++ ks).length ((zs ++ ks).map (Value.int .u64)) ∧ Below n0 w W' := by
  have h1 : 1 ≤ n := by omega
  have hsz := hown.size_le
  obtain ⟨i0, hi, hz0, hz1, hz2⟩ := info_parts infoU64
  obtain ⟨A, cp, rfl⟩ : ∃ A cp, v0 = .slice A zs.length cp := by
    rcases hz.2 with ⟨h, h2⟩ | ⟨g, cap, cur, h, _⟩
    · exact ⟨none, 0, by rw [h, h2]⟩
    · exact ⟨_, _, h⟩
  refine callsIn_of_wp_marks Tryd.func77 rfl h3 ?_ hro
  simp only [Tryd.ntmps77, List.size_toArray, List.length_cons, List.length_nil, Nat.reduceAdd, Nat.reduceSub, Array.replicate_succ, Array.replicate_zero, List.push_toArray, List.append_toArray, List.nil_append, List.cons_append]
  gi_wp2
  have bO := Boxed.new w 32 (.slice A zs.length cp)
  have hB0 : Below n0 w (w.alloc (.cells #[.slice A zs.length cp] 32)) := (Below.refl _ w).alloc hn0 _
  have hBf : Below w.heap.size w (w.alloc (.cells #[.slice A zs.length cp] 32)) := (Below.refl _ w).alloc (Nat.le_refl _) _
  refine wpIn_rangeFunc_ownG hro h1 (gf := 89) (lb := #[.pointer (some ⟨Bm, 0, none⟩)]) rfl h5 (enters_of Tryd.func89 (by kernel_rfl) rfl)
    (keys_stops F (n - 1) h5 hro (by omega) Bm b nn D0 w hBm hm hown) walksK_t walksK_b hBf (fun _ => rfl)
    (fun pre W => (∃ v, Boxed W w.heap.size 32 v ∧ W.ownsRow n0 23 1 v (zs ++ pre).length ((zs ++ pre).map (Value.int .u64)) ∧ True) ∧ Below n0 w W)
    (fun _ _ _ => False)
    (OwnFrom.and (Own.from (holdsRow_own n0 w.heap.size 32 23 1 (fun pre => (zs ++ pre).length) (fun pre => (zs ++ pre).map (Value.int .u64)) (fun _ _ => True)) _) (ownFrom_below hn0 (by simp; omega)))
    (fun _ _ _ _ _ hs _ _ => hs)
    ⟨⟨_, bO, by simpa using hz.alloc _, trivial⟩, hB0⟩
    (fun x => { tmps := #[.slice A zs.length cp, .func (.func 89) #[] #[.pointer (some ⟨Bm, 0, none⟩)], .pointer (some ⟨w.heap.size, 0, none⟩), undef, .slice none 0 0, .int .u64 x, .func (.func 89) #[] #[.pointer (some ⟨Bm, 0, none⟩)], .int .u64 x, undef, undef, undef, undef, undef], defers := [] }) ?assign ?body ?done ?stop
  case assign =>
    intro l x W K hK
    gi_wp2
    exact hK
  case body =>
    rintro l pre x W ⟨⟨v, hv, hrow, _⟩, hB⟩ hlt
    have hc := hv.cell
    have hpl : (zs ++ pre).length = zs.length + pre.length := by simp
    gi_wp2_with (gi_at_builtin; refine wpListIn_append_own _ rfl _ _ 32 rfl n0 23 i0 (.int .u64 0) 1 8 Tryd.underlying32 hi hz0 hz1 hz2 rfl (by decide) _ _ _ rfl (hrow.alloc _) ⟨W.heap.size, 0, none⟩ 1 1 [.int .u64 x] rfl rfl (cell_one_new _ _ _) (by simp [Value.oneCell']) (by unfold maxLen; omega) (by omega) (by have := hB.size; simp; omega) ?_; intro v' w1 hown' hgrow _; obtain ⟨g', cap', rfl⟩ := ownsRow_succ hown'; obtain ⟨hv1, hv2, hr2, hk2, hb2⟩ := hv.appended (by decide) hrow (Nat.le_trans hn0 hB.size) hn0 hown' hgrow; have hc1 := hv1.cell; have hf1 := hv1.frozen)
    rw [hpl] at hk2 hv2 hb2 hr2
    refine ⟨hk2.from _, hk2.walks, ⟨_, hv2, ?_, trivial⟩, hB.trans hb2⟩
    rw [show (zs ++ (pre ++ [x])).length = zs.length + pre.length + 1 by simp; omega]
    simpa [List.append_assoc] using hr2
  case done =>
    rintro D ys W hD hk ⟨⟨v, hv, hrow, _⟩, hB⟩ hK
    have hc := hv.cell
    gi_wp2
    refine ⟨by simp, .inl ⟨_, _, rfl, run_takeDeferred hK, ?_⟩⟩
    exact ⟨_, results_tmp rfl _ _ _, v, ys, rfl, hk, ownsRow_putObj hrow _ hK rfl, hB.trans (belowK_b (w := w) hn0 W D _ _ (by simp at hD; omega) hK rfl rfl)⟩
  case stop =>
    rintro D c pre W _ _ h _
    exact h.elim

theorem appendSeq_any (w : World) (n0 Bm b nn : Nat) (D0 : Dw) (v0 : Value) (zs : List Int) (hn0 : n0 ≤ w.heap.size) (hBm : Bm < w.heap.size) (hm : w.cell? ⟨Bm, 0, none⟩ = some (.map (some b))) (hown : w.ownsMap Tryd.prog 23 ptrElem b nn D0) (hz : w.ownsRow n0 23 1 v0 zs.length (zs.map (Value.int .u64))) (hlen : zs.length + nn ≤ 1000000) :
    Calls Tryd.prog 77 #[v0, .func (.func 89) #[] #[.pointer (some ⟨Bm, 0, none⟩)]] w fun e W' => ∃ v ks, e = .returned v ∧ KeyList D0 ks ∧ W'.ownsRow n0 23 1 v (zs ++ ks).length ((zs ++ ks).map (Value.int .u64)) ∧ Below n0 w W' :=
  callsIn_wide.1 (appendSeq_in Fence.wide 6 trivial trivial rfl (by omega) n0 Bm b nn D0 v0 zs w hn0 hBm hm hown hz hlen)

theorem collect_any (w : World) (n0 Bm b nn : Nat) (D0 : Dw) (hn0 : n0 ≤ w.heap.size) (hBm : Bm < w.heap.size) (hm : w.cell? ⟨Bm, 0, none⟩ = some (.map (some b))) (hown : w.ownsMap Tryd.prog 23 ptrElem b nn D0) (hlen : nn ≤ 1000000) :
    Calls Tryd.prog 78 #[.func (.func 89) #[] #[.pointer (some ⟨Bm, 0, none⟩)]] w fun e W' => ∃ v ks, e = .returned v ∧ KeyList D0 ks ∧ W'.ownsRow n0 23 1 v ks.length (ks.map (Value.int .u64)) ∧ Below n0 w W' := by
  go_enter Tryd.func78, Tryd.ntmps78
  go_wp2_with fail
  refine (appendSeq_any w n0 Bm b nn D0 (.slice none 0 0) [] hn0 hBm hm hown (World.ownsRow_nil _ _ _ _) (by simpa using hlen)).mono ?_
  rintro e w1 ⟨v, ks, rfl, h1, h2, h3⟩
  go_wp2
  go_ret
  exact ⟨v, ks, rfl, h1, h2, h3⟩

end Go.Proofs.YtlpjbmlkpmhdlaaDoor
