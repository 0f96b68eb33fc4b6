/- slices.Sort and slices.Compact at uint64, at fewer than fifty. -/
import Derived.Test.YtfakfmefjfemhaaSq
import Derived.Lib.SliceRun
import Derived.Lib.SlicesCompact
namespace Go.Proofs.Ytfakfmefjfemhaa
set_option linter.unusedVariables false
set_option linter.unusedSimpArgs false
open Go.ChangeShapes Go.WideShapes Go.ChangeAt Go.RowKit Go.Lib
open Go.Sort (swp ltInt SortedIn PermIn Below)

set_option maxRecDepth 100000 in
theorem lenT_le (l : Nat) (h : l < 50) : ∃ k : Nat, (lenT l : Int) = (k : Int) ∧ k ≤ 64 := by
  have : ∀ l : Fin 50, ∃ k : Fin 65, (lenT l.1 : Int) = (k.1 : Int) := by decide
  obtain ⟨k, hk⟩ := this ⟨l, h⟩
  exact ⟨k.1, hk, by omega⟩

theorem sort_any (w : World) (g N cap : Nat) (d : Array Int) (hS : Row w g N d) (hn : d.size < 50) :
    Calls Try.prog 52 #[.slice (some ⟨g, 0, none⟩) d.size cap] w fun e w' => e = .returned (.tuple #[]) ∧ ∃ d' : Array Int, Srt w w' g N d' ∧ PermIn 0 d.size d d' ∧ SortedIn ltInt 0 d.size d' := by
  obtain ⟨k, hk, hk64⟩ := lenT_le d.size hn
  have H := Lib.hid (pdq_any (d.size + 1) w g N cap d 0 d.size k (by omega) hS (Nat.zero_le _) (Nat.le_refl _) hn hk64 (Or.inl rfl))
  have HL := Lib.hid (len_any d.size w hn)
  obtain ⟨n, hnd⟩ : ∃ n, d.size = n := ⟨_, rfl⟩
  rw [hnd] at H HL hn hk ⊢
  rw [hk] at HL
  go_enter Try.func52, Try.ntmps52
  go_wp2_with fail
  refine HL.out.mono ?_
  rintro e w1 ⟨rfl, rfl⟩
  go_wp2_with fail
  refine H.out.mono ?_
  rintro e w1 ⟨rfl, d', h1, h2, h3⟩
  go_wp2
  go_end0
  exact ⟨rfl, d', h1, h2, h3⟩

theorem ins_nil (w : World) : Calls Try.prog 63 #[.slice none 0 0, .int .i64 0, .int .i64 0] w fun e w' => e = .returned (.tuple #[]) ∧ w = w' := by
  go_enter Try.func63, Try.ntmps63
  go_wp2
  refine wp_loop_rounds 1 ?_
  rw [rounds_succ]
  go_wp2
  go_end0
  exact ⟨rfl, rfl⟩

theorem pdq_nil (w : World) (k : Int) : Calls Try.prog 59 #[.slice none 0 0, .int .i64 0, .int .i64 0, .int .i64 k] w fun e w' => e = .returned (.tuple #[]) ∧ w = w' := by
  go_enter Try.func59, Try.ntmps59
  go_wp2
  refine wp_loop_rounds 1 ?_
  rw [rounds_succ]
  go_wp2_with (go_at_call 63; refine (ins_nil _).mono ?_; rintro e w1 ⟨rfl, rfl⟩)
  (try simp only [Exit.inBlock, Exit.then]); refine bodyPost_ret (results_none rfl _ _ _) rfl ?_
  exact ⟨rfl, rfl⟩

theorem sort_nil (w : World) : Calls Try.prog 52 #[.slice none 0 0] w fun e w' => e = .returned (.tuple #[]) ∧ w = w' := by
  go_enter Try.func52, Try.ntmps52
  go_wp2_with fail
  refine (len_any 0 w (by omega)).mono ?_
  rintro e w1 ⟨rfl, rfl⟩
  go_wp2_with fail
  refine (pdq_nil w _).mono ?_
  rintro e w1 ⟨rfl, rfl⟩
  go_wp2
  go_end0
  exact ⟨rfl, rfl⟩

theorem Srt.set {w w' : World} {g N : Nat} {d : Array Int} (h : Srt w w' g N d) {i : Nat} (hi : i < d.size) (x : Int) : Srt w (w'.setCell ⟨g, i, none⟩ (.int .u64 x)) g N (d.setIfInBounds i x) :=
  ⟨h.turn.trans (Turn.setCell _ _ _ _ (Or.inl rfl)), h.row.set hi x⟩

theorem Srt.sets {w : World} {g N : Nat} : ∀ (xs : List Int) (d : Array Int) (w' : World) (k : Nat), Srt w w' g N d → k + xs.length ≤ d.size → Srt w (w'.setCells g k (xs.map (Value.int .u64))) g N (lay d k xs)
  | [], _, _, _, h, _ => h
  | x :: r, d, w', k, h, hk => by
    have hl : k + (r.length + 1) ≤ d.size := by simpa using hk
    exact Srt.sets r _ _ (k + 1) (h.set (i := k) (by omega) x) (by simp; omega)

theorem Row.pre {w : World} {g N : Nat} {d d' : Array Int} (h : Row w g N d) (hs : d'.size ≤ d.size) (he : ∀ i, i < d'.size → d'[i]! = d[i]!) : Row w g N d' := by
  obtain ⟨c, hc, hN, hd, hv⟩ := h
  exact ⟨c, hc, hN, by omega, fun i hi => by rw [hv i (by omega), he i hi]⟩

theorem comp_get {d dk : Array Int} {k : Nat} (h : CompInv d d.size k dk) : (compactUpTo d d.size).toArray.size = k ∧ ∀ i, i < k → (compactUpTo d d.size).toArray[i]! = dk[i]! := by
  refine ⟨by simpa using h.len, fun i hi => ?_⟩
  have := h.low i hi
  have hl : i < (compactUpTo d d.size).toArray.size := by simp [h.len]; exact hi
  rw [getElem!_pos _ i hl]
  simp only [List.getElem_toArray]
  rw [List.getElem?_eq_getElem (by rw [h.len]; exact hi)] at this
  exact Option.some.inj this

theorem lay_low {dk : Array Int} {k : Nat} {xs : List Int} (h : k + xs.length ≤ dk.size) {i : Nat} (hi : i < k) : (lay dk k xs)[i]! = dk[i]! := by
  have e := lay_get? xs dk k i h
  rw [if_neg (by omega)] at e
  rw [Array.getElem!_eq_getD, Array.getElem!_eq_getD, Array.getD_eq_getD_getElem?, Array.getD_eq_getD_getElem?, e]

theorem lay_size : ∀ (xs : List Int) (d : Array Int) (k : Nat), (lay d k xs).size = d.size
  | [], _, _ => rfl
  | x :: r, d, k => by rw [lay, lay_size r]; simp

set_option maxRecDepth 100000 in
set_option maxHeartbeats 8000000 in
theorem compact_any (w : World) (g N cap : Nat) (d : Array Int) (hS : Row w g N d) (hn : d.size < 50) (hcap : d.size ≤ cap) :
    Calls Try.prog 53 #[.slice (some ⟨g, 0, none⟩) d.size cap] w fun e w' => e = .returned (.slice (some ⟨g, 0, none⟩) (compactUpTo d d.size).length cap) ∧ Srt w w' g N (compactUpTo d d.size).toArray := by
  have HA : Hid (∀ q, (∀ j, j < d.size → keeps d j = true) → (compactUpTo d d.size).length = d.size ∧ Srt w (w.drewN q) g N (compactUpTo d d.size).toArray) := Lib.hid (by
    intro q hall
    have e : compactUpTo d d.size = d.toList := by rw [compactUpTo_all d _ hall, range_map_get]
    rw [e]
    exact ⟨by simp, (Srt.start hS).drewN q⟩)
  have HD : Hid (∀ k dk w', CompInv d d.size k dk → Srt w w' g N dk → k < d.size → (compactUpTo d d.size).length = k ∧ Srt w (w'.setCells g k ((List.replicate (d.size - k) 0).map (Value.int .u64))) g N (compactUpTo d d.size).toArray) := Lib.hid (by
    intro k dk w' hI hR hk
    obtain ⟨e1, e2⟩ := comp_get hI
    have hs := hI.size
    have h1 := Srt.sets (List.replicate (d.size - k) 0) dk w' k hR (by simp; omega)
    refine ⟨hI.len, h1.turn, h1.row.pre (by rw [e1, lay_size]; omega) fun i hi => ?_⟩
    rw [e2 i (by omega), lay_low (by simp; omega) (by omega)])
  obtain ⟨n, hnd⟩ : ∃ n, d.size = n := ⟨_, rfl⟩
  obtain ⟨C, hC⟩ : ∃ C, compactUpTo d d.size = C := ⟨_, rfl⟩
  rw [hC] at HA HD ⊢
  rw [hnd] at HA HD hn hcap ⊢
  clear hC
  by_cases h2 : n < 2
  · have h2' : (n : Int) < 2 := by omega
    go_enter Try.func53, Try.ntmps53
    go_wp2
    go_ret
    obtain ⟨e1, e2⟩ := HA.out 0 (fun j hj => keeps_lt_one d j (by omega))
    exact ⟨by rw [e1]; rfl, e2⟩
  · have h2' : (2 : Int) ≤ (n : Int) := by omega
    go_enter Try.func53, Try.ntmps53
    go_wp2
    go_loopg [3] n (fun g1 s3 wr => ∃ k q : Nat, 1 ≤ k ∧ k ≤ n ∧ n - k ≤ g1 ∧ s3 = .int .i64 k ∧ wr = w.drewN q ∧ Hid (∀ j, j < k → keeps d j = true))
    case atStart => exact ⟨1, 0, Nat.le_refl _, by omega, by omega, rfl, rfl, Lib.hid (keeps_lt_one d)⟩
    case round =>
      obtain ⟨k, q, hk1, hk, hg, rfl, rfl, hall⟩ := hrel
      by_cases hlt : k < n
      · obtain ⟨j, rfl⟩ : ∃ j, k = j + 1 := ⟨k - 1, by omega⟩
        have c1 := hS.cell (i := j + 1) (by omega)
        have c0 := hS.cell (i := j) (by omega)
        obtain ⟨x, hx⟩ : ∃ x, d[j + 1]! = x := ⟨_, rfl⟩
        obtain ⟨y, hy⟩ : ∃ y, d[j]! = y := ⟨_, rfl⟩
        rw [hx] at c1
        rw [hy] at c0
        have HXY := Lib.hid (And.intro hx hy)
        clear hx hy
        have e1 : ((j : Int) + 1 - 1) = j := by omega
        have kk1 : (j : Int) + 1 < (n : Int) := by omega
        by_cases hdup : x = y
        · subst hdup
          have eb : (x == x) = true := by simp
          have HI := Lib.hid (CompInv.start hall.out (keeps_neg (by omega) (by rw [HXY.out.1, show j + 1 - 1 = j by omega, HXY.out.2])))
          go_wp2
          go_quiet (fail)
          go_wp2
          go_loopg [3, 5] n (fun g1 s3 s5 wr => ∃ (kk k2 : Nat) (dk : Array Int), s3 = .int .i64 kk ∧ s5 = .int .i64 k2 ∧ 1 ≤ k2 ∧ j + 1 + k2 ≤ n ∧ n - (j + 1 + k2) ≤ g1 ∧ Srt w wr g N dk ∧ kk < j + 1 + k2 ∧ dk.size = n ∧ Hid (CompInv d (j + 1 + k2) kk dk))
          case atStart => exact ⟨j + 1, 1, d, by go_num, rfl, Nat.le_refl _, by omega, by omega, (Srt.start hS).drewN _, by omega, hnd, HI⟩
          case round =>
            obtain ⟨kk, k2, dk, rfl, rfl, h1, hle, hg2, hR, hkk, hds, hI⟩ := hrel
            by_cases hlt2 : j + 1 + k2 < n
            · obtain ⟨p, rfl⟩ : ∃ p, k2 = p + 1 := ⟨k2 - 1, by omega⟩
              have cm := hR.row.cell (i := j + 1 + (p + 1)) (by omega)
              have cp := hR.row.cell (i := j + 1 + p) (by omega)
              have ck := hR.row.cell (i := kk) (by omega)
              have fk := hR.row.free kk
              rw [hI.out.high (j + 1 + (p + 1)) (by omega)] at cm
              rw [hI.out.high (j + 1 + p) (by omega)] at cp
              obtain ⟨u, hu⟩ : ∃ u, d[j + 1 + (p + 1)]! = u := ⟨_, rfl⟩
              obtain ⟨v, hv⟩ : ∃ v, d[j + 1 + p]! = v := ⟨_, rfl⟩
              obtain ⟨old, ho⟩ : ∃ old, dk[kk]! = old := ⟨_, rfl⟩
              rw [hu] at cm
              rw [hv] at cp
              rw [ho] at ck
              have HUV := Lib.hid (And.intro hu hv)
              clear hu hv ho
              have e2 : ((p : Int) + 1 - 1) = p := by omega
              have kk2 : (j : Int) + 1 + ((p : Int) + 1) < (n : Int) := by omega
              have kk3 : (kk : Int) < (n : Int) := by omega
              by_cases huv : u = v
              · subst huv
                have eb2 : (u != u) = false := by simp
                have HN := Lib.hid (hI.out.skip (keeps_neg (by omega) (by rw [HUV.out.1, show j + 1 + (p + 1) - 1 = j + 1 + p by omega, HUV.out.2])))
                go_wp2
                go_quiet (fail)
                go_wp2
                go_roundg (n - (j + 1 + (p + 1 + 1)))
                case measure => omega
                case rel => exact ⟨kk, p + 1 + 1, dk, rfl, by go_num, by omega, by omega, Nat.le_refl _, hR.drewN _, by omega, hds, HN⟩
              · have eb2 : (u != v) = true := by simpa using huv
                have HN := Lib.hid (by have := hI.out.keep (by omega) (keeps_pos (by rw [HUV.out.1, show j + 1 + (p + 1) - 1 = j + 1 + p by omega, HUV.out.2]; exact huv)); rw [HUV.out.1] at this; exact this)
                go_wp2
                go_quiet (fail)
                go_wp2
                go_roundg (n - (j + 1 + (p + 1 + 1)))
                case measure => omega
                case rel => exact ⟨kk + 1, p + 1 + 1, dk.setIfInBounds kk u, by go_num, by go_num, by omega, by omega, Nat.le_refl _, (hR.drewN _).set (i := kk) (by omega) u, by omega, by simp [hds], HN⟩
            · have hend : j + 1 + k2 = n := by omega
              have hcl : ∀ ty, (Builtin.clear_ #[27] ty #[.slice (some ⟨g, kk, none⟩) (n - kk) (cap - kk)]).run Try.prog wr = .ok (.tuple #[]) (wr.setCells g kk (List.replicate (n - kk) (.int .u64 0))) :=
                fun ty => Lib.run_clear_slice wr _ _ ty _ Try.underlying27 Try.zeroValue30 rfl rfl g kk _ _ (by omega) (fun i hi => by rw [hR.row.cell (i := kk + i) (by omega)]; rfl) (fun i hi => hR.row.free (kk + i))
              have HE := Lib.hid (HD.out kk dk wr (hend ▸ hI.out) hR (by omega))
              go_wp2
              go_ret
              refine ⟨by rw [HE.out.1]; rfl, ?_⟩
              have := HE.out.2
              rw [List.map_replicate] at this
              exact this
        · have eb : (x == y) = false := by simpa using hdup
          have HN : Hid (∀ i, i < j + 1 + 1 → keeps d i = true) := Lib.hid (by
            intro i hi
            by_cases e : i = j + 1
            · subst e
              exact keeps_pos (by rw [HXY.out.1, show j + 1 - 1 = j by omega, HXY.out.2]; exact hdup)
            · exact hall.out i (by omega))
          go_wp2
          go_quiet (fail)
          go_wp2
          go_roundg (n - (j + 1 + 1))
          case measure => omega
          case rel => exact ⟨j + 1 + 1, _, by omega, by omega, Nat.le_refl _, by go_num, rfl, HN⟩
      · have hkn : k = n := by omega
        subst hkn
        go_wp2
        go_ret
        obtain ⟨e1, e2⟩ := HA.out q hall.out
        exact ⟨by rw [e1]; rfl, e2⟩

theorem compact_nil (w : World) : Calls Try.prog 53 #[.slice none 0 0] w fun e w' => e = .returned (.slice none 0 0) ∧ w = w' := by
  go_enter Try.func53, Try.ntmps53
  go_wp2
  go_ret
  exact ⟨rfl, rfl⟩

end Go.Proofs.Ytfakfmefjfemhaa
