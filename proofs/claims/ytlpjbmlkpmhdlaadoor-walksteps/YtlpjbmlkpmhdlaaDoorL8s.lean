/- The walk of WalkSteps. -/
import Derived.Test.YtlpjbmlkpmhdlaaDoorHg
import Derived.Test.YtlpjbmlkpmhdlaaDoorHm
import Derived.Test.YtlpjbmlkpmhdlaaDoorRl
namespace Go.Proofs.YtlpjbmlkpmhdlaaDoor
set_option linter.unusedVariables false
set_option linter.unusedSimpArgs false
open Go.ChangeShapes Go.WideShapes Go.ChangeAt Go.RowKit Go.Joins

theorem load_step (w : World) (ad : Addr) (k a x : Int) (c0 : w.cell? ad = some (.int .i64 k)) (c1 : w.cell? (ad.add 1) = some (.int .u64 a)) (c2 : w.cell? (ad.add 2) = some (.int .u64 x)) :
    (Instr.loadAt 77 (.pointer (some ad))).run Tryd.prog w = .ok (.agg #[.int .i64 k, .int .u64 a, .int .u64 x]) w := by
  have h := run_loadCells_list (P := Tryd.prog) (w := w) ad [.int .i64 k, .int .u64 a, .int .u64 x] (fun j v hv => by
    match j, hv with
    | 0, hv => simp at hv; subst hv; simpa [Addr.add] using c0
    | 1, hv => simp at hv; subst hv; exact c1
    | 2, hv => simp at hv; subst hv; exact c2)
  have g1 : (isAgg 77).run Tryd.prog w = .ok true w := by kernel_rfl
  have g2 : (sizeOf 77).run Tryd.prog w = .ok 3 w := by kernel_rfl
  simp only [Instr.loadAt, Instr.sureAddr, loadVar, Sem.run_bind, Sem.run_pure, Result.andThen_ok, g1, g2, if_true]
  simp at h
  simp [h]

/-- what lies where: the path's box, the steps, the trace -/
structure Sc (w0 wr : World) (b : Nat) (v vt : Value) (P : Pth) : Prop where
  box : Blk wr b (pathCells v P) 38
  steps : StepsIn wr v P.steps
  trace : WordsOwn wr vt (slotsP P.steps)
  below : Below w0.heap.size w0 wr

theorem rem2 {x : Int} (h : 0 ≤ x) : ∃ ρ, x.tmod 2 = ρ ∧ IntKind.u64.wrap ρ = ρ ∧ (x % 2 = 0 → ρ = 0) ∧ (x % 2 = 1 → ρ = 1) :=
  ⟨x % 2, Int.tmod_eq_emod_of_nonneg h, wrap_in (by omega) (by omega), id, id⟩

theorem Sc.quiet {w0 wr w3 : World} {b : Nat} {v vt : Value} {P : Pth} (h : Sc w0 wr b v vt P) (hb : Below wr.heap.size wr w3) : Sc w0 w3 b v vt P :=
  ⟨h.box.below hb, h.steps.below hb, own_below h.trace hb, h.below.trans (hb.mono h.below.size)⟩

theorem slots_get {S : List (Int × Int × Int)} {k : Nat} (hk : k < S.length) : (slotsP S).getD k 0 = (stepAt S k).2.1 := by
  simp [slotsP, stepAt, List.getD, hk]

set_option maxRecDepth 100000 in
set_option maxHeartbeats 3200000 in
theorem walkSteps_walk (A : Option Addr) (c : Nat) (ds : List (Int × Int × Int × Int)) (n r : Int) (w : World) (hs : Shifts w) (hl : ds.length ≤ maxLen) (hd : PutsIn w A ds) (hok : PutsOk ds) (n0 : 0 ≤ n) (n1 : n < 4294967296) (r0 : 0 ≤ r) (r1 : r < 256) :
    Calls Tryd.prog 7 #[.slice A ds.length c, .int .u32 n, .int .u8 r] w fun e w' => e = .returned (.bool true) ∧ Below w.heap.size w w' := by
  have HS := Lib.hid hs
  have hz := size_shifts hs
  have HD := Lib.hid hd
  have HN := Lib.hid (⟨n0, n1⟩ : 0 ≤ n ∧ n < 4294967296)
  obtain ⟨q, hq⟩ : ∃ q, r % 16 = q := ⟨_, rfl⟩
  have e1 : r.tmod 16 = q := by rw [Int.tmod_eq_emod_of_nonneg r0, hq]
  have e2 : IntKind.u8.wrap q = q := wrap8 (by omega) (by omega)
  have e3 : IntKind.u64.wrap q = q := wrap_in (by omega) (by omega)
  have e4 : IntKind.u64.wrap (q * 4096) = q * 4096 := wrap_in (by omega) (by omega)
  have HQ : Hid (W64 (q * 4096)) := Lib.hid (by unfold W64; omega)
  have HR := fun f a => Lib.hid (root_step f a true q (by omega) (by omega) true true true)
  clear hs hd n0 n1 hq r0 r1
  go_enter Tryd.func7, Tryd.ntmps7
  go_upto_region 6 with (first | (go_at_call 9; refine (awake8_any _ HS.out).mono ?_; rintro e w1 ⟨rfl, hB1⟩; have HB1 := Lib.hid hB1; clear hB1) | (go_at_call 10; refine (built_any _ _ _ ds hl (puts_below HD.out HB1.out) hok).mono ?_; rintro e w2 ⟨rfl, hM2, hB2⟩; have HM2 := Lib.hid hM2; have HB2 := Lib.hid (HB1.out.trans (hB2.mono HB1.out.size)); clear hM2 hB2) | (go_at_call 19; refine (top_any _ _ HQ.out).mono ?_; rintro e w3 ⟨rfl, hB3⟩; have HM3 := Lib.hid (HM2.out.kept hB3); have HB3 := Lib.hid (HB2.out.trans (hB3.mono HB2.out.size)); have HS3 := Lib.hid (shifts_under HS.out HB3.out hz); clear hB3) | (go_at_call 26; refine (near_any _ _ HN.out.1 HN.out.2).mono ?_; rintro e w' ⟨rfl, rfl⟩) | (go_at_call 29; refine (mtrace_any HW5.out.mem (by decide)).mono ?_; rintro e w6 ⟨vt, rfl, hO6, hB6⟩; obtain ⟨A6, c6, rfl⟩ := own_len hO6; have HO6 := Lib.hid (row_zero hO6); have HB6 := Lib.hid hB6; clear hO6 hB6) | (go_at_call 12; refine (from_any HM3.out (by decide) (from_not0 (Nat.lt_of_lt_of_le hz HB1.out.size)) HS3.out 4 (tableF (q * 4096)) (nearF n) true true true true (w64_table _) (near_w n)).mono ?_; obtain ⟨P, hP⟩ : ∃ P, walkZ 16 (putSt ds (mostP ds)) (nearF n) true 4 (tableF (q * 4096)) true true true = P := ⟨_, rfl⟩; have HP1 := Lib.hid (walk_snd (putSt ds (mostP ds)) HM3.out.words (nearF n) true 4 (by decide) (tableF (q * 4096)) true true true); have HWd := Lib.hid HM3.out.words; have HP2 := HR (putSt ds (mostP ds)) (nearF n); rw [show ((4 : Nat) : Int) = 4 from rfl] at HP1; rw [hP] at HP1 HP2 ⊢; clear hP HR; rintro e w4 ⟨v, G, rfl, hW4, hS4, hn4, hsh4⟩; obtain ⟨A4, c4, rfl⟩ := hS4.form; have HW4 := Lib.hid hW4; have HS4 := Lib.hid hS4; have HB4 := Lib.hid (HB3.out.trans ((wk_below hW4 HM3.out.base).mono HB1.out.size)); clear hW4 hS4 hn4 hsh4))
  generalize hw5 : w4.alloc _ = w5
  have HP5 : Hid (Blk w5 w4.heap.size (pathCells (.slice A4 P.steps.length c4) P) 38) := Lib.hid (by rw [← hw5]; exact Blk.new _ _ _)
  have hk5 : Below w4.heap.size w4 w5 := by rw [← hw5]; exact below_alloc1 _ _
  have HB5 := Lib.hid (HB4.out.trans (hk5.mono HB4.out.size))
  have HW5 := Lib.hid (HW4.out.quiet hk5)
  have HS5 := Lib.hid (HS4.out.below hk5)
  have HE : Hid (([] ++ slotsP P.steps).length = P.steps.length) := Lib.hid (by simp [slotsP])
  clear hw5 hk5 HW4 HS4 HB4 HB3 HB2 HM2 HM3 HS3
  go_upto_region 7 with (first | (go_at_call 29; refine (mtrace_any HW5.out.mem (by decide)).mono ?_; rintro e w6 ⟨vt, rfl, hO6, hB6⟩; have HO6 := Lib.hid (row_zero hO6); obtain ⟨A6, c6, hv6⟩ := own_len hO6; rw [HE.out] at hv6; subst hv6; have HB6 := Lib.hid hB6; clear hO6 hB6))
  have HSc : Hid (Sc w w6 w4.heap.size (.slice A4 P.steps.length c4) (.slice A6 P.steps.length c6) P) := Lib.hid ⟨HP5.out.below HB6.out, HS5.out.into.below HB6.out, HO6.out, HB5.out.trans (HB6.out.mono HB5.out.size)⟩
  have hlen := HP1.out.len
  have hlen1 := HP2.out
  clear HP5 HB5 HW5 HS5 HO6 HB6 HE HP2
  generalize w4.heap.size = b at *
  obtain ⟨p0, p1, p2, p3, p4, p5, p6⟩ := HSc.out.box.seven
  obtain ⟨L, hL⟩ : ∃ L, P.steps.length = L := ⟨_, rfl⟩
  rw [hL] at HSc p0 hlen hlen1 ⊢
  have HL := Lib.hid hL
  clear hL
  go_wp2
  go_loopw [11] (fun i wr => ∃ k : Nat, k ≤ L ∧ i = .int .i64 k ∧ Sc w wr b (.slice A4 L c4) (.slice A6 L c6) P) (fun i _ => (L - intOf i).toNat)
  case atStart => exact ⟨0, by omega, rfl, HSc.out⟩
  case round =>
    obtain ⟨k, hk, rfl, hSc⟩ := hrel
    clear p0 p1 p2 p3 p4 p5 p6 HSc
    have HSc := Lib.hid hSc
    clear hSc
    obtain ⟨p0, p1, p2, p3, p4, p5, p6⟩ := HSc.out.box.seven
    have hb := HSc.out.box.lt
    by_cases hlt : k < L
    · have hlv := HP1.out.lev k (by rw [HL.out]; exact hlt)
      have hod := HP1.out.odd k (by rw [HL.out]; exact hlt)
      have hxw : W64 (stepAt P.steps k).2.2 := by rw [(HP1.out.at_ k (by rw [HL.out]; exact hlt)).2.1]; exact HWd.out _
      obtain ⟨A', c', hv, hc⟩ := HSc.out.steps
      obtain ⟨ad, hA, d0, d1, d2⟩ := hc k (by rw [HL.out]; exact hlt)
      obtain ⟨rfl, _⟩ : A4 = A' ∧ True := by simp at hv; exact ⟨hv.1, trivial⟩
      subst hA
      obtain ⟨A'', c'', hv', hc'⟩ := HSc.out.trace.form
      obtain ⟨g6, hA', t0⟩ := hc' k (by simpa [slotsP, HL.out] using hlt)
      obtain ⟨rfl, _⟩ : A6 = A'' ∧ True := by simp at hv'; exact ⟨hv'.1, trivial⟩
      subst hA'
      rw [slots_get (by rw [HL.out]; exact hlt)] at t0
      rw [hlv] at d0
      have d1' : wr.cell? ⟨(ad.add (k * 3)).block, (ad.add (k * 3)).off + 1, none⟩ = some (.int .u64 (stepAt P.steps k).2.1) := d1
      have d2' : wr.cell? ⟨(ad.add (k * 3)).block, (ad.add (k * 3)).off + 2, none⟩ = some (.int .u64 (stepAt P.steps k).2.2) := d2
      clear hv hc hv' hc' d1 d2 hlv
      generalize (stepAt P.steps k).2.1 = s at *
      generalize (stepAt P.steps k).2.2 = x at *
      have hg6 : g6 < wr.heap.size := World.block_lt_of_cell? _ _ t0
      have e5 : IntKind.i64.wrap (4 - (k : Int)) = 4 - (k : Int) := i64_wrap (by omega) (by omega)
      have e6 : IntKind.i64.wrap ((L : Int) - 1) = (L : Int) - 1 := i64_wrap (by omega) (by omega)
      obtain ⟨ρ, hρ, hρ2, hρ3⟩ : ∃ ρ, x.tmod 2 = ρ ∧ IntKind.u64.wrap ρ = ρ ∧ (x % 2 = 0 → ρ = 0) ∧ (x % 2 = 1 → ρ = 1) := rem2 hxw.1
      have HQ3 := Lib.hid hρ3
      have HO := Lib.hid hod
      have hbk := HSc.out.below
      have HN2 : ∀ nq, Hid (Sc w (((wr.alloc (.cells #[.int .i64 (4 - (k : Int)), .int .u64 s, .int .u64 x] 77)).drewN nq)) b (.slice (some ad) L c4) (.slice (some ⟨g6, 0, none⟩) L c6) P) := fun nq => Lib.hid (HSc.out.quiet (below_drewN (below_alloc1 _ _) nq))
      clear hρ3 hod hbk HSc
      by_cases hla : k + 1 = L
      · have hl2 : ((k : Int) == (L : Int) - 1) = true := by simp; omega
        by_cases hy : P.why = 1
        · have hr0 : ρ = 0 := HQ3.out.1 (by have := HO.out; rw [if_pos ⟨by rw [HL.out]; exact hla, hy⟩] at this; exact this)
          rw [hy] at p1
          subst hr0
          clear hla hy
          go_wp2
          go_quiet (fail)
          go_wp2
          go_roundw
          case rel => exact ⟨k + 1, by omega, by go_num, (HN2 _).out⟩
          case measure => simp [intOf]; omega
        · have hr0 : ρ = 1 := HQ3.out.2 (by have := HO.out; rw [if_neg (fun h => hy h.2)] at this; exact this)
          have hy2 : (P.why != 1) = true := by simpa using hy
          subst hr0
          clear hla hy
          go_wp2
          go_quiet (fail)
          go_wp2
          go_roundw
          case rel => exact ⟨k + 1, by omega, by go_num, (HN2 _).out⟩
          case measure => simp [intOf]; omega
      · have hl2 : ((k : Int) == (L : Int) - 1) = false := by simp; omega
        have hr0 : ρ = 1 := HQ3.out.2 (by have := HO.out; rw [if_neg (fun h => hla (by rw [← HL.out]; exact h.1))] at this; exact this)
        subst hr0
        clear hla
        go_wp2
        go_quiet (fail)
        go_wp2
        go_roundw
        case rel => exact ⟨k + 1, by omega, by go_num, (HN2 _).out⟩
        case measure => simp [intOf]; omega
    · have hle : L ≤ k := by omega
      have hbk := Lib.hid HSc.out.below
      by_cases hy : P.why = 0
      · obtain ⟨y1, y2, y3, y4, y5⟩ := HP1.out.yes hy
        rw [HL.out] at y1
        rw [hy] at p1
        have e5 : IntKind.i64.wrap (5 - (L : Int)) = 5 - (L : Int) := i64_wrap (by omega) (by omega)
        have y6 : P.lev = 5 - (L : Int) := by omega
        rw [y6] at p5
        have y7 : 5 - (L : Int) < 4 := by omega
        generalize P.fr = z at *
        clear y1 y2 y3 y6 hy
        go_wp2
        go_ret
        exact ⟨rfl, hbk.out⟩
      · obtain ⟨y1, y2, y3, y4, y5⟩ := HP1.out.off hy
        rw [y1] at p2
        rw [y2] at p3
        rw [y3] at p4
        rw [y4] at p5
        rw [y5] at p6
        have hy2 : (P.why != 0) = true := by simpa using hy
        clear y1 y2 y3 y4 y5 hy
        generalize P.why = y at *
        go_wp2
        go_ret
        exact ⟨rfl, hbk.out⟩
end Go.Proofs.YtlpjbmlkpmhdlaaDoor
