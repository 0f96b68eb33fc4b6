/- Several texts of ours in one: L8s, Hs, Ib. -/
import Derived.Test.YtlpjbmlkpmhdlaaDoorGHfHgHm
import Derived.Test.YtlpjbmlkpmhdlaaDoorGHuRlRs
import Derived.Test.YtlpjbmlkpmhdlaaDoorGHnHpHq
import Derived.Test.YtlpjbmlkpmhdlaaDoorGRpRjIa
import Derived.StillTailTactics
/- The walk of WalkSteps. -/
namespace Go.Proofs.YtlpjbmlkpmhdlaaDoor
set_option linter.unusedVariables false
set_option linter.unusedSimpArgs false
open Go.ChangeShapes Go.WideShapes Go.ChangeAt Go.RowKit Go.Joins

theorem load_step (w : World) (ad : Addr) (k a x : Int) (c0 : w.cell? ad = some (.int .i64 k)) (c1 : w.cell? (ad.add 1) = some (.int .u64 a)) (c2 : w.cell? (ad.add 2) = some (.int .u64 x)) :
    (Instr.loadAt 77 (.pointer (some ad))).run Tryd.prog w = .ok (.agg #[.int .i64 k, .int .u64 a, .int .u64 x]) w := by
  have h := run_loadCells_list (P := Tryd.prog) (w := w) ad [.int .i64 k, .int .u64 a, .int .u64 x] (fun j v hv => by
    match j, hv with
    | 0, hv => simp at hv; subst hv; simpa [Addr.add] using c0
    | 1, hv => simp at hv; subst hv; exact c1
    | 2, hv => simp at hv; subst hv; exact c2)
  have g1 : (isAgg 77).run Tryd.prog w = .ok true w := by kernel_rfl
  have g2 : (sizeOf 77).run Tryd.prog w = .ok 3 w := by kernel_rfl
  simp only [Instr.loadAt, Instr.sureAddr, loadVar, Sem.run_bind, Sem.run_pure, Result.andThen_ok, g1, g2, if_true]
  simp at h
  simp [h]

/-- what lies where: the path's box, the steps, the trace -/
structure Sc (w0 wr : World) (b : Nat) (v vt : Value) (P : Pth) : Prop where
  box : Blk wr b (pathCells v P) 38
  steps : StepsIn wr v P.steps
  trace : WordsOwn wr vt (slotsP P.steps)
  below : Below w0.heap.size w0 wr

theorem rem2 {x : Int} (h : 0 ≤ x) : ∃ ρ, x.tmod 2 = ρ ∧ IntKind.u64.wrap ρ = ρ ∧ (x % 2 = 0 → ρ = 0) ∧ (x % 2 = 1 → ρ = 1) :=
  ⟨x % 2, Int.tmod_eq_emod_of_nonneg h, wrap_in (by omega) (by omega), id, id⟩

theorem Sc.quiet {w0 wr w3 : World} {b : Nat} {v vt : Value} {P : Pth} (h : Sc w0 wr b v vt P) (hb : Below wr.heap.size wr w3) : Sc w0 w3 b v vt P :=
  ⟨h.box.below hb, h.steps.below hb, own_below h.trace hb, h.below.trans (hb.mono h.below.size)⟩

theorem slots_get {S : List (Int × Int × Int)} {k : Nat} (hk : k < S.length) : (slotsP S).getD k 0 = (stepAt S k).2.1 := by
  simp [slotsP, stepAt, List.getD, hk]

set_option maxRecDepth 100000 in
set_option maxHeartbeats 3200000 in
theorem walkSteps_walk (A : Option Addr) (c : Nat) (ds : List (Int × Int × Int × Int)) (n r : Int) (w : World) (hs : Shifts w) (hl : ds.length ≤ maxLen) (hd : PutsIn w A ds) (hok : PutsOk ds) (n0 : 0 ≤ n) (n1 : n < 4294967296) (r0 : 0 ≤ r) (r1 : r < 256) :
    Calls Tryd.prog 7 #[.slice A ds.length c, .int .u32 n, .int .u8 r] w fun e w' => e = .returned (.bool true) ∧ Below w.heap.size w w' := by
  have HS := Lib.hid hs
  have hz := size_shifts hs
  have HD := Lib.hid hd
  have HN := Lib.hid (⟨n0, n1⟩ : 0 ≤ n ∧ n < 4294967296)
  obtain ⟨q, hq⟩ : ∃ q, r % 16 = q := ⟨_, rfl⟩
  have e1 : r.tmod 16 = q := by rw [Int.tmod_eq_emod_of_nonneg r0, hq]
  have e2 : IntKind.u8.wrap q = q := wrap8 (by omega) (by omega)
  have e3 : IntKind.u64.wrap q = q := wrap_in (by omega) (by omega)
  have e4 : IntKind.u64.wrap (q * 4096) = q * 4096 := wrap_in (by omega) (by omega)
  have HQ : Hid (W64 (q * 4096)) := Lib.hid (by unfold W64; omega)
  have HR := fun f a => Lib.hid (root_step f a true q (by omega) (by omega) true true true)
  clear hs hd n0 n1 hq r0 r1
  go_enter Tryd.func7, Tryd.ntmps7
  go_upto_region 6 with (first | (go_at_call 9; refine (awake8_any _ HS.out).mono ?_; rintro e w1 ⟨rfl, hB1⟩; have HB1 := Lib.hid hB1; clear hB1) | (go_at_call 10; refine (built_any _ _ _ ds hl (puts_below HD.out HB1.out) hok).mono ?_; rintro e w2 ⟨rfl, hM2, hB2⟩; have HM2 := Lib.hid hM2; have HB2 := Lib.hid (HB1.out.trans (hB2.mono HB1.out.size)); clear hM2 hB2) | (go_at_call 19; refine (top_any _ _ HQ.out).mono ?_; rintro e w3 ⟨rfl, hB3⟩; have HM3 := Lib.hid (HM2.out.kept hB3); have HB3 := Lib.hid (HB2.out.trans (hB3.mono HB2.out.size)); have HS3 := Lib.hid (shifts_under HS.out HB3.out hz); clear hB3) | (go_at_call 26; refine (near_any _ _ HN.out.1 HN.out.2).mono ?_; rintro e w' ⟨rfl, rfl⟩) | (go_at_call 29; refine (mtrace_any HW5.out.mem (by decide)).mono ?_; rintro e w6 ⟨vt, rfl, hO6, hB6⟩; obtain ⟨A6, c6, rfl⟩ := own_len hO6; have HO6 := Lib.hid (row_zero hO6); have HB6 := Lib.hid hB6; clear hO6 hB6) | (go_at_call 12; refine (from_any HM3.out (by decide) (from_not0 (Nat.lt_of_lt_of_le hz HB1.out.size)) HS3.out 4 (tableF (q * 4096)) (nearF n) true true true true (w64_table _) (near_w n)).mono ?_; obtain ⟨P, hP⟩ : ∃ P, walkZ 16 (putSt ds (mostP ds)) (nearF n) true 4 (tableF (q * 4096)) true true true = P := ⟨_, rfl⟩; have HP1 := Lib.hid (walk_snd (putSt ds (mostP ds)) HM3.out.words (nearF n) true 4 (by decide) (tableF (q * 4096)) true true true); have HWd := Lib.hid HM3.out.words; have HP2 := HR (putSt ds (mostP ds)) (nearF n); rw [show ((4 : Nat) : Int) = 4 from rfl] at HP1; rw [hP] at HP1 HP2 ⊢; clear hP HR; rintro e w4 ⟨v, G, rfl, hW4, hS4, hn4, hsh4⟩; obtain ⟨A4, c4, rfl⟩ := hS4.form; have HW4 := Lib.hid hW4; have HS4 := Lib.hid hS4; have HB4 := Lib.hid (HB3.out.trans ((wk_below hW4 HM3.out.base).mono HB1.out.size)); clear hW4 hS4 hn4 hsh4))
  generalize hw5 : w4.alloc _ = w5
  have HP5 : Hid (Blk w5 w4.heap.size (pathCells (.slice A4 P.steps.length c4) P) 38) := Lib.hid (by rw [← hw5]; exact Blk.new _ _ _)
  have hk5 : Below w4.heap.size w4 w5 := by rw [← hw5]; exact below_alloc1 _ _
  have HB5 := Lib.hid (HB4.out.trans (hk5.mono HB4.out.size))
  have HW5 := Lib.hid (HW4.out.quiet hk5)
  have HS5 := Lib.hid (HS4.out.below hk5)
  have HE : Hid (([] ++ slotsP P.steps).length = P.steps.length) := Lib.hid (by simp [slotsP])
  clear hw5 hk5 HW4 HS4 HB4 HB3 HB2 HM2 HM3 HS3
  go_upto_region 7 with (first | (go_at_call 29; refine (mtrace_any HW5.out.mem (by decide)).mono ?_; rintro e w6 ⟨vt, rfl, hO6, hB6⟩; have HO6 := Lib.hid (row_zero hO6); obtain ⟨A6, c6, hv6⟩ := own_len hO6; rw [HE.out] at hv6; subst hv6; have HB6 := Lib.hid hB6; clear hO6 hB6))
  have HSc : Hid (Sc w w6 w4.heap.size (.slice A4 P.steps.length c4) (.slice A6 P.steps.length c6) P) := Lib.hid ⟨HP5.out.below HB6.out, HS5.out.into.below HB6.out, HO6.out, HB5.out.trans (HB6.out.mono HB5.out.size)⟩
  have hlen := HP1.out.len
  have hlen1 := HP2.out
  clear HP5 HB5 HW5 HS5 HO6 HB6 HE HP2
  generalize w4.heap.size = b at *
  obtain ⟨p0, p1, p2, p3, p4, p5, p6⟩ := HSc.out.box.seven
  obtain ⟨L, hL⟩ : ∃ L, P.steps.length = L := ⟨_, rfl⟩
  rw [hL] at HSc p0 hlen hlen1 ⊢
  have HL := Lib.hid hL
  clear hL
  go_wp2
  go_loopw [11] (fun i wr => ∃ k : Nat, k ≤ L ∧ i = .int .i64 k ∧ Sc w wr b (.slice A4 L c4) (.slice A6 L c6) P) (fun i _ => (L - intOf i).toNat)
  case atStart => exact ⟨0, by omega, rfl, HSc.out⟩
  case round =>
    obtain ⟨k, hk, rfl, hSc⟩ := hrel
    clear p0 p1 p2 p3 p4 p5 p6 HSc
    have HSc := Lib.hid hSc
    clear hSc
    obtain ⟨p0, p1, p2, p3, p4, p5, p6⟩ := HSc.out.box.seven
    have hb := HSc.out.box.lt
    by_cases hlt : k < L
    · have hlv := HP1.out.lev k (by rw [HL.out]; exact hlt)
      have hod := HP1.out.odd k (by rw [HL.out]; exact hlt)
      have hxw : W64 (stepAt P.steps k).2.2 := by rw [(HP1.out.at_ k (by rw [HL.out]; exact hlt)).2.1]; exact HWd.out _
      obtain ⟨A', c', hv, hc⟩ := HSc.out.steps
      obtain ⟨ad, hA, d0, d1, d2⟩ := hc k (by rw [HL.out]; exact hlt)
      obtain ⟨rfl, _⟩ : A4 = A' ∧ True := by simp at hv; exact ⟨hv.1, trivial⟩
      subst hA
      obtain ⟨A'', c'', hv', hc'⟩ := HSc.out.trace.form
      obtain ⟨g6, hA', t0⟩ := hc' k (by simpa [slotsP, HL.out] using hlt)
      obtain ⟨rfl, _⟩ : A6 = A'' ∧ True := by simp at hv'; exact ⟨hv'.1, trivial⟩
      subst hA'
      rw [slots_get (by rw [HL.out]; exact hlt)] at t0
      rw [hlv] at d0
      have d1' : wr.cell? ⟨(ad.add (k * 3)).block, (ad.add (k * 3)).off + 1, none⟩ = some (.int .u64 (stepAt P.steps k).2.1) := d1
      have d2' : wr.cell? ⟨(ad.add (k * 3)).block, (ad.add (k * 3)).off + 2, none⟩ = some (.int .u64 (stepAt P.steps k).2.2) := d2
      clear hv hc hv' hc' d1 d2 hlv
      generalize (stepAt P.steps k).2.1 = s at *
      generalize (stepAt P.steps k).2.2 = x at *
      have hg6 : g6 < wr.heap.size := World.block_lt_of_cell? _ _ t0
      have e5 : IntKind.i64.wrap (4 - (k : Int)) = 4 - (k : Int) := i64_wrap (by omega) (by omega)
      have e6 : IntKind.i64.wrap ((L : Int) - 1) = (L : Int) - 1 := i64_wrap (by omega) (by omega)
      obtain ⟨ρ, hρ, hρ2, hρ3⟩ : ∃ ρ, x.tmod 2 = ρ ∧ IntKind.u64.wrap ρ = ρ ∧ (x % 2 = 0 → ρ = 0) ∧ (x % 2 = 1 → ρ = 1) := rem2 hxw.1
      have HQ3 := Lib.hid hρ3
      have HO := Lib.hid hod
      have hbk := HSc.out.below
      have HN2 : ∀ nq, Hid (Sc w (((wr.alloc (.cells #[.int .i64 (4 - (k : Int)), .int .u64 s, .int .u64 x] 77)).drewN nq)) b (.slice (some ad) L c4) (.slice (some ⟨g6, 0, none⟩) L c6) P) := fun nq => Lib.hid (HSc.out.quiet (below_drewN (below_alloc1 _ _) nq))
      clear hρ3 hod hbk HSc
      by_cases hla : k + 1 = L
      · have hl2 : ((k : Int) == (L : Int) - 1) = true := by simp; omega
        by_cases hy : P.why = 1
        · have hr0 : ρ = 0 := HQ3.out.1 (by have := HO.out; rw [if_pos ⟨by rw [HL.out]; exact hla, hy⟩] at this; exact this)
          rw [hy] at p1
          subst hr0
          clear hla hy
          go_wp2
          go_quiet (fail)
          go_wp2
          go_roundw
          case rel => exact ⟨k + 1, by omega, by go_num, (HN2 _).out⟩
          case measure => simp [intOf]; omega
        · have hr0 : ρ = 1 := HQ3.out.2 (by have := HO.out; rw [if_neg (fun h => hy h.2)] at this; exact this)
          have hy2 : (P.why != 1) = true := by simpa using hy
          subst hr0
          clear hla hy
          go_wp2
          go_quiet (fail)
          go_wp2
          go_roundw
          case rel => exact ⟨k + 1, by omega, by go_num, (HN2 _).out⟩
          case measure => simp [intOf]; omega
      · have hl2 : ((k : Int) == (L : Int) - 1) = false := by simp; omega
        have hr0 : ρ = 1 := HQ3.out.2 (by have := HO.out; rw [if_neg (fun h => hla (by rw [← HL.out]; exact h.1))] at this; exact this)
        subst hr0
        clear hla
        go_wp2
        go_quiet (fail)
        go_wp2
        go_roundw
        case rel => exact ⟨k + 1, by omega, by go_num, (HN2 _).out⟩
        case measure => simp [intOf]; omega
    · have hle : L ≤ k := by omega
      have hbk := Lib.hid HSc.out.below
      by_cases hy : P.why = 0
      · obtain ⟨y1, y2, y3, y4, y5⟩ := HP1.out.yes hy
        rw [HL.out] at y1
        rw [hy] at p1
        have e5 : IntKind.i64.wrap (5 - (L : Int)) = 5 - (L : Int) := i64_wrap (by omega) (by omega)
        have y6 : P.lev = 5 - (L : Int) := by omega
        rw [y6] at p5
        have y7 : 5 - (L : Int) < 4 := by omega
        generalize P.fr = z at *
        clear y1 y2 y3 y6 hy
        go_wp2
        go_ret
        exact ⟨rfl, hbk.out⟩
      · obtain ⟨y1, y2, y3, y4, y5⟩ := HP1.out.off hy
        rw [y1] at p2
        rw [y2] at p3
        rw [y3] at p4
        rw [y4] at p5
        rw [y5] at p6
        have hy2 : (P.why != 0) = true := by simpa using hy
        clear y1 y2 y3 y4 y5 hy
        generalize P.why = y at *
        go_wp2
        go_ret
        exact ⟨rfl, hbk.out⟩
end Go.Proofs.YtlpjbmlkpmhdlaaDoor
/- Contracts of package walk: unused, Same. (Laid by tools/gen_hs.py.) -/
namespace Go.Proofs.YtlpjbmlkpmhdlaaDoor
set_option linter.unusedVariables false
set_option linter.unusedSimpArgs false
open Go.ChangeShapes Go.WideShapes Go.ChangeAt Go.RowKit Go.Joins

/-- a word without A and D -/
def bareF (x : Int) : Int := bits .andNot .u64 x 96

theorem Blk.three8 {w : World} {b : Nat} {t : TypeId} {x0 x1 x2 : Value} (h : Blk w b #[x0, x1, x2] t) : w.cell? ⟨b, 0, none⟩ = some x0 ∧ w.cell? ⟨b, 1, none⟩ = some x1 ∧ w.cell? ⟨b, 2, none⟩ = some x2 := by
  unfold Blk at h; simp [World.cell?, h]

set_option maxRecDepth 100000 in
theorem unused_any (l s x : Int) (w : World) :
    Calls Tryd.prog 55 #[.agg #[.int .i64 l, .int .u64 s, .int .u64 x]] w fun e w' => e = .returned (.agg #[.int .i64 l, .int .u64 s, .int .u64 (bareF x)]) ∧ Below w.heap.size w w' := by
  unfold bareF
  go_enter Tryd.func55, Tryd.ntmps55
  go_wp2
  exact bodyPost_ret (results_cell_row rfl _ _ (w.heap.size + 1) _ _ _ _ rfl (last_obj2 w _ _) Tryd.underlying77 rfl rfl) rfl ⟨rfl, below2 w _ _⟩

/-- are the first k steps the same, but for A and D? -/
def sameN (S T : List (Int × Int × Int)) : Nat → Bool
  | 0 => true
  | k + 1 => sameN S T k && ((stepAt S k).1 == (stepAt T k).1 && ((stepAt S k).2.1 == (stepAt T k).2.1 && bareF (stepAt S k).2.2 == bareF (stepAt T k).2.2))

theorem same_false {S T : List (Int × Int × Int)} {k : Nat} : ∀ {L : Nat}, k + 1 ≤ L → sameN S T (k + 1) = false → sameN S T L = false
  | L + 1, hk, h => by
    by_cases e : k = L
    · subst e; exact h
    · unfold sameN; rw [same_false (L := L) (by omega) h]; rfl

/-- two paths in the variables of a call -/
structure Two (w wr : World) (pb : Nat) (v : Value) (P : Pth) (qb : Nat) (v' : Value) (Q : Pth) : Prop where
  boxP : Blk wr pb (pathCells v P) 38
  boxQ : Blk wr qb (pathCells v' Q) 38
  stepsP : StepsIn wr v P.steps
  stepsQ : StepsIn wr v' Q.steps
  below : Below w.heap.size w wr

section
variable {w wr w3 : World} {pb qb : Nat} {v v' : Value} {P Q : Pth}
theorem Two.quiet (h : Two w wr pb v P qb v' Q) (hb : Below wr.heap.size wr w3) : Two w w3 pb v P qb v' Q :=
  ⟨h.boxP.below hb, h.boxQ.below hb, h.stepsP.below hb, h.stepsQ.below hb, h.below.trans (hb.mono h.below.size)⟩
theorem Two.start (h1 : StepsIn w v P.steps) (h2 : StepsIn w v' Q.steps) : Two w ((w.alloc (.cells (pathCells v P) 38)).alloc (.cells (pathCells v' Q) 38)) w.heap.size v P (w.heap.size + 1) v' Q :=
  ⟨(Blk.new w _ _).alloc _, last_obj2 w _ _, h1.below (below2 w _ _), h2.below (below2 w _ _), below2 w _ _⟩
theorem steps_at {A : Option Addr} {L c : Nat} {S : List (Int × Int × Int)} (h : StepsIn wr (.slice A L c) S) {k : Nat} (hk : k < S.length) : ∃ ad, A = some ad ∧ wr.cell? (ad.add (k * 3)) = some (.int .i64 (stepAt S k).1) ∧ wr.cell? ⟨(ad.add (k * 3)).block, (ad.add (k * 3)).off + 1, none⟩ = some (.int .u64 (stepAt S k).2.1) ∧ wr.cell? ⟨(ad.add (k * 3)).block, (ad.add (k * 3)).off + 2, none⟩ = some (.int .u64 (stepAt S k).2.2) := by
  obtain ⟨A', c', hv, hc⟩ := h
  obtain ⟨ad, hA, d0, d1, d2⟩ := hc k hk
  simp at hv
  exact ⟨ad, hv.1.trans hA, d0, d1, d2⟩
end

/-- what the region of Same keeps -/
def RegSm (w1 : World) (sb : Nat) (l s x : Int) (qb : Nat) (v' : Value) (Q : Pth) (ad : Addr) (l' s' x' : Int) (w' : World) : Prop :=
  Blk w' sb #[.int .i64 l, .int .u64 s, .int .u64 x] 77 ∧ Blk w' qb (pathCells v' Q) 38 ∧ (w'.cell? ad = some (.int .i64 l') ∧ w'.cell? ⟨ad.block, ad.off + 1, none⟩ = some (.int .u64 s') ∧ w'.cell? ⟨ad.block, ad.off + 2, none⟩ = some (.int .u64 x')) ∧ Kept w1 w'
theorem regsm_step {w1 : World} {sb : Nat} {l s x : Int} {qb : Nat} {v' : Value} {Q : Pth} {ad : Addr} {l' s' x' : Int} {w2 w3 : World} (h : RegSm w1 sb l s x qb v' Q ad l' s' x' w2) (hb : Below w2.heap.size w2 w3) : RegSm w1 sb l s x qb v' Q ad l' s' x' w3 := by
  obtain ⟨a, b, ⟨c0, c1, c2⟩, k⟩ := h
  exact ⟨a.below hb, b.below hb, ⟨(hb.cell (World.block_lt_of_cell? _ _ c0)).trans c0, (hb.cell (World.block_lt_of_cell? _ _ c1)).trans c1, (hb.cell (World.block_lt_of_cell? _ _ c2)).trans c2⟩, Kept.step hb k⟩

set_option maxRecDepth 100000 in
set_option maxHeartbeats 3200000 in
theorem same_yes (w : World) (A A' : Option Addr) (L c c' : Nat) (S T : List (Int × Int × Int)) (y : Int) (W U X : Bool) (lv fr : Int) (hL : S.length = L) (hT : T.length = L) (hS1 : StepsIn w (.slice A L c) S) (hS2 : StepsIn w (.slice A' L c') T) (hl : L ≤ maxLen) :
    Calls Tryd.prog 21 #[pathV (.slice A L c) y W U X lv fr, pathV (.slice A' L c') y W U X lv fr] w fun e w' => e = .returned (.bool (sameN S T L)) ∧ Below w.heap.size w w' := by
  have H0 := Lib.hid (Two.start (P := ⟨S, y, W, U, X, lv, fr⟩) (Q := ⟨T, y, W, U, X, lv, fr⟩) hS1 hS2)
  have HL := Lib.hid hL
  have HT := Lib.hid hT
  clear hS1 hS2 hL hT
  go_enter Tryd.func21, Tryd.ntmps21
  go_wp2
  go_loopw [45] (fun i wr => ∃ k : Nat, k ≤ L ∧ i = .int .i64 k ∧ Two w wr w.heap.size (.slice A L c) ⟨S, y, W, U, X, lv, fr⟩ (w.heap.size + 1) (.slice A' L c') ⟨T, y, W, U, X, lv, fr⟩ ∧ sameN S T k = true) (fun i _ => (L - intOf i).toNat)
  case atStart => exact ⟨0, by omega, rfl, H0.out, rfl⟩
  case round =>
    obtain ⟨k, hk, rfl, hB, hY⟩ := hrel
    clear H0
    have HB := Lib.hid hB
    have HY := Lib.hid hY
    clear hB hY
    by_cases hlt : k < L
    · obtain ⟨ad, rfl, d0, d1, d2⟩ := steps_at HB.out.stepsP (k := k) (by show k < S.length; rw [HL.out]; exact hlt)
      obtain ⟨ad', rfl, g0, g1, g2⟩ := steps_at HB.out.stepsQ (k := k) (by show k < T.length; rw [HT.out]; exact hlt)
      have HN : Hid (sameN S T (k + 1) = (sameN S T k && ((stepAt S k).1 == (stepAt T k).1 && ((stepAt S k).2.1 == (stepAt T k).2.1 && bareF (stepAt S k).2.2 == bareF (stepAt T k).2.2)))) := Lib.hid rfl
      change wr.cell? _ = some (.int .i64 (stepAt S k).1) at d0
      change wr.cell? _ = some (.int .u64 (stepAt S k).2.1) at d1
      change wr.cell? _ = some (.int .u64 (stepAt S k).2.2) at d2
      change wr.cell? _ = some (.int .i64 (stepAt T k).1) at g0
      change wr.cell? _ = some (.int .u64 (stepAt T k).2.1) at g1
      change wr.cell? _ = some (.int .u64 (stepAt T k).2.2) at g2
      generalize (stepAt S k).1 = l at *
      generalize (stepAt S k).2.1 = s at *
      generalize (stepAt S k).2.2 = x at *
      generalize (stepAt T k).1 = l' at *
      generalize (stepAt T k).2.1 = s' at *
      generalize (stepAt T k).2.2 = x' at *
      go_upto_region 6 with fail
      obtain ⟨w1, hw1⟩ : ∃ w1, wr.alloc (.cells #[.int .i64 l, .int .u64 s, .int .u64 x] 77) = w1 := ⟨_, rfl⟩
      have HB1 : Hid (Two w w1 w.heap.size (.slice (some ad) L c) ⟨S, y, W, U, X, lv, fr⟩ (w.heap.size + 1) (.slice (some ad') L c') ⟨T, y, W, U, X, lv, fr⟩) := Lib.hid (by rw [← hw1]; exact HB.out.quiet (below_alloc1 _ _))
      have HR1 : Hid (RegSm w1 wr.heap.size l s x (w.heap.size + 1) (.slice (some ad') L c') ⟨T, y, W, U, X, lv, fr⟩ (ad'.add (k * 3)) l' s' x' w1) := Lib.hid (by
        rw [← hw1]
        have hb := below_alloc1 wr (.cells #[.int .i64 l, .int .u64 s, .int .u64 x] 77)
        exact ⟨Blk.new _ _ _, HB.out.boxQ.below hb, ⟨(hb.cell (World.block_lt_of_cell? _ _ g0)).trans g0, (hb.cell (World.block_lt_of_cell? _ _ g1)).trans g1, (hb.cell (World.block_lt_of_cell? _ _ g2)).trans g2⟩, Below.refl _ _⟩)
      rw [hw1]
      generalize wr.heap.size = sb at *
      clear hw1 d0 d1 d2 g0 g1 g2 HB
      refine wp_region_held_drew (S := RegSm w1 sb l s x (w.heap.size + 1) (.slice (some ad') L c') ⟨T, y, W, U, X, lv, fr⟩ (ad'.add (k * 3)) l' s' x') (by kernel_rfl) (regsm_step HR1.out (Kept.drew0 w1)) (fun hHeld => ?_)
      clear HR1
      generalize hwd : w1.drew = wd at *
      clear hwd
      have e9 : IntKind.i64.wrap ((k : Int) + 1) = (k : Int) + 1 := i64_wrap (by omega) (by unfold maxLen at hl; omega)
      have HNo : Hid (sameN S T (k + 1) = false → sameN S T L = false) := Lib.hid (same_false (by omega))
      by_cases hl1 : l = l'
      · by_cases hl2 : s = s'
        · obtain ⟨z, hz⟩ : ∃ z, bareF x = z := ⟨_, rfl⟩
          obtain ⟨z', hz'⟩ : ∃ z', bareF x' = z' := ⟨_, rfl⟩
          have CX := fun w0 => unused_any l s x w0
          have CX' := fun w0 => unused_any l s x' w0
          rw [hz] at CX HN
          rw [hz'] at CX' HN
          subst hl1
          subst hl2
          clear hz hz'
          by_cases hl3 : z = z'
          · subst hl3
            have HN : Hid (sameN S T (k + 1) = true) := Lib.hid (by rw [HN.out, HY.out]; simp)
            clear HY HNo
            refine anyH_take (i := 0) (v := ?_) rfl (by kernel_rfl) (by kernel_rfl) (by kernel_rfl) (fun _ _ _ h => h) (by rfl) (by assumption) ?_ ?_
            rotate_left
            · intro w hSw
              obtain ⟨hA, hB, ⟨g0, g1, g2⟩, hk9⟩ := hSw
              obtain ⟨q0, q1, q2⟩ := hA.three8
              obtain ⟨p0, p1, p2, p3, p4, p5, p6⟩ := hB.seven
              go_simp
              (try with_reducible rfl)
            (try simp only [Act.put, List.setIfInBounds_toArray, List.set_cons_zero, List.set_cons_succ])
            refine anyH_take (i := 2) (v := ?_) rfl (by kernel_rfl) (by kernel_rfl) (by kernel_rfl) (fun _ _ _ h => h) (by rfl) (by assumption) ?_ ?_
            rotate_left
            · intro w hSw
              go_simp
              (try with_reducible rfl)
            (try simp only [Act.put, List.setIfInBounds_toArray, List.set_cons_zero, List.set_cons_succ])
            refine anyH_take (i := 3) (v := ?_) rfl (by kernel_rfl) (by kernel_rfl) (by kernel_rfl) (fun _ _ _ h => h) (by rfl) (by assumption) ?_ ?_
            rotate_left
            · intro w hSw
              obtain ⟨hA, hB, ⟨g0, g1, g2⟩, hk9⟩ := hSw
              obtain ⟨q0, q1, q2⟩ := hA.three8
              obtain ⟨p0, p1, p2, p3, p4, p5, p6⟩ := hB.seven
              go_simp
              (try with_reducible rfl)
            (try simp only [Act.put, List.setIfInBounds_toArray, List.set_cons_zero, List.set_cons_succ])
            refine anyH_take (i := 4) (v := ?_) rfl (by kernel_rfl) (by kernel_rfl) (by kernel_rfl) (fun _ _ _ h => h) (by rfl) (by assumption) ?_ ?_
            rotate_left
            · intro w hSw
              go_simp
              (try with_reducible rfl)
            (try simp only [Act.put, List.setIfInBounds_toArray, List.set_cons_zero, List.set_cons_succ])
            refine anyH_take (i := 5) (v := ?_) rfl (by kernel_rfl) (by kernel_rfl) (by kernel_rfl) (fun _ _ _ h => h) (by rfl) (by assumption) ?_ ?_
            rotate_left
            · intro w hSw
              go_simp
              (try with_reducible rfl)
            (try simp only [Act.put, List.setIfInBounds_toArray, List.set_cons_zero, List.set_cons_succ])
            refine anyH_take (i := 6) (v := ?_) rfl (by kernel_rfl) (by kernel_rfl) (by kernel_rfl) (fun _ _ _ h => h) (by rfl) (by assumption) ?_ ?_
            rotate_left
            · intro w hSw
              obtain ⟨hA, hB, ⟨g0, g1, g2⟩, hk9⟩ := hSw
              obtain ⟨q0, q1, q2⟩ := hA.three8
              obtain ⟨p0, p1, p2, p3, p4, p5, p6⟩ := hB.seven
              go_simp
              (try with_reducible rfl)
            (try simp only [Act.put, List.setIfInBounds_toArray, List.set_cons_zero, List.set_cons_succ])
            refine wpAnyH_ready (rs := [1]) (by kernel_rfl) (by simp) ?_
            refine anyH_one rfl (fun K hK => ?_) ?_
            · go_simp
              refine (CX _).mono ?_
              rintro e w5 ⟨rfl, hb5⟩
              refine hK.out _ _ (regsm_step hHeld hb5) (fun hHeld => ?_)
              clear hK K
              (try simp only [Act.put, List.setIfInBounds_toArray, List.set_cons_zero, List.set_cons_succ])
              refine wpAnyH_ready (rs := [7]) (by kernel_rfl) (by simp) ?_
              refine anyH_one rfl (fun K hK => ?_) ?_
              · go_simp
                refine (CX' _).mono ?_
                rintro e w6 ⟨rfl, hb6⟩
                refine hK.out _ _ (regsm_step hHeld hb6) (fun hHeld => ?_)
                clear hK K
                (try simp only [Act.put, List.setIfInBounds_toArray, List.set_cons_zero, List.set_cons_succ])
                refine anyH_take (i := 8) (v := ?_) rfl (by kernel_rfl) (by kernel_rfl) (by kernel_rfl) (fun _ _ _ h => h) (by rfl) (by assumption) ?_ ?_
                rotate_left
                · intro w hSw
                  go_simp
                  (try with_reducible rfl)
                (try simp only [Act.put, List.setIfInBounds_toArray, List.set_cons_zero, List.set_cons_succ])
                refine wpAnyH_done (by kernel_rfl) ?_ _
                have HB2 := Lib.hid (HB1.out.quiet hHeld.2.2.2)
                clear hHeld hb5 hb6 HB1
                go_wp2
                go_roundw
                case rel => exact ⟨k + 1, by omega, by go_num, HB2.out, HN.out⟩
                case measure => simp [intOf]; omega
              exact AllReadyH.nil
            exact AllReadyH.nil
          · have hl4 : (z == z') = false := by simpa using hl3
            have HN : Hid (sameN S T L = false) := Lib.hid (HNo.out (by rw [HN.out, hl4]; simp))
            clear HY HNo hl3
            refine anyH_take (i := 0) (v := ?_) rfl (by kernel_rfl) (by kernel_rfl) (by kernel_rfl) (fun _ _ _ h => h) (by rfl) (by assumption) ?_ ?_
            rotate_left
            · intro w hSw
              obtain ⟨hA, hB, ⟨g0, g1, g2⟩, hk9⟩ := hSw
              obtain ⟨q0, q1, q2⟩ := hA.three8
              obtain ⟨p0, p1, p2, p3, p4, p5, p6⟩ := hB.seven
              go_simp
              (try with_reducible rfl)
            (try simp only [Act.put, List.setIfInBounds_toArray, List.set_cons_zero, List.set_cons_succ])
            refine anyH_take (i := 2) (v := ?_) rfl (by kernel_rfl) (by kernel_rfl) (by kernel_rfl) (fun _ _ _ h => h) (by rfl) (by assumption) ?_ ?_
            rotate_left
            · intro w hSw
              go_simp
              (try with_reducible rfl)
            (try simp only [Act.put, List.setIfInBounds_toArray, List.set_cons_zero, List.set_cons_succ])
            refine anyH_take (i := 3) (v := ?_) rfl (by kernel_rfl) (by kernel_rfl) (by kernel_rfl) (fun _ _ _ h => h) (by rfl) (by assumption) ?_ ?_
            rotate_left
            · intro w hSw
              obtain ⟨hA, hB, ⟨g0, g1, g2⟩, hk9⟩ := hSw
              obtain ⟨q0, q1, q2⟩ := hA.three8
              obtain ⟨p0, p1, p2, p3, p4, p5, p6⟩ := hB.seven
              go_simp
              (try with_reducible rfl)
            (try simp only [Act.put, List.setIfInBounds_toArray, List.set_cons_zero, List.set_cons_succ])
            refine anyH_take (i := 4) (v := ?_) rfl (by kernel_rfl) (by kernel_rfl) (by kernel_rfl) (fun _ _ _ h => h) (by rfl) (by assumption) ?_ ?_
            rotate_left
            · intro w hSw
              go_simp
              (try with_reducible rfl)
            (try simp only [Act.put, List.setIfInBounds_toArray, List.set_cons_zero, List.set_cons_succ])
            refine anyH_take (i := 5) (v := ?_) rfl (by kernel_rfl) (by kernel_rfl) (by kernel_rfl) (fun _ _ _ h => h) (by rfl) (by assumption) ?_ ?_
            rotate_left
            · intro w hSw
              go_simp
              (try with_reducible rfl)
            (try simp only [Act.put, List.setIfInBounds_toArray, List.set_cons_zero, List.set_cons_succ])
            refine anyH_take (i := 6) (v := ?_) rfl (by kernel_rfl) (by kernel_rfl) (by kernel_rfl) (fun _ _ _ h => h) (by rfl) (by assumption) ?_ ?_
            rotate_left
            · intro w hSw
              obtain ⟨hA, hB, ⟨g0, g1, g2⟩, hk9⟩ := hSw
              obtain ⟨q0, q1, q2⟩ := hA.three8
              obtain ⟨p0, p1, p2, p3, p4, p5, p6⟩ := hB.seven
              go_simp
              (try with_reducible rfl)
            (try simp only [Act.put, List.setIfInBounds_toArray, List.set_cons_zero, List.set_cons_succ])
            refine wpAnyH_ready (rs := [1]) (by kernel_rfl) (by simp) ?_
            refine anyH_one rfl (fun K hK => ?_) ?_
            · go_simp
              refine (CX _).mono ?_
              rintro e w5 ⟨rfl, hb5⟩
              refine hK.out _ _ (regsm_step hHeld hb5) (fun hHeld => ?_)
              clear hK K
              (try simp only [Act.put, List.setIfInBounds_toArray, List.set_cons_zero, List.set_cons_succ])
              refine wpAnyH_ready (rs := [7]) (by kernel_rfl) (by simp) ?_
              refine anyH_one rfl (fun K hK => ?_) ?_
              · go_simp
                refine (CX' _).mono ?_
                rintro e w6 ⟨rfl, hb6⟩
                refine hK.out _ _ (regsm_step hHeld hb6) (fun hHeld => ?_)
                clear hK K
                (try simp only [Act.put, List.setIfInBounds_toArray, List.set_cons_zero, List.set_cons_succ])
                refine anyH_take (i := 8) (v := ?_) rfl (by kernel_rfl) (by kernel_rfl) (by kernel_rfl) (fun _ _ _ h => h) (by rfl) (by assumption) ?_ ?_
                rotate_left
                · intro w hSw
                  go_simp
                  (try with_reducible rfl)
                (try simp only [Act.put, List.setIfInBounds_toArray, List.set_cons_zero, List.set_cons_succ])
                refine wpAnyH_done (by kernel_rfl) ?_ _
                have HB2 := Lib.hid (HB1.out.quiet hHeld.2.2.2)
                clear hHeld hb5 hb6 HB1
                have HE := Lib.hid HB2.out.below
                clear HB2
                go_wp2
                go_ret
                exact ⟨by rw [HN.out]; rfl, HE.out⟩
              exact AllReadyH.nil
            exact AllReadyH.nil
        · have hl4 : (s == s') = false := by simpa using hl2
          have HN : Hid (sameN S T L = false) := Lib.hid (HNo.out (by rw [HN.out, hl4]; simp))
          clear HY HNo hl2
          refine anyH_take (i := 0) (v := ?_) rfl (by kernel_rfl) (by kernel_rfl) (by kernel_rfl) (fun _ _ _ h => h) (by rfl) (by assumption) ?_ ?_
          rotate_left
          · intro w hSw
            obtain ⟨hA, hB, ⟨g0, g1, g2⟩, hk9⟩ := hSw
            obtain ⟨q0, q1, q2⟩ := hA.three8
            obtain ⟨p0, p1, p2, p3, p4, p5, p6⟩ := hB.seven
            go_simp
            (try with_reducible rfl)
          (try simp only [Act.put, List.setIfInBounds_toArray, List.set_cons_zero, List.set_cons_succ])
          refine anyH_take (i := 2) (v := ?_) rfl (by kernel_rfl) (by kernel_rfl) (by kernel_rfl) (fun _ _ _ h => h) (by rfl) (by assumption) ?_ ?_
          rotate_left
          · intro w hSw
            go_simp
            (try with_reducible rfl)
          (try simp only [Act.put, List.setIfInBounds_toArray, List.set_cons_zero, List.set_cons_succ])
          refine anyH_take (i := 3) (v := ?_) rfl (by kernel_rfl) (by kernel_rfl) (by kernel_rfl) (fun _ _ _ h => h) (by rfl) (by assumption) ?_ ?_
          rotate_left
          · intro w hSw
            obtain ⟨hA, hB, ⟨g0, g1, g2⟩, hk9⟩ := hSw
            obtain ⟨q0, q1, q2⟩ := hA.three8
            obtain ⟨p0, p1, p2, p3, p4, p5, p6⟩ := hB.seven
            go_simp
            (try with_reducible rfl)
          (try simp only [Act.put, List.setIfInBounds_toArray, List.set_cons_zero, List.set_cons_succ])
          refine anyH_take (i := 4) (v := ?_) rfl (by kernel_rfl) (by kernel_rfl) (by kernel_rfl) (fun _ _ _ h => h) (by rfl) (by assumption) ?_ ?_
          rotate_left
          · intro w hSw
            go_simp
            (try with_reducible rfl)
          (try simp only [Act.put, List.setIfInBounds_toArray, List.set_cons_zero, List.set_cons_succ])
          refine anyH_take (i := 5) (v := ?_) rfl (by kernel_rfl) (by kernel_rfl) (by kernel_rfl) (fun _ _ _ h => h) (by rfl) (by assumption) ?_ ?_
          rotate_left
          · intro w hSw
            go_simp
            (try with_reducible rfl)
          (try simp only [Act.put, List.setIfInBounds_toArray, List.set_cons_zero, List.set_cons_succ])
          refine anyH_take (i := 6) (v := ?_) rfl (by kernel_rfl) (by kernel_rfl) (by kernel_rfl) (fun _ _ _ h => h) (by rfl) (by assumption) ?_ ?_
          rotate_left
          · intro w hSw
            obtain ⟨hA, hB, ⟨g0, g1, g2⟩, hk9⟩ := hSw
            obtain ⟨q0, q1, q2⟩ := hA.three8
            obtain ⟨p0, p1, p2, p3, p4, p5, p6⟩ := hB.seven
            go_simp
            (try with_reducible rfl)
          (try simp only [Act.put, List.setIfInBounds_toArray, List.set_cons_zero, List.set_cons_succ])
          refine wpAnyH_ready (rs := [1]) (by kernel_rfl) (by simp) ?_
          refine anyH_one rfl (fun K hK => ?_) ?_
          · go_simp
            refine (unused_any _ _ _ _).mono ?_
            rintro e w5 ⟨rfl, hb5⟩
            refine hK.out _ _ (regsm_step hHeld hb5) (fun hHeld => ?_)
            clear hK K
            (try simp only [Act.put, List.setIfInBounds_toArray, List.set_cons_zero, List.set_cons_succ])
            refine wpAnyH_ready (rs := [7]) (by kernel_rfl) (by simp) ?_
            refine anyH_one rfl (fun K hK => ?_) ?_
            · go_simp
              refine (unused_any _ _ _ _).mono ?_
              rintro e w6 ⟨rfl, hb6⟩
              refine hK.out _ _ (regsm_step hHeld hb6) (fun hHeld => ?_)
              clear hK K
              (try simp only [Act.put, List.setIfInBounds_toArray, List.set_cons_zero, List.set_cons_succ])
              refine anyH_take (i := 8) (v := ?_) rfl (by kernel_rfl) (by kernel_rfl) (by kernel_rfl) (fun _ _ _ h => h) (by rfl) (by assumption) ?_ ?_
              rotate_left
              · intro w hSw
                go_simp
                (try with_reducible rfl)
              (try simp only [Act.put, List.setIfInBounds_toArray, List.set_cons_zero, List.set_cons_succ])
              refine wpAnyH_done (by kernel_rfl) ?_ _
              have HB2 := Lib.hid (HB1.out.quiet hHeld.2.2.2)
              clear hHeld hb5 hb6 HB1
              have HE := Lib.hid HB2.out.below
              clear HB2
              go_wp2
              go_ret
              exact ⟨by rw [HN.out]; rfl, HE.out⟩
            exact AllReadyH.nil
          exact AllReadyH.nil
      · have hl4 : (l == l') = false := by simpa using hl1
        have HN : Hid (sameN S T L = false) := Lib.hid (HNo.out (by rw [HN.out, hl4]; simp))
        clear HY HNo hl1
        refine anyH_take (i := 0) (v := ?_) rfl (by kernel_rfl) (by kernel_rfl) (by kernel_rfl) (fun _ _ _ h => h) (by rfl) (by assumption) ?_ ?_
        rotate_left
        · intro w hSw
          obtain ⟨hA, hB, ⟨g0, g1, g2⟩, hk9⟩ := hSw
          obtain ⟨q0, q1, q2⟩ := hA.three8
          obtain ⟨p0, p1, p2, p3, p4, p5, p6⟩ := hB.seven
          go_simp
          (try with_reducible rfl)
        (try simp only [Act.put, List.setIfInBounds_toArray, List.set_cons_zero, List.set_cons_succ])
        refine anyH_take (i := 2) (v := ?_) rfl (by kernel_rfl) (by kernel_rfl) (by kernel_rfl) (fun _ _ _ h => h) (by rfl) (by assumption) ?_ ?_
        rotate_left
        · intro w hSw
          go_simp
          (try with_reducible rfl)
        (try simp only [Act.put, List.setIfInBounds_toArray, List.set_cons_zero, List.set_cons_succ])
        refine anyH_take (i := 3) (v := ?_) rfl (by kernel_rfl) (by kernel_rfl) (by kernel_rfl) (fun _ _ _ h => h) (by rfl) (by assumption) ?_ ?_
        rotate_left
        · intro w hSw
          obtain ⟨hA, hB, ⟨g0, g1, g2⟩, hk9⟩ := hSw
          obtain ⟨q0, q1, q2⟩ := hA.three8
          obtain ⟨p0, p1, p2, p3, p4, p5, p6⟩ := hB.seven
          go_simp
          (try with_reducible rfl)
        (try simp only [Act.put, List.setIfInBounds_toArray, List.set_cons_zero, List.set_cons_succ])
        refine anyH_take (i := 4) (v := ?_) rfl (by kernel_rfl) (by kernel_rfl) (by kernel_rfl) (fun _ _ _ h => h) (by rfl) (by assumption) ?_ ?_
        rotate_left
        · intro w hSw
          go_simp
          (try with_reducible rfl)
        (try simp only [Act.put, List.setIfInBounds_toArray, List.set_cons_zero, List.set_cons_succ])
        refine anyH_take (i := 5) (v := ?_) rfl (by kernel_rfl) (by kernel_rfl) (by kernel_rfl) (fun _ _ _ h => h) (by rfl) (by assumption) ?_ ?_
        rotate_left
        · intro w hSw
          go_simp
          (try with_reducible rfl)
        (try simp only [Act.put, List.setIfInBounds_toArray, List.set_cons_zero, List.set_cons_succ])
        refine anyH_take (i := 6) (v := ?_) rfl (by kernel_rfl) (by kernel_rfl) (by kernel_rfl) (fun _ _ _ h => h) (by rfl) (by assumption) ?_ ?_
        rotate_left
        · intro w hSw
          obtain ⟨hA, hB, ⟨g0, g1, g2⟩, hk9⟩ := hSw
          obtain ⟨q0, q1, q2⟩ := hA.three8
          obtain ⟨p0, p1, p2, p3, p4, p5, p6⟩ := hB.seven
          go_simp
          (try with_reducible rfl)
        (try simp only [Act.put, List.setIfInBounds_toArray, List.set_cons_zero, List.set_cons_succ])
        refine wpAnyH_ready (rs := [1]) (by kernel_rfl) (by simp) ?_
        refine anyH_one rfl (fun K hK => ?_) ?_
        · go_simp
          refine (unused_any _ _ _ _).mono ?_
          rintro e w5 ⟨rfl, hb5⟩
          refine hK.out _ _ (regsm_step hHeld hb5) (fun hHeld => ?_)
          clear hK K
          (try simp only [Act.put, List.setIfInBounds_toArray, List.set_cons_zero, List.set_cons_succ])
          refine wpAnyH_ready (rs := [7]) (by kernel_rfl) (by simp) ?_
          refine anyH_one rfl (fun K hK => ?_) ?_
          · go_simp
            refine (unused_any _ _ _ _).mono ?_
            rintro e w6 ⟨rfl, hb6⟩
            refine hK.out _ _ (regsm_step hHeld hb6) (fun hHeld => ?_)
            clear hK K
            (try simp only [Act.put, List.setIfInBounds_toArray, List.set_cons_zero, List.set_cons_succ])
            refine anyH_take (i := 8) (v := ?_) rfl (by kernel_rfl) (by kernel_rfl) (by kernel_rfl) (fun _ _ _ h => h) (by rfl) (by assumption) ?_ ?_
            rotate_left
            · intro w hSw
              go_simp
              (try with_reducible rfl)
            (try simp only [Act.put, List.setIfInBounds_toArray, List.set_cons_zero, List.set_cons_succ])
            refine wpAnyH_done (by kernel_rfl) ?_ _
            have HB2 := Lib.hid (HB1.out.quiet hHeld.2.2.2)
            clear hHeld hb5 hb6 HB1
            have HE := Lib.hid HB2.out.below
            clear HB2
            go_wp2
            go_ret
            exact ⟨by rw [HN.out]; rfl, HE.out⟩
          exact AllReadyH.nil
        exact AllReadyH.nil
    · have hle : L ≤ k := by omega
      obtain rfl : k = L := by omega
      obtain ⟨p0, p1, p2, p3, p4, p5, p6⟩ := HB.out.boxP.seven
      have HE := Lib.hid HB.out.below
      clear hlt hk HB
      go_wp2
      go_ret
      exact ⟨by rw [HY.out]; rfl, HE.out⟩
end Go.Proofs.YtlpjbmlkpmhdlaaDoor
/- The document's Built and Mark. -/
namespace Go.Proofs.YtlpjbmlkpmhdlaaDoor
set_option linter.unusedVariables false
set_option linter.unusedSimpArgs false
open Go.ChangeShapes Go.WideShapes Go.ChangeAt Go.RowKit Go.Joins

/-- Built, in its loop -/
structure Bd (w wr : World) (vs : Value) (f : Int → Int) (L : List (Int × Int)) : Prop where
  res : Blk wr w.heap.size (docCells 0 (.slice none 0 0) (.slice none 0 0)) 34
  box : Blk wr (w.heap.size + 1) (docCells 16 vs (.slice none 0 0)) 34
  doc : Doc wr 16 vs (.slice none 0 0) f [] L
  below : Below w.heap.size w wr
  new : ∀ i, vs.ownBlock = some i → w.heap.size ≤ i

section
variable {w wr w3 : World} {vs vs' : Value} {f f' : Int → Int} {L L' : List (Int × Int)}
theorem Bd.start (w : World) : Bd w ((w.alloc (.cells (docCells 0 (.slice none 0 0) (.slice none 0 0)) 34)).alloc (.cells (docCells 16 (.slice none 0 0) (.slice none 0 0)) 34)) (.slice none 0 0) (fun _ => 0) [] :=
  ⟨(Blk.new w _ _).alloc _, last_obj2 w _ _, Doc.start _ _, below2 w _ _, by simp [Value.ownBlock]⟩
theorem Bd.quiet (h : Bd w wr vs f L) (hb : Below wr.heap.size wr w3) : Bd w w3 vs f L :=
  ⟨h.res.below hb, h.box.below hb, h.doc.quiet hb, h.below.trans (hb.mono h.below.size), h.new⟩
theorem Bd.set (h : Bd w wr vs f L) (hd : Doc wr 16 vs' (.slice none 0 0) f' [] L') (hn : ∀ i, vs'.ownBlock = some i → w.heap.size ≤ i) : Bd w (((wr.setCell ⟨w.heap.size + 1, 0, none⟩ (.int .i64 16)).setCell ⟨w.heap.size + 1, 1, none⟩ vs').setCell ⟨w.heap.size + 1, 2, none⟩ (.slice none 0 0)) vs' f' L' :=
  ⟨h.res.turn (turn3 _ _ _ _ _) (by omega), h.box.set3 _ _ _, hd.box h.box (by decide) (by decide) (turn3 _ _ _ _ _), turn_below h.below (turn3 _ _ _ _ _) (by omega) h.below.size, hn⟩
end

set_option maxRecDepth 100000 in
set_option maxHeartbeats 1600000 in
theorem rbuilt_any (w : World) (A : Option Addr) (c : Nat) (ds : List (Int × Int × Int × Int)) (hl : ds.length ≤ maxLen) (hd : PutsIn w A ds) (hok : PutsOk ds) :
    Calls Tryd.prog 11 #[.slice A ds.length c] w fun e w' => ∃ vs L, e = .returned (.agg (docCells 16 vs (.slice none 0 0))) ∧ Doc w' 16 vs (.slice none 0 0) (putSt ds (mostP ds)) [] L ∧ L.length ≤ 100 ∧ (∀ i, vs.ownBlock = some i → w.heap.size ≤ i) ∧ Below w.heap.size w w' := by
  unfold maxLen at hl
  have H0 := Lib.hid (Bd.start w)
  go_enter Tryd.func11, Tryd.ntmps11
  go_wp2
  go_loopw [4] (fun i wr => ∃ (k : Nat) (vs : Value) (L : List (Int × Int)), k ≤ mostP ds ∧ i = .int .i64 k ∧ L.length ≤ k ∧ Hid (Bd w wr vs (putSt ds k) L)) (fun i _ => (100 - intOf i).toNat)
  case atStart => exact ⟨0, _, [], Nat.zero_le _, rfl, Nat.zero_le _, H0⟩
  case round =>
    obtain ⟨k, vs, L, hk, rfl, hL, HB⟩ := hrel
    clear H0
    have hm0 : mostP ds ≤ 100 := by unfold mostP; omega
    have hm1 : mostP ds ≤ ds.length := by unfold mostP; omega
    obtain ⟨A1, c1, _, _, rfl, _⟩ := HB.out.doc.form
    by_cases hlt : k < mostP ds
    · obtain ⟨ad, rfl, g0, g1, g2, g3⟩ := puts_below hd HB.out.below k (by omega)
      obtain ⟨⟨s0, s1⟩, ⟨f0, f1⟩, l0, l1⟩ := hok k (by omega)
      have hF : putSt ds (k + 1) = storeS 16 (putSt ds k) (atS (ds.getD k (0, 0, 0, 0)).1) (atX (ds.getD k (0, 0, 0, 0)).2.1 (ds.getD k (0, 0, 0, 0)).2.2.1 (ds.getD k (0, 0, 0, 0)).2.2.2) := rfl
      have g1' : wr.cell? ⟨(ad.add (k * 4)).block, (ad.add (k * 4)).off + 1, none⟩ = some (.int .u16 (ds.getD k (0, 0, 0, 0)).2.1) := g1
      have g2' : wr.cell? ⟨(ad.add (k * 4)).block, (ad.add (k * 4)).off + 2, none⟩ = some (.int .u8 (ds.getD k (0, 0, 0, 0)).2.2.1) := g2
      have g3' : wr.cell? ⟨(ad.add (k * 4)).block, (ad.add (k * 4)).off + 3, none⟩ = some (.int .u64 (ds.getD k (0, 0, 0, 0)).2.2.2) := g3
      have hks : k < ds.length := by omega
      have h100 : (k : Int) < 100 := by omega
      generalize (ds.getD k (0, 0, 0, 0)).1 = sl at *
      generalize (ds.getD k (0, 0, 0, 0)).2.1 = fr at *
      generalize (ds.getD k (0, 0, 0, 0)).2.2.1 = fl at *
      generalize (ds.getD k (0, 0, 0, 0)).2.2.2 = mo at *
      have HF := Lib.hid hF
      have CA := fun w' => at_any sl fr fl mo w' s0 s1 f0 f1 l0 l1
      have HSw := Lib.hid (atS_w sl)
      clear hF g1 g2 g3 hd hok s0 s1 f0 f1 l0 l1
      generalize atS sl = s at *
      generalize atX fr fl mo = x at *
      generalize putSt ds k = f at *
      go_upto_region 6 with (first | (go_at_call 23; refine (CA _).mono ?_; rintro e w2 ⟨rfl, hB2⟩; have HB2 := Lib.hid (HB.out.quiet hB2); clear hB2 HB g0 g1' g2' g3'))
      obtain ⟨p0, p1, p2⟩ := HB2.out.box.three
      have CS := rStore_any 16 _ _ L [] f s x w2 ⟨by decide, by decide⟩ HB2.out.doc.slots (by omega) HB2.out.doc.words HB2.out.doc.agree HSw.out
      go_upto_region 7 with (first | (go_at_call 34; refine CS.mono ?_; rintro e w3 ⟨vs', rfl, hS3, hN3, hB3⟩; have HN3 : Hid (∀ i, vs'.ownBlock = some i → w.heap.size ≤ i) := Lib.hid (fun i hi => by rcases hN3 with e | e; (rw [e] at hi; exact HB2.out.new i hi); exact Nat.le_trans HB2.out.below.size (e i hi)); have HD3 := Lib.hid (HB2.out.doc.store (own_below HB2.out.doc.words hB3) s x HSw.out hS3); have HB3 := Lib.hid (HB2.out.quiet hB3); obtain ⟨A3, c3, _, _, rfl, _⟩ := HD3.out.form; clear hS3 hB3 hN3 HB2 CS p0 p1 p2))
      generalize hw4 : w3.alloc _ = w4
      have HK4 : Hid (Below w3.heap.size w3 w4) := Lib.hid (by rw [← hw4]; exact below_alloc1 _ _)
      have HN4 : Hid (Blk w4 w3.heap.size (docCells 16 (.slice A3 (storeL 16 L s x).length c3) (.slice none 0 0)) 34) := Lib.hid (by rw [← hw4]; exact Blk.new _ _ _)
      have HD4 := Lib.hid (HD3.out.quiet HK4.out)
      have HB4 := Lib.hid (HB3.out.quiet HK4.out)
      have HB5 := Lib.hid (HB4.out.set HD4.out HN3.out)
      rw [← HF.out] at HB5
      have hLn := storeL_len 16 L s x
      clear hw4 HK4 HB3 HD3
      obtain ⟨p0, p1, p2⟩ := HN4.out.three
      obtain ⟨q0, q1, q2⟩ := HB4.out.box.three
      have r0 := HB4.out.box.fz 0; have r1 := HB4.out.box.fz 1; have r2 := HB4.out.box.fz 2
      go_wp2
      go_roundw
      case rel => exact ⟨k + 1, _, _, by omega, by go_num, by omega, HB5⟩
      case measure => simp [intOf]; omega
    · have e : k = mostP ds := by omega
      have HE : Hid (putSt ds k = putSt ds (mostP ds)) := Lib.hid (by rw [e])
      obtain ⟨p0, p1, p2⟩ := HB.out.box.three
      obtain ⟨q0, q1, q2⟩ := HB.out.res.three
      have r0 := HB.out.res.fz 0; have r1 := HB.out.res.fz 1; have r2 := HB.out.res.fz 2
      have fin : ∃ vs' L', Value.slice A1 L.length c1 = vs' ∧ Doc (((wr.setCell ⟨w.heap.size, 0, none⟩ (.int .i64 16)).setCell ⟨w.heap.size, 1, none⟩ (.slice A1 L.length c1)).setCell ⟨w.heap.size, 2, none⟩ (.slice none 0 0)) 16 vs' (.slice none 0 0) (putSt ds (mostP ds)) [] L' ∧ L'.length ≤ 100 ∧ (∀ i, vs'.ownBlock = some i → w.heap.size ≤ i) ∧ Below w.heap.size w (((wr.setCell ⟨w.heap.size, 0, none⟩ (.int .i64 16)).setCell ⟨w.heap.size, 1, none⟩ (.slice A1 L.length c1)).setCell ⟨w.heap.size, 2, none⟩ (.slice none 0 0)) :=
        ⟨_, L, rfl, by rw [← HE.out]; exact HB.out.doc.box HB.out.res (by decide) (by decide) (turn3 _ _ _ _ _), by omega, HB.out.new, turn_below HB.out.below (turn3 _ _ _ _ _) (by omega) HB.out.below.size⟩
      have HFin := Lib.hid fin
      by_cases h1 : k < ds.length
      · have h2 : k = 100 := by unfold mostP at e; omega
        clear hd hok hk hlt e fin HE hm0 hm1
        subst h2
        go_wp2
        obtain ⟨vs', L', rfl, f1, f2, f4, f3⟩ := HFin.out
        exact bodyPost_ret (results_cell_row rfl _ _ w.heap.size _ _ _ _ rfl (HB.out.res.set3 _ _ _) Tryd.underlying34 rfl rfl) rfl ⟨_, L', rfl, f1, f2, f4, f3⟩
      · have h2 : ds.length ≤ k := by omega
        clear hd hok hk hlt e fin HE hm0 hm1
        go_wp2
        obtain ⟨vs', L', rfl, f1, f2, f4, f3⟩ := HFin.out
        exact bodyPost_ret (results_cell_row rfl _ _ w.heap.size _ _ _ _ rfl (HB.out.res.set3 _ _ _) Tryd.underlying34 rfl rfl) rfl ⟨_, L', rfl, f1, f2, f4, f3⟩

/-- the document's Mark, in its loop -/
structure RMk (w wr : World) (M : Int) (vs vt : Value) (f : Int → Int) (tr : List Int) (L : List (Int × Int)) (v : Value) (P : Pth) : Prop where
  mbox : Blk wr w.heap.size (docCells M vs vt) 34
  pbox : Blk wr (w.heap.size + 1) (pathCells v P) 45
  res : Blk wr (w.heap.size + 2) (docCells 0 (.slice none 0 0) (.slice none 0 0)) 34
  doc : Doc wr M vs vt f tr L
  below : Below w.heap.size w wr

section
variable {w wr w3 : World} {M : Int} {vs vt vs' v : Value} {f f' : Int → Int} {tr : List Int} {L L' : List (Int × Int)} {P : Pth}
theorem RMk.start (h : Doc w M vs vt f tr L) (v : Value) (P : Pth) : RMk w (((w.alloc (.cells (docCells M vs vt) 34)).alloc (.cells (pathCells v P) 45)).alloc (.cells (docCells 0 (.slice none 0 0) (.slice none 0 0)) 34)) M vs vt f tr L v P := by
  have e1 : ∀ o, (w.alloc o).heap.size = w.heap.size + 1 := fun o => by simp
  have e2 : ∀ o o', ((w.alloc o).alloc o').heap.size = w.heap.size + 2 := fun o o' => by simp
  refine ⟨((Blk.new w _ _).alloc _).alloc _, ?_, ?_, h.quiet (below3 w _ _ _), below3 w _ _ _⟩
  · have := (Blk.new (w.alloc (.cells (docCells M vs vt) 34)) (pathCells v P) 45).alloc (.cells (docCells 0 (.slice none 0 0) (.slice none 0 0)) 34)
    rwa [e1] at this
  · have := Blk.new ((w.alloc (.cells (docCells M vs vt) 34)).alloc (.cells (pathCells v P) 45)) (docCells 0 (.slice none 0 0) (.slice none 0 0)) 34
    rwa [e2] at this
theorem RMk.quiet (h : RMk w wr M vs vt f tr L v P) (hb : Below wr.heap.size wr w3) : RMk w w3 M vs vt f tr L v P :=
  ⟨h.mbox.below hb, h.pbox.below hb, h.res.below hb, h.doc.quiet hb, h.below.trans (hb.mono h.below.size)⟩
theorem RMk.set (h : RMk w wr M vs vt f tr L v P) (hb : Below wr.heap.size wr w3) (hd : Doc w3 M vs' vt f' tr L') : RMk w (((w3.setCell ⟨w.heap.size, 0, none⟩ (.int .i64 M)).setCell ⟨w.heap.size, 1, none⟩ vs').setCell ⟨w.heap.size, 2, none⟩ vt) M vs' vt f' tr L' v P := by
  have h3 := h.quiet hb
  exact ⟨h3.mbox.set3 _ _ _, h3.pbox.turn (turn3 _ _ _ _ _) (by omega), h3.res.turn (turn3 _ _ _ _ _) (by omega), hd.box h3.mbox (by decide) (by decide) (turn3 _ _ _ _ _), turn_below h3.below (turn3 _ _ _ _ _) (by omega) h3.below.size⟩
end

theorem markN_words {M : Int} {f : Int → Int} {S : List (Int × Int × Int)} {full : Bool} (h : ∀ j, W64 (f j)) (k : Nat) : ∀ j, W64 (markN M f S full k j) := (mark_up h k).w

end Go.Proofs.YtlpjbmlkpmhdlaaDoor
