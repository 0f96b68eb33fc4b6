/- Several texts of ours in one: Qd, Qe, Cm. -/
import Derived.Test.YtddbjbdhbeijjaaDoorGQbQtQc
import Derived.Deep.RegionHeld3
import Derived.Test.YtddbjbdhbeijjaaDoorGCjJeEr
/- Package tlb: run, great, from, Look. -/
namespace Go.Proofs.YtddbjbdhbeijjaaDoor
set_option linter.unusedVariables false
set_option linter.unusedSimpArgs false
open Go.ChangeShapes Go.WideShapes Go.ChangeAt Go.RowKit Go.Joins

abbrev hitC (h : Ht) : Array Value := #[.int .u64 h.1, .int .i64 h.2.1, .bool h.2.2.1, .bool h.2.2.2.1, .bool h.2.2.2.2.1, .bool h.2.2.2.2.2]
abbrev hitV (h : Ht) : Value := .agg (hitC h)
abbrev zHitC : Array Value := #[.int .u64 0, .int .i64 0, .bool false, .bool false, .bool false, .bool false]
def ansT (x : Option Ht) : Value := .tuple #[hitV (x.getD zH), .bool x.isSome]
theorem ans_no : ansT none = .tuple #[.agg #[.int .u64 0, .int .i64 0, .bool false, .bool false, .bool false, .bool false], .bool false] := rfl
theorem ans_yes (f lv l0 l5 : Int) (l1 l2 l3 l4 : Bool) : ansT (some (hitL (l0, l1, l2, l3, l4, l5) f lv)) = .tuple #[.agg #[.int .u64 f, .int .i64 lv, .bool l1, .bool l2, .bool l3, .bool l4], .bool true] := rfl
theorem ans_some (x0 x1 : Int) (x2 x3 x4 x5 : Bool) : ansT (some (x0, x1, x2, x3, x4, x5)) = .tuple #[.agg #[.int .u64 x0, .int .i64 x1, .bool x2, .bool x3, .bool x4, .bool x5], .bool true] := rfl

theorem runT_no {L : List Pr} {p a : Int} {l : Ln} (hl : (getK L (kyT p a 1)).getD zL = l) (h : hasG l (plT a) = false) : runT L p a = none := by unfold runT; rw [hl, h]; rfl
theorem runT_yes {L : List Pr} {p a : Int} {l : Ln} (hl : (getK L (kyT p a 1)).getD zL = l) (h : hasG l (plT a) = true) : runT L p a = some (hitL l (atG l (plT a)) 1) := by unfold runT; rw [hl, h, at_yes h]; rfl
theorem greatT_no {L : List Pr} {p a lv : Int} (h : getK L (kyT p a lv) = none) : greatT L p a lv = none := by unfold greatT; rw [h]; rfl
theorem greatT_yes {L : List Pr} {p a lv : Int} {l : Ln} (h : getK L (kyT p a lv) = some l) : greatT L p a lv = some (hitL l l.1 lv) := by unfold greatT; rw [h]; rfl

section
variable {wb w : World} {F : Nat → Prop} {o : Option Nat} {R : Nat} {L : List Pr} {bs : List BoxD} (p a : Int)
set_option maxRecDepth 100000 in
set_option maxHeartbeats 1600000 in
theorem tlbRun_any (h : TV wb F o R L w bs) (ht : Tabs w) (hp : I64 p) (ha : W64 a) :
    Calls Tryd.prog 58 #[pvO o, .int .i64 p, .int .u64 a] w fun e w' => e = .returned (ansT (runT L p a)) ∧ Below w.heap.size w w' := by
  obtain ⟨cv, hA, hC⟩ := h.cv
  have HA := Lib.hid hA
  obtain ⟨l, hl⟩ : ∃ l, (getK L (kyT p a 1)).getD zL = l := ⟨_, rfl⟩
  obtain ⟨is, his⟩ : ∃ is, (getK L (kyT p a 1)).isSome = is := ⟨_, rfl⟩
  have HOL : Hid (OkL l) := Lib.hid (hl ▸ ok_get h.ok _)
  have HNO := Lib.hid (runT_no (L := L) (p := p) (a := a) hl)
  have HYES := Lib.hid (runT_yes (L := L) (p := p) (a := a) hl)
  have HGET := Lib.hid fun w1 (hb : Below w.heap.size w w1) => (hC w1 hb).get (kyT p a 1) ⟨hp, (show I64 1 by unfold I64; omega), (w64_tagT ha (l := 1) (by decide) (by decide) : W64 (tagT a 1))⟩
  have HKEY := Lib.hid fun w1 (hb : Below w.heap.size w w1) => keyT_any p a 1 w1 (ht.kept hb).s ha (by decide) (by decide)
  have HPL := Lib.hid fun w1 (hb : Below w.heap.size w w1) => placeT_any a w1 (ht.kept hb).s ha
  have HT := Lib.hid ht
  rw [hl, his] at HGET
  unfold kyT at HGET HKEY
  have H0 := Lib.hid ((Mine.start w).new (b := w.heap.size) rfl zHitC 37)
  clear h hA hC hl his hp ha ht
  generalize tagT a 1 = t at *
  generalize plT a = i at *
  generalize adO o = ad at *
  cases hb : hasG l i
  all_goals
    have HHAS := Lib.hid fun w1 (hb : Below w.heap.size w w1) => ghas_any l i w1 (HT.out.kept hb).p HOL.out
    rw [hb] at HHAS
    first | (rw [HNO.out hb]) | (rw [HYES.out hb])
    clear hb HNO HYES
    generalize atG l i = f at *
    obtain ⟨l0, l1, l2, l3, l4, l5⟩ := l
    first | rw [ans_no] | rw [ans_yes]
    go_enter Tryd.func58, Tryd.ntmps58
    go_upto_region 1 with fail
    generalize hw0 : w.alloc _ = w0
    have H1 := Lib.hid (H0.out.world hw0)
    clear hw0 H0
    go_upto_region 2 with (first | (go_at_call 41; refine (HA.out _ H1.out.below).mono ?_; rintro e w1 ⟨rfl, rfl⟩) | (go_at_call 44; refine (HKEY.out _ H1.out.below).mono ?_; rintro e w2 ⟨rfl, hb2⟩; have H2 := Lib.hid (H1.out.quiet hb2); clear hb2 H1) | (go_at_call 65; refine (HGET.out _ H2.out.below).mono ?_; rintro e w3 ⟨rfl, hb3⟩; have H3 := Lib.hid (H2.out.quiet hb3); clear hb3 H2))
    generalize hw4 : w3.alloc _ = w4
    have H4 := Lib.hid ((H3.out.new (b := w3.heap.size) rfl #[.int .u64 l0, .bool l1, .bool l2, .bool l3, .bool l4, .int .u8 l5] 35).world hw4)
    clear hw4 H3
    generalize w3.heap.size = b4 at *
    obtain ⟨r0, r1, r2, r3, r4, r5⟩ := (H4.out.at_ 0 rfl).c6
    have J4 := Lib.hid (H4.out.quiet (Kept.drew0 w4))
    clear H4
    go_region_with (first | (go_at_call 67; refine (HPL.out _ J4.out.below).mono ?_; rintro e w5 ⟨rfl, rfl⟩) | (go_at_call 19; refine (HHAS.out _ J4.out.below).mono ?_; rintro e w6 ⟨rfl, hb6⟩; have H6 := Lib.hid (J4.out.quiet hb6); clear hb6 J4; clear r0 r1 r2 r3 r4 r5; obtain ⟨r0, r1, r2, r3, r4, r5⟩ := (H6.out.at_ 0 rfl).c6; obtain ⟨s0, s1, s2, s3, s4, s5⟩ := (H6.out.at_ 1 rfl).c6; have g0 := (H6.out.at_ 1 rfl).fz 0; have g1 := (H6.out.at_ 1 rfl).fz 1; have g2 := (H6.out.at_ 1 rfl).fz 2; have g3 := (H6.out.at_ 1 rfl).fz 3; have g4 := (H6.out.at_ 1 rfl).fz 4; have g5 := (H6.out.at_ 1 rfl).fz 5))
    all_goals
      first | go_wp2 | skip
      refine bodyPost_ret ?_ rfl ⟨rfl, ?_⟩
      · rw [results_cell_tmp rfl]; go_simp
      · exact (H6.out.put6 1 rfl rfl).below
set_option maxRecDepth 100000 in
set_option maxHeartbeats 1600000 in
theorem tlbGreat_any (h : TV wb F o R L w bs) (ht : Tabs w) (hp : I64 p) (ha : W64 a) (lv : Int) (h2 : lv = 2 ∨ lv = 3) :
    Calls Tryd.prog 59 #[pvO o, .int .i64 p, .int .u64 a, .int .i64 lv] w fun e w' => e = .returned (ansT (greatT L p a lv)) ∧ Below w.heap.size w w' := by
  obtain ⟨cv, hA, hC⟩ := h.cv
  have HA := Lib.hid hA
  have HGET := Lib.hid fun w1 (hb : Below w.heap.size w w1) => (hC w1 hb).get (kyT p a lv) ⟨hp, (show I64 lv by unfold I64; omega), (w64_tagT ha (l := lv) (by omega) (by omega) : W64 (tagT a lv))⟩
  have HKEY := Lib.hid fun w1 (hb : Below w.heap.size w w1) => keyT_any p a lv w1 (ht.kept hb).s ha (by omega) (by omega)
  have H0 := Lib.hid ((Mine.start w).new (b := w.heap.size) rfl zHitC 37)
  have HNO := Lib.hid (greatT_no (L := L) (p := p) (a := a) (lv := lv))
  have HYES := Lib.hid fun l => (greatT_yes (L := L) (p := p) (a := a) (lv := lv) (l := l))
  cases hg : getK L (kyT p a lv)
  all_goals
    rw [hg] at HGET
    first | (rw [HNO.out hg, ans_no]; obtain ⟨l0, l1, l2, l3, l4, l5, HZ⟩ : ∃ (l0 : Int) (l1 l2 l3 l4 : Bool) (l5 : Int), Hid (Option.getD none zL = (l0, l1, l2, l3, l4, l5)) := ⟨_, _, _, _, _, _, Lib.hid rfl⟩; rw [HZ.out, show Option.isSome (none : Option Ln) = false from rfl] at HGET) | (rename_i l; obtain ⟨l0, l1, l2, l3, l4, l5⟩ := l; rw [HYES.out _ hg, ans_yes]; rw [show Option.getD (some (l0, l1, l2, l3, l4, l5)) zL = (l0, l1, l2, l3, l4, l5) from rfl, show Option.isSome (some (l0, l1, l2, l3, l4, l5)) = true from rfl] at HGET)
    unfold kyT at HGET HKEY
    clear h hA hC hg hp ha ht h2 HNO HYES
    generalize tagT a lv = t at *
    generalize adO o = ad at *
    go_enter Tryd.func59, Tryd.ntmps59
    go_upto_region 1 with fail
    generalize hw0 : w.alloc _ = w0
    have H1 := Lib.hid (H0.out.world hw0)
    clear hw0 H0
    go_upto_region 2 with (first | (go_at_call 41; refine (HA.out _ H1.out.below).mono ?_; rintro e w1 ⟨rfl, rfl⟩) | (go_at_call 44; refine (HKEY.out _ H1.out.below).mono ?_; rintro e w2 ⟨rfl, hb2⟩; have H2 := Lib.hid (H1.out.quiet hb2); clear hb2 H1) | (go_at_call 65; refine (HGET.out _ H2.out.below).mono ?_; rintro e w3 ⟨rfl, hb3⟩; have H3 := Lib.hid (H2.out.quiet hb3); clear hb3 H2))
    generalize hw4 : w3.alloc _ = w4
    have H4 := Lib.hid ((H3.out.new (b := w3.heap.size) rfl #[.int .u64 l0, .bool l1, .bool l2, .bool l3, .bool l4, .int .u8 l5] 35).world hw4)
    clear hw4 H3
    generalize w3.heap.size = b4 at *
    obtain ⟨r0, r1, r2, r3, r4, r5⟩ := (H4.out.at_ 0 rfl).c6
    obtain ⟨s0, s1, s2, s3, s4, s5⟩ := (H4.out.at_ 1 rfl).c6
    have g0 := (H4.out.at_ 1 rfl).fz 0; have g1 := (H4.out.at_ 1 rfl).fz 1; have g2 := (H4.out.at_ 1 rfl).fz 2; have g3 := (H4.out.at_ 1 rfl).fz 3; have g4 := (H4.out.at_ 1 rfl).fz 4; have g5 := (H4.out.at_ 1 rfl).fz 5
    go_wp2
    refine bodyPost_ret ?_ rfl ⟨rfl, ?_⟩
    · rw [results_cell_tmp rfl]; go_simp
    · exact (H4.out.put6 1 rfl rfl).below

-- from
set_option maxRecDepth 100000 in
set_option maxHeartbeats 1600000 in
theorem tlbFrom_any (h : TV wb F o R L w bs) (ht : Tabs w) (hp : I64 p) (ha : W64 a) :
    Calls Tryd.prog 36 #[pvO o, .int .i64 1, .int .i64 p, .int .u64 a] w fun e w' => e = .returned (ansT (lookT L p a)) ∧ Below w.heap.size w w' := by
  have HR := Lib.hid fun w1 (hb : Below w.heap.size w w1) => tlbRun_any p a (h.quiet hb) (ht.kept hb) hp ha
  have HG2 := Lib.hid fun w1 (hb : Below w.heap.size w w1) => tlbGreat_any p a (h.quiet hb) (ht.kept hb) hp ha 2 (Or.inl rfl)
  have HG3 := Lib.hid fun w1 (hb : Below w.heap.size w w1) => tlbGreat_any p a (h.quiet hb) (ht.kept hb) hp ha 3 (Or.inr rfl)
  have H0 := Lib.hid ((Mine.start w).new (b := w.heap.size) rfl zHitC 37)
  clear h
  unfold lookT
  generalize runT L p a = x1 at *
  generalize greatT L p a 2 = x2 at *
  generalize greatT L p a 3 = x3 at *
  generalize adO o = ad at *
  clear ht hp ha
  cases x1 with
  | some x =>
    obtain ⟨y0, y1, y2, y3, y4, y5⟩ := x
    rw [ans_some] at HR ⊢
    clear HG2 HG3
    go_enter Tryd.func36, Tryd.ntmps36
    go_upto_region 1 with fail
    generalize hw0 : w.alloc _ = w0
    have H1 := Lib.hid (H0.out.world hw0)
    clear hw0 H0
    go_upto_region 6 with (go_at_call 58; refine (HR.out _ H1.out.below).mono ?_; rintro e w1 ⟨rfl, hb⟩; have J1 := Lib.hid (H1.out.quiet hb); clear hb H1)
    generalize hw : w1.alloc _ = v1
    have H2 := Lib.hid ((J1.out.new (b := w1.heap.size) rfl #[.int .u64 y0, .int .i64 y1, .bool y2, .bool y3, .bool y4, .bool y5] 37).world hw)
    clear hw J1
    generalize w1.heap.size = b1 at *
    obtain ⟨r0, r1, r2, r3, r4, r5⟩ := (H2.out.at_ 0 rfl).c6
    obtain ⟨s0, s1, s2, s3, s4, s5⟩ := (H2.out.at_ 1 rfl).c6
    have g0 := (H2.out.at_ 1 rfl).fz 0; have g1 := (H2.out.at_ 1 rfl).fz 1; have g2 := (H2.out.at_ 1 rfl).fz 2; have g3 := (H2.out.at_ 1 rfl).fz 3; have g4 := (H2.out.at_ 1 rfl).fz 4; have g5 := (H2.out.at_ 1 rfl).fz 5
    go_wp2
    refine bodyPost_ret ?_ rfl ⟨rfl, ?_⟩
    · rw [results_cell_tmp rfl]; go_simp
    · exact (H2.out.put6 1 rfl rfl).below
  | none =>
    rw [ans_no] at HR
    cases x2 with
    | some x =>
      obtain ⟨y0, y1, y2, y3, y4, y5⟩ := x
      rw [ans_some] at HG2 ⊢
      clear HG3
      go_enter Tryd.func36, Tryd.ntmps36
      go_upto_region 1 with fail
      generalize hw0 : w.alloc _ = w0
      have H1 := Lib.hid (H0.out.world hw0)
      clear hw0 H0
      go_upto_region 6 with (go_at_call 58; refine (HR.out _ H1.out.below).mono ?_; rintro e w1 ⟨rfl, hb⟩; have J1 := Lib.hid (H1.out.quiet hb); clear hb H1)
      generalize hw : w1.alloc _ = v1
      have H2 := Lib.hid ((J1.out.new (b := w1.heap.size) rfl #[.int .u64 0, .int .i64 0, .bool false, .bool false, .bool false, .bool false] 37).world hw)
      clear hw J1
      generalize w1.heap.size = b1 at *
      go_upto_region 9 with (go_at_call 59; refine (HG2.out _ H2.out.below).mono ?_; rintro e w2 ⟨rfl, hb⟩; have J2 := Lib.hid (H2.out.quiet hb); clear hb H2)
      generalize hw : w2.alloc _ = v2
      have H3 := Lib.hid ((J2.out.new (b := w2.heap.size) rfl #[.int .u64 y0, .int .i64 y1, .bool y2, .bool y3, .bool y4, .bool y5] 37).world hw)
      clear hw J2
      generalize w2.heap.size = b2 at *
      obtain ⟨r0, r1, r2, r3, r4, r5⟩ := (H3.out.at_ 0 rfl).c6
      obtain ⟨s0, s1, s2, s3, s4, s5⟩ := (H3.out.at_ 2 rfl).c6
      have g0 := (H3.out.at_ 2 rfl).fz 0; have g1 := (H3.out.at_ 2 rfl).fz 1; have g2 := (H3.out.at_ 2 rfl).fz 2; have g3 := (H3.out.at_ 2 rfl).fz 3; have g4 := (H3.out.at_ 2 rfl).fz 4; have g5 := (H3.out.at_ 2 rfl).fz 5
      go_wp2
      refine bodyPost_ret ?_ rfl ⟨rfl, ?_⟩
      · rw [results_cell_tmp rfl]; go_simp
      · exact (H3.out.put6 2 rfl rfl).below
    | none =>
      rw [ans_no] at HG2
      cases x3 with
      | some x =>
        obtain ⟨y0, y1, y2, y3, y4, y5⟩ := x
        rw [ans_some] at HG3 ⊢
        go_enter Tryd.func36, Tryd.ntmps36
        go_upto_region 1 with fail
        generalize hw0 : w.alloc _ = w0
        have H1 := Lib.hid (H0.out.world hw0)
        clear hw0 H0
        go_upto_region 6 with (go_at_call 58; refine (HR.out _ H1.out.below).mono ?_; rintro e w1 ⟨rfl, hb⟩; have J1 := Lib.hid (H1.out.quiet hb); clear hb H1)
        generalize hw : w1.alloc _ = v1
        have H2 := Lib.hid ((J1.out.new (b := w1.heap.size) rfl #[.int .u64 0, .int .i64 0, .bool false, .bool false, .bool false, .bool false] 37).world hw)
        clear hw J1
        generalize w1.heap.size = b1 at *
        go_upto_region 9 with (go_at_call 59; refine (HG2.out _ H2.out.below).mono ?_; rintro e w2 ⟨rfl, hb⟩; have J2 := Lib.hid (H2.out.quiet hb); clear hb H2)
        generalize hw : w2.alloc _ = v2
        have H3 := Lib.hid ((J2.out.new (b := w2.heap.size) rfl #[.int .u64 0, .int .i64 0, .bool false, .bool false, .bool false, .bool false] 37).world hw)
        clear hw J2
        generalize w2.heap.size = b2 at *
        go_upto_region 12 with (go_at_call 59; refine (HG3.out _ H3.out.below).mono ?_; rintro e w3 ⟨rfl, hb⟩; have J3 := Lib.hid (H3.out.quiet hb); clear hb H3)
        generalize hw : w3.alloc _ = v3
        have H4 := Lib.hid ((J3.out.new (b := w3.heap.size) rfl #[.int .u64 y0, .int .i64 y1, .bool y2, .bool y3, .bool y4, .bool y5] 37).world hw)
        clear hw J3
        generalize w3.heap.size = b3 at *
        obtain ⟨r0, r1, r2, r3, r4, r5⟩ := (H4.out.at_ 0 rfl).c6
        obtain ⟨s0, s1, s2, s3, s4, s5⟩ := (H4.out.at_ 3 rfl).c6
        have g0 := (H4.out.at_ 3 rfl).fz 0; have g1 := (H4.out.at_ 3 rfl).fz 1; have g2 := (H4.out.at_ 3 rfl).fz 2; have g3 := (H4.out.at_ 3 rfl).fz 3; have g4 := (H4.out.at_ 3 rfl).fz 4; have g5 := (H4.out.at_ 3 rfl).fz 5
        go_wp2
        refine bodyPost_ret ?_ rfl ⟨rfl, ?_⟩
        · rw [results_cell_tmp rfl]; go_simp
        · exact (H4.out.put6 3 rfl rfl).below
      | none =>
        rw [ans_no] at HG3 ⊢
        go_enter Tryd.func36, Tryd.ntmps36
        go_upto_region 1 with fail
        generalize hw0 : w.alloc _ = w0
        have H1 := Lib.hid (H0.out.world hw0)
        clear hw0 H0
        go_upto_region 6 with (go_at_call 58; refine (HR.out _ H1.out.below).mono ?_; rintro e w1 ⟨rfl, hb⟩; have J1 := Lib.hid (H1.out.quiet hb); clear hb H1)
        generalize hw : w1.alloc _ = v1
        have H2 := Lib.hid ((J1.out.new (b := w1.heap.size) rfl #[.int .u64 0, .int .i64 0, .bool false, .bool false, .bool false, .bool false] 37).world hw)
        clear hw J1
        generalize w1.heap.size = b1 at *
        go_upto_region 9 with (go_at_call 59; refine (HG2.out _ H2.out.below).mono ?_; rintro e w2 ⟨rfl, hb⟩; have J2 := Lib.hid (H2.out.quiet hb); clear hb H2)
        generalize hw : w2.alloc _ = v2
        have H3 := Lib.hid ((J2.out.new (b := w2.heap.size) rfl #[.int .u64 0, .int .i64 0, .bool false, .bool false, .bool false, .bool false] 37).world hw)
        clear hw J2
        generalize w2.heap.size = b2 at *
        go_upto_region 12 with (go_at_call 59; refine (HG3.out _ H3.out.below).mono ?_; rintro e w3 ⟨rfl, hb⟩; have J3 := Lib.hid (H3.out.quiet hb); clear hb H3)
        generalize hw : w3.alloc _ = v3
        have H4 := Lib.hid ((J3.out.new (b := w3.heap.size) rfl #[.int .u64 0, .int .i64 0, .bool false, .bool false, .bool false, .bool false] 37).world hw)
        clear hw J3
        generalize w3.heap.size = b3 at *
        obtain ⟨s0, s1, s2, s3, s4, s5⟩ := (H4.out.at_ 3 rfl).c6
        have g0 := (H4.out.at_ 3 rfl).fz 0; have g1 := (H4.out.at_ 3 rfl).fz 1; have g2 := (H4.out.at_ 3 rfl).fz 2; have g3 := (H4.out.at_ 3 rfl).fz 3; have g4 := (H4.out.at_ 3 rfl).fz 4; have g5 := (H4.out.at_ 3 rfl).fz 5
        go_wp2
        refine bodyPost_ret ?_ rfl ⟨rfl, ?_⟩
        · rw [results_cell_tmp rfl]; go_simp
        · exact (H4.out.put6 3 rfl rfl).below

set_option maxRecDepth 100000 in
set_option maxHeartbeats 1600000 in
theorem tlbLook_any (h : TV wb F o R L w bs) (ht : Tabs w) (hp : I64 p) (ha : W64 a) :
    Calls Tryd.prog 13 #[pvO o, .int .i64 p, .int .u64 a] w fun e w' => e = .returned (ansT (lookT L p a)) ∧ Below w.heap.size w w' := by
  have HR := Lib.hid fun w1 (hb : Below w.heap.size w w1) => tlbFrom_any p a (h.quiet hb) (ht.kept hb) hp ha
  have H0 := Lib.hid ((Mine.start w).new (b := w.heap.size) rfl zHitC 37)
  clear h ht hp ha
  obtain ⟨y0, y1, y2, y3, y4, y5, z, hz⟩ : ∃ (y0 y1 : Int) (y2 y3 y4 y5 z : Bool), ansT (lookT L p a) = .tuple #[.agg #[.int .u64 y0, .int .i64 y1, .bool y2, .bool y3, .bool y4, .bool y5], .bool z] := ⟨_, _, _, _, _, _, _, rfl⟩
  rw [hz] at HR ⊢
  clear hz
  generalize adO o = ad at *
  go_enter Tryd.func13, Tryd.ntmps13
  go_upto_region 1 with fail
  generalize hw0 : w.alloc _ = w0
  have H1 := Lib.hid (H0.out.world hw0)
  clear hw0 H0
  obtain ⟨s0, s1, s2, s3, s4, s5⟩ := (H1.out.at_ 0 rfl).c6
  go_wp2_with (go_at_call 36; refine (HR.out _ H1.out.below).mono ?_; rintro e w1 ⟨rfl, hb⟩; have H2 := Lib.hid (H1.out.quiet hb); clear hb H1 s0 s1 s2 s3 s4 s5; obtain ⟨s0, s1, s2, s3, s4, s5⟩ := (H2.out.at_ 0 rfl).c6; have g0 := (H2.out.at_ 0 rfl).fz 0; have g1 := (H2.out.at_ 0 rfl).fz 1; have g2 := (H2.out.at_ 0 rfl).fz 2; have g3 := (H2.out.at_ 0 rfl).fz 3; have g4 := (H2.out.at_ 0 rfl).fz 4; have g5 := (H2.out.at_ 0 rfl).fz 5)
  refine bodyPost_ret ?_ rfl ⟨rfl, ?_⟩
  · rw [results_cell_tmp rfl]; go_simp
  · exact (H2.out.put6 0 rfl rfl).below
end
end Go.Proofs.YtddbjbdhbeijjaaDoor
/- Package tlb: Small, Great, split, DropPage, DropOf, Clear, Evict, Len. (Laid by tools/gen_qe.py.) -/
namespace Go.Proofs.YtddbjbdhbeijjaaDoor
set_option linter.unusedVariables false
set_option linter.unusedSimpArgs false
open Go.ChangeShapes Go.WideShapes Go.ChangeAt Go.RowKit Go.Joins

set_option maxRecDepth 100000 in
theorem eqlCz (l : Ln) (w : World) : (binOp .eql 35 (lineV l) (.agg #[.int .u64 0, .bool false, .bool false, .bool false, .bool false, .int .u8 0])).run Tryd.prog w = .ok (.bool (decide (l = zL))) w := by
  obtain ⟨f1, y1, y2, y3, y4, m1⟩ := l
  have e : (binOp .eql 35 (.agg #[.int .u64 f1, .bool y1, .bool y2, .bool y3, .bool y4, .int .u8 m1]) (.agg #[.int .u64 0, .bool false, .bool false, .bool false, .bool false, .int .u8 0])).run Tryd.prog w = .ok (.bool (f1 == 0 && ((y1 == false && (y2 == false && y3 == false)) && (y4 == false && m1 == 0)))) w := by
    have hs : Tryd.prog.stoodInHeld 35 = false := by kernel_rfl
    have hs2 : Tryd.prog.stoodInHeld 33 = false := by kernel_rfl
    simp only [binOp]
    simp [Op.equal, Op.maxDepth, run_equalIn_struct w 9999 35 _ _ (by simp [Program.fieldsOf, Tryd.underlying35]) hs, Program.fieldsOf, Tryd.underlying35, Op.eqFields, go_sem]
    by_cases h1 : f1 = 0 <;> by_cases h2 : m1 = 0 <;> cases y1 <;> cases y2 <;> cases y3 <;> cases y4 <;> simp [h1, h2]
  refine e.trans ?_
  congr 2
  unfold zL
  by_cases h1 : f1 = 0 <;> by_cases h2 : m1 = 0 <;> cases y1 <;> cases y2 <;> cases y3 <;> cases y4 <;> simp [h1, h2]

section
variable {w : World} {F : Nat → Prop} {o : Option Nat} {R : Nat} {L : List Pr} (p a : Int)
set_option maxRecDepth 100000 in
set_option maxHeartbeats 3200000 in
theorem tlbSmall_any (h : TV w F o R L w []) (ht : Tabs w) (hp : I64 p) (ha : W64 a) (l : Ln) (hl : OkL l) (k : Int) (hk : I64 k) :
    Calls Tryd.prog 18 #[pvO o, .int .i64 p, .int .u64 a, lineV l, .int .i64 k] w fun e w' => e = .returned (.tuple #[]) ∧ TV w F o R (smallT R L p a l k) w' [] := by
  have HKEY := Lib.hid fun w1 (hb : Below w.heap.size w w1) => keyT_any p a 1 w1 (ht.kept hb).s ha (by decide) (by decide)
  have HOK : Hid (OkK (p, 1, tagT a 1)) := Lib.hid ⟨hp, (show I64 1 by unfold I64; omega), (w64_tagT ha (l := 1) (by decide) (by decide) : W64 (tagT a 1))⟩
  have HOL := Lib.hid hl
  have HOP := Lib.hid hk
  have H0 := Lib.hid (h.new (b := w.heap.size) rfl #[.int .u64 l.1, .bool l.2.1, .bool l.2.2.1, .bool l.2.2.2.1, .bool l.2.2.2.2.1, .int .u8 l.2.2.2.2.2] 35)
  have HB0 := Lib.hid (below_alloc1 w (.cells #[.int .u64 l.1, .bool l.2.1, .bool l.2.2.1, .bool l.2.2.2.1, .bool l.2.2.2.2.1, .int .u8 l.2.2.2.2.2] 35))
  obtain ⟨z, hz⟩ : ∃ z, (l.2.2.2.2.2 == 0) = z := ⟨_, rfl⟩
  have HE : Hid (smallT R L p a l k = if z then L else putK R L (p, 1, tagT a 1) l k) := Lib.hid (by unfold smallT kyT; subst hz; by_cases e : l.2.2.2.2.2 = 0 <;> simp [e])
  unfold kyT at HKEY
  rw [HE.out]
  clear h hp ha ht hl hk HE
  generalize tagT a 1 = t at *
  go_enter Tryd.func18, Tryd.ntmps18
  go_upto_region 1 with fail
  generalize hw0 : w.alloc _ = w0 at *
  obtain ⟨r0, r1, r2, r3, r4, r5⟩ := (H0.out.at_ 0 rfl).c6
  cases z
  · obtain ⟨cv, hA, hC⟩ := H0.out.cv
    have HA := Lib.hid hA
    have HC := Lib.hid hC
    clear hA hC
    go_upto_region 2 with fail
    go_region_with (first | (go_at_call 41; refine (HA.out _ (Kept.drew0 w0)).mono ?_; rintro e w1 ⟨rfl, rfl⟩) | (go_at_call 44; refine (HKEY.out _ HB0.out.drew).mono ?_; rintro e w2 ⟨rfl, hb2⟩; have HB2 := Lib.hid ((show Below w0.heap.size w0 w0.drew from Kept.drew0 w0).trans (hb2.mono (show w0.heap.size ≤ w0.drew.heap.size from Nat.le_refl _))); have H2 := Lib.hid (H0.out.quiet HB2.out); clear hb2 r0 r1 r2 r3 r4 r5; obtain ⟨r0, r1, r2, r3, r4, r5⟩ := (H2.out.at_ 0 rfl).c6) | (go_at_call 43; refine ((HC.out _ HB2.out).put (p, 1, t) l k HOK.out HOL.out HOP.out).mono ?_; rintro e w3 ⟨rfl, hv⟩; have H3 := Lib.hid hv; clear hv))
    all_goals
      first | go_end0 | (go_wp2; go_end0)
      exact ⟨rfl, H3.out.drop⟩
  · go_wp2
    refine bodyPost_ret (results_none rfl _ _ _) rfl ⟨rfl, H0.out.drop⟩
set_option maxRecDepth 100000 in
set_option maxHeartbeats 3200000 in
theorem tlbGreatP_no (h : TV w F o R L w []) (h0 h1 : Int) (h2 h3 h4 h5 : Bool) (k : Int) (e2 : (h1 != 2) = true) (e3 : (h1 != 3) = true) :
    Calls Tryd.prog 20 #[pvO o, .int .i64 p, .int .u64 a, .agg #[.int .u64 h0, .int .i64 h1, .bool h2, .bool h3, .bool h4, .bool h5], .int .i64 k] w fun e w' => e = .returned (.tuple #[]) ∧ TV w F o R L w' [] := by
  have H0 := Lib.hid (h.new (b := w.heap.size) rfl #[.int .u64 h0, .int .i64 h1, .bool h2, .bool h3, .bool h4, .bool h5] 37)
  clear h
  go_enter Tryd.func20, Tryd.ntmps20
  go_upto_region 1 with fail
  generalize hw0 : w.alloc _ = w0 at *
  obtain ⟨r0, r1, r2, r3, r4, r5⟩ := (H0.out.at_ 0 rfl).c6
  go_wp2
  refine bodyPost_ret (results_none rfl _ _ _) rfl ⟨rfl, H0.out.drop⟩
set_option maxRecDepth 100000 in
set_option maxHeartbeats 3200000 in
theorem tlbGreatP_yes (h : TV w F o R L w []) (ht : Tabs w) (hp : I64 p) (ha : W64 a) (h0 h1 : Int) (h2 h3 h4 h5 : Bool) (k : Int) (hk : I64 k) (h23 : h1 = 2 ∨ h1 = 3) :
    Calls Tryd.prog 20 #[pvO o, .int .i64 p, .int .u64 a, .agg #[.int .u64 h0, .int .i64 h1, .bool h2, .bool h3, .bool h4, .bool h5], .int .i64 k] w fun e w' => e = .returned (.tuple #[]) ∧ TV w F o R (putK R L (kyT p a h1) (h0, h2, h3, h4, h5, 0) k) w' [] := by
  have HKEY := Lib.hid fun w1 (hb : Below w.heap.size w w1) => keyT_any p a h1 w1 (ht.kept hb).s ha (by omega) (by omega)
  have HOK : Hid (OkK (p, h1, tagT a h1)) := Lib.hid ⟨hp, (show I64 h1 by unfold I64; omega), (w64_tagT ha (l := h1) (by omega) (by omega) : W64 (tagT a h1))⟩
  have HOP := Lib.hid hk
  have HOL : Hid (OkL (h0, h2, h3, h4, h5, 0)) := Lib.hid (show (0 : Int) ≤ 0 ∧ (0 : Int) < 256 from ⟨by decide, by decide⟩)
  have H0 := Lib.hid (h.new (b := w.heap.size) rfl #[.int .u64 h0, .int .i64 h1, .bool h2, .bool h3, .bool h4, .bool h5] 37)
  have HB0 := Lib.hid (below_alloc1 w (.cells #[.int .u64 h0, .int .i64 h1, .bool h2, .bool h3, .bool h4, .bool h5] 37))
  unfold kyT at HKEY ⊢
  clear h hp ha ht hk
  generalize tagT a h1 = t at *
  rcases h23 with rfl | rfl
  all_goals
    go_enter Tryd.func20, Tryd.ntmps20
    go_upto_region 1 with fail
    generalize hw0 : w.alloc _ = w0 at *
    obtain ⟨s0, s1, s2, s3, s4, s5⟩ := (H0.out.at_ 0 rfl).c6
    go_upto_region 3 with fail
    generalize hw4 : w0.alloc _ = w4
    have H4 := Lib.hid ((H0.out.new (b := w0.heap.size) rfl #[.int .u64 h0, .bool h2, .bool h3, .bool h4, .bool h5, .int .u8 0] 35).world hw4)
    have HB4 : Hid (Below w.heap.size w w4) := Lib.hid (by rw [← hw4]; exact HB0.out.alloc HB0.out.size (.cells #[.int .u64 h0, .bool h2, .bool h3, .bool h4, .bool h5, .int .u8 0] 35))
    clear hw4 H0 HB0 s0 s1 s2 s3 s4 s5
    generalize w0.heap.size = b4 at *
    obtain ⟨r0, r1, r2, r3, r4, r5⟩ := (H4.out.at_ 0 rfl).c6
    obtain ⟨s0, s1, s2, s3, s4, s5⟩ := (H4.out.at_ 1 rfl).c6
    obtain ⟨cv, hA, hC⟩ := H4.out.cv
    have HA := Lib.hid hA
    have HC := Lib.hid hC
    clear hA hC
    go_region_with (first | (go_at_call 41; refine (HA.out _ (Kept.drew0 w4)).mono ?_; rintro e w5 ⟨rfl, rfl⟩) | (go_at_call 44; refine (HKEY.out _ HB4.out.drew).mono ?_; rintro e w6 ⟨rfl, hb2⟩; have HB2 := Lib.hid ((show Below w4.heap.size w4 w4.drew from Kept.drew0 w4).trans (hb2.mono (show w4.heap.size ≤ w4.drew.heap.size from Nat.le_refl _))); have H2 := Lib.hid (H4.out.quiet HB2.out); clear hb2 r0 r1 r2 r3 r4 r5 s0 s1 s2 s3 s4 s5; obtain ⟨r0, r1, r2, r3, r4, r5⟩ := (H2.out.at_ 0 rfl).c6) | (go_at_call 43; refine ((HC.out _ HB2.out).put _ (h0, h2, h3, h4, h5, 0) k HOK.out HOL.out HOP.out).mono ?_; rintro e w7 ⟨rfl, hv⟩; have H3 := Lib.hid hv; clear hv))
    all_goals
      first | go_end0 | (go_wp2; go_end0)
      exact ⟨rfl, H3.out.drop⟩
theorem tlbGreatP_any (h : TV w F o R L w []) (ht : Tabs w) (hp : I64 p) (ha : W64 a) (g : Ht) (k : Int) (hk : I64 k) :
    Calls Tryd.prog 20 #[pvO o, .int .i64 p, .int .u64 a, hitV g, .int .i64 k] w fun e w' => e = .returned (.tuple #[]) ∧ TV w F o R (bigT R L p a g k) w' [] := by
  obtain ⟨h0, h1, h2, h3, h4, h5⟩ := g
  by_cases e : h1 = 2 ∨ h1 = 3
  · rw [show bigT R L p a (h0, h1, h2, h3, h4, h5) k = putK R L (kyT p a h1) (h0, h2, h3, h4, h5, 0) k from if_pos e]
    exact tlbGreatP_yes p a h ht hp ha h0 h1 h2 h3 h4 h5 k hk e
  · rw [show bigT R L p a (h0, h1, h2, h3, h4, h5) k = L from if_neg e]
    exact tlbGreatP_no p a h h0 h1 h2 h3 h4 h5 k (by simp; omega) (by simp; omega)
set_option maxRecDepth 100000 in
set_option maxHeartbeats 3200000 in
theorem tlbSplit_no (h : TV w F o R L w []) (ht : Tabs w) (hF : Off F) (hp : I64 p) (ha : W64 a) (hg : getK L (kyT p a 1) = none) :
    Calls Tryd.prog 47 #[pvO o, .int .i64 p, .int .u64 a] w fun e w' => e = .returned (.tuple #[]) ∧ TV w F o R (L) w' [] := by
  have HKEY := Lib.hid (keyT_any p a 1 w ht.s ha (by decide) (by decide))
  have HOK : Hid (OkK (p, 1, tagT a 1)) := Lib.hid ⟨hp, (show I64 1 by unfold I64; omega), (w64_tagT ha (l := 1) (by decide) (by decide) : W64 (tagT a 1))⟩
  have HG : Hid ((getK L (p, 1, tagT a 1)).getD zL = (0, false, false, false, false, 0)) := Lib.hid (by unfold kyT at hg; rw [hg]; rfl)
  have HI : Hid ((getK L (p, 1, tagT a 1)).isSome = false) := Lib.hid (by unfold kyT at hg; rw [hg]; rfl)
  have HT := Lib.hid ht
  have HF := Lib.hid hF
  have H0 := Lib.hid h
  unfold kyT at HKEY
  clear h hp ha ht hF hg
  generalize tagT a 1 = t at *
  go_enter Tryd.func47, Tryd.ntmps47
  go_upto_region 1 with (go_at_call 44; refine HKEY.out.mono ?_; rintro e w1 ⟨rfl, hb⟩; have H1 := Lib.hid (H0.out.quiet hb); clear hb H0)
  generalize hw2 : w1.alloc _ = w2
  have H2 := Lib.hid ((H1.out.new (b := w1.heap.size) rfl #[.int .i64 p, .int .i64 1, .int .u64 t] 88).world hw2)
  clear hw2 H1
  generalize w1.heap.size = bk at *
  go_cut [7, 8] from 12 (fun s7 s8 w9 => ∃ bl : Nat, s7 = .pointer (some ⟨bl, 0, none⟩) ∧ s8 = .bool false ∧ Hid (TV w F o R L w9 [⟨bl, #[.int .u64 0, .bool false, .bool false, .bool false, .bool false, .int .u8 0], 35⟩, ⟨bk, #[.int .i64 p, .int .i64 1, .int .u64 t], 88⟩]))
  case first =>
    have H3 := Lib.hid (H2.out.quiet (Kept.drew0 w2))
    clear H2
    refine wp_region_held_drew (S := fun w' => TV w F o R L w' [⟨bk, #[.int .i64 p, .int .i64 1, .int .u64 t], 88⟩]) (by kernel_rfl) H3.out (fun hHeld => ?_)
    generalize w2.drew = wc at *
    obtain ⟨w3, hw3⟩ : ∃ w3, w3 = wc := ⟨_, rfl⟩
    obtain ⟨cv, hA, hC⟩ := H3.out.cv
    have HA := Lib.hid hA
    have HC := Lib.hid hC
    have D3 : Hid (Below wc.heap.size wc wc) := Lib.hid (Below.refl _ _)
    clear hA hC hw3
    refine tk (v := ?_) 0 ?_ ?_
    rotate_left
    · intro w hSw
      go_simp
      (try with_reducible rfl)
    (try simp only [Act.put, List.setIfInBounds_toArray, List.set_cons_zero, List.set_cons_succ])
    refine tk (v := ?_) 2 ?_ ?_
    rotate_left
    · intro w hSw
      obtain ⟨c0, c1, c2⟩ := (hSw.at_ 0 rfl).c3
      go_simp
      (try with_reducible rfl)
    (try simp only [Act.put, List.setIfInBounds_toArray, List.set_cons_zero, List.set_cons_succ])
    refine wpAnyH_ready (rs := [1, 7]) (by kernel_rfl) (by simp) ?_
    refine anyH_one rfl (fun K hK => ?_) ?_
    · go_simp
      refine (HA.out _ D3.out).mono ?_
      rintro e _ ⟨rfl, rfl⟩
      refine hK.out _ _ (H3.out.pick [0]) (fun hHeld => ?_)
      clear hK K
      (try simp only [Act.put, List.setIfInBounds_toArray, List.set_cons_zero, List.set_cons_succ])
      refine wpAnyH_ready (rs := [3, 7]) (by kernel_rfl) (by simp) ?_
      refine anyH_one rfl (fun K hK => ?_) ?_
      · go_simp
        refine ((HC.out _ D3.out).get (p, 1, t) HOK.out).mono ?_
        rw [HG.out, HI.out]
        rintro e w4 ⟨rfl, hb⟩
        have H4 := Lib.hid (H3.out.quiet hb)
        have D4 := Lib.hid (D3.out.trans (hb.mono D3.out.size))
        clear hb H3 D3
        refine hK.out _ _ (H4.out.pick [0]) (fun hHeld => ?_)
        clear hK K
        (try simp only [Act.put, List.setIfInBounds_toArray, List.set_cons_zero, List.set_cons_succ])
        refine tk (v := ?_) 4 ?_ ?_
        rotate_left
        · intro w hSw
          go_simp
          (try with_reducible rfl)
        (try simp only [Act.put, List.setIfInBounds_toArray, List.set_cons_zero, List.set_cons_succ])
        refine tk (v := ?_) 5 ?_ ?_
        rotate_left
        · intro w hSw
          go_simp
          (try with_reducible rfl)
        (try simp only [Act.put, List.setIfInBounds_toArray, List.set_cons_zero, List.set_cons_succ])
        refine tk (v := ?_) 6 ?_ ?_
        rotate_left
        · intro w hSw
          go_simp
          (try with_reducible rfl)
        (try simp only [Act.put, List.setIfInBounds_toArray, List.set_cons_zero, List.set_cons_succ])
        refine wpAnyH_ready (rs := [7]) (by kernel_rfl) (by simp) ?_
        refine anyH_one rfl (fun K hK => ?_) ?_
        · go_simp
          generalize hq9 : w4.alloc _ = w5
          have H5 := Lib.hid ((H4.out.new (b := w4.heap.size) rfl #[.int .u64 0, .bool false, .bool false, .bool false, .bool false, .int .u8 0] 35).world hq9)
          have D5 : Hid (Below wc.heap.size wc w5) := Lib.hid (by rw [← hq9]; exact D4.out.alloc D4.out.size _)
          clear hq9 H4 D4
          generalize w4.heap.size = bl at H5 ⊢
          refine hK.out _ _ (H5.out.pick [1]) (fun hHeld => ?_)
          clear hK K
          (try simp only [Act.put, List.setIfInBounds_toArray, List.set_cons_zero, List.set_cons_succ])
          refine wpAnyH_ready (rs := [8]) (by kernel_rfl) (by simp) ?_
          refine anyH_one rfl (fun K hK => ?_) ?_
          · obtain ⟨r0, r1, r2, r3, r4, r5⟩ := (H5.out.at_ 0 rfl).c6
            have g0 := (H5.out.at_ 0 rfl).fz 0; have g1 := (H5.out.at_ 0 rfl).fz 1; have g2 := (H5.out.at_ 0 rfl).fz 2; have g3 := (H5.out.at_ 0 rfl).fz 3; have g4 := (H5.out.at_ 0 rfl).fz 4; have g5 := (H5.out.at_ 0 rfl).fz 5
            go_simp
            generalize hq9 : (((((w5.setCell _ _).setCell _ _).setCell _ _).setCell _ _).setCell _ _).setCell _ _ = w6
            have H6 := Lib.hid ((H5.out.put 0 rfl (turnB6 _ _ _ _ _ _ _ _) (setB6 (H5.out.at_ 0 rfl) _ _ _ _ _ _)).world hq9)
            clear D5 hq9 H5 r0 r1 r2 r3 r4 r5 g0 g1 g2 g3 g4 g5
            refine hK.out _ _ (H6.out.pick [1]) (fun hHeld => ?_)
            clear hK K
            (try simp only [Act.put, List.setIfInBounds_toArray, List.set_cons_zero, List.set_cons_succ])
            refine tk (v := ?_) 9 ?_ ?_
            rotate_left
            · intro w hSw
              go_simp
              (try with_reducible rfl)
            (try simp only [Act.put, List.setIfInBounds_toArray, List.set_cons_zero, List.set_cons_succ])
            refine wpAnyH_done (by kernel_rfl) ?_ _
            clear hHeld HA HC
            go_wp2
            go_meet
            case rel => exact ⟨bl, rfl, rfl, H6⟩
          exact AllReadyH.nil
        exact AllReadyH.nil
      refine anyH_one rfl (fun K hK => ?_) ?_
      · go_simp
        generalize hq9 : wc.alloc _ = w4
        have H4 := Lib.hid ((H3.out.new (b := wc.heap.size) rfl #[.int .u64 0, .bool false, .bool false, .bool false, .bool false, .int .u8 0] 35).world hq9)
        have D4 : Hid (Below wc.heap.size wc w4) := Lib.hid (by rw [← hq9]; exact D3.out.alloc D3.out.size _)
        clear hq9 H3 D3
        generalize wc.heap.size = bl at H4 ⊢
        refine hK.out _ _ (H4.out.pick [1]) (fun hHeld => ?_)
        clear hK K
        (try simp only [Act.put, List.setIfInBounds_toArray, List.set_cons_zero, List.set_cons_succ])
        refine wpAnyH_ready (rs := [3]) (by kernel_rfl) (by simp) ?_
        refine anyH_one rfl (fun K hK => ?_) ?_
        · go_simp
          refine ((HC.out _ D4.out).get (p, 1, t) HOK.out).mono ?_
          rw [HG.out, HI.out]
          rintro e w5 ⟨rfl, hb⟩
          have H5 := Lib.hid (H4.out.quiet hb)
          have D5 := Lib.hid (D4.out.trans (hb.mono D4.out.size))
          clear hb H4 D4
          refine hK.out _ _ (H5.out.pick [1]) (fun hHeld => ?_)
          clear hK K
          (try simp only [Act.put, List.setIfInBounds_toArray, List.set_cons_zero, List.set_cons_succ])
          refine tk (v := ?_) 4 ?_ ?_
          rotate_left
          · intro w hSw
            go_simp
            (try with_reducible rfl)
          (try simp only [Act.put, List.setIfInBounds_toArray, List.set_cons_zero, List.set_cons_succ])
          refine tk (v := ?_) 5 ?_ ?_
          rotate_left
          · intro w hSw
            go_simp
            (try with_reducible rfl)
          (try simp only [Act.put, List.setIfInBounds_toArray, List.set_cons_zero, List.set_cons_succ])
          refine tk (v := ?_) 6 ?_ ?_
          rotate_left
          · intro w hSw
            go_simp
            (try with_reducible rfl)
          (try simp only [Act.put, List.setIfInBounds_toArray, List.set_cons_zero, List.set_cons_succ])
          refine wpAnyH_ready (rs := [8]) (by kernel_rfl) (by simp) ?_
          refine anyH_one rfl (fun K hK => ?_) ?_
          · obtain ⟨r0, r1, r2, r3, r4, r5⟩ := (H5.out.at_ 0 rfl).c6
            have g0 := (H5.out.at_ 0 rfl).fz 0; have g1 := (H5.out.at_ 0 rfl).fz 1; have g2 := (H5.out.at_ 0 rfl).fz 2; have g3 := (H5.out.at_ 0 rfl).fz 3; have g4 := (H5.out.at_ 0 rfl).fz 4; have g5 := (H5.out.at_ 0 rfl).fz 5
            go_simp
            generalize hq9 : (((((w5.setCell _ _).setCell _ _).setCell _ _).setCell _ _).setCell _ _).setCell _ _ = w6
            have H6 := Lib.hid ((H5.out.put 0 rfl (turnB6 _ _ _ _ _ _ _ _) (setB6 (H5.out.at_ 0 rfl) _ _ _ _ _ _)).world hq9)
            clear D5 hq9 H5 r0 r1 r2 r3 r4 r5 g0 g1 g2 g3 g4 g5
            refine hK.out _ _ (H6.out.pick [1]) (fun hHeld => ?_)
            clear hK K
            (try simp only [Act.put, List.setIfInBounds_toArray, List.set_cons_zero, List.set_cons_succ])
            refine tk (v := ?_) 9 ?_ ?_
            rotate_left
            · intro w hSw
              go_simp
              (try with_reducible rfl)
            (try simp only [Act.put, List.setIfInBounds_toArray, List.set_cons_zero, List.set_cons_succ])
            refine wpAnyH_done (by kernel_rfl) ?_ _
            clear hHeld HA HC
            go_wp2
            go_meet
            case rel => exact ⟨bl, rfl, rfl, H6⟩
          exact AllReadyH.nil
        exact AllReadyH.nil
      exact AllReadyH.nil
    refine anyH_one rfl (fun K hK => ?_) ?_
    · go_simp
      generalize hq9 : wc.alloc _ = w4
      have H4 := Lib.hid ((H3.out.new (b := wc.heap.size) rfl #[.int .u64 0, .bool false, .bool false, .bool false, .bool false, .int .u8 0] 35).world hq9)
      have D4 : Hid (Below wc.heap.size wc w4) := Lib.hid (by rw [← hq9]; exact D3.out.alloc D3.out.size _)
      clear hq9 H3 D3
      generalize wc.heap.size = bl at H4 ⊢
      refine hK.out _ _ (H4.out.pick [1]) (fun hHeld => ?_)
      clear hK K
      (try simp only [Act.put, List.setIfInBounds_toArray, List.set_cons_zero, List.set_cons_succ])
      refine wpAnyH_ready (rs := [1]) (by kernel_rfl) (by simp) ?_
      refine anyH_one rfl (fun K hK => ?_) ?_
      · go_simp
        refine (HA.out _ D4.out).mono ?_
        rintro e _ ⟨rfl, rfl⟩
        refine hK.out _ _ (H4.out.pick [1]) (fun hHeld => ?_)
        clear hK K
        (try simp only [Act.put, List.setIfInBounds_toArray, List.set_cons_zero, List.set_cons_succ])
        refine wpAnyH_ready (rs := [3]) (by kernel_rfl) (by simp) ?_
        refine anyH_one rfl (fun K hK => ?_) ?_
        · go_simp
          refine ((HC.out _ D4.out).get (p, 1, t) HOK.out).mono ?_
          rw [HG.out, HI.out]
          rintro e w5 ⟨rfl, hb⟩
          have H5 := Lib.hid (H4.out.quiet hb)
          have D5 := Lib.hid (D4.out.trans (hb.mono D4.out.size))
          clear hb H4 D4
          refine hK.out _ _ (H5.out.pick [1]) (fun hHeld => ?_)
          clear hK K
          (try simp only [Act.put, List.setIfInBounds_toArray, List.set_cons_zero, List.set_cons_succ])
          refine tk (v := ?_) 4 ?_ ?_
          rotate_left
          · intro w hSw
            go_simp
            (try with_reducible rfl)
          (try simp only [Act.put, List.setIfInBounds_toArray, List.set_cons_zero, List.set_cons_succ])
          refine tk (v := ?_) 5 ?_ ?_
          rotate_left
          · intro w hSw
            go_simp
            (try with_reducible rfl)
          (try simp only [Act.put, List.setIfInBounds_toArray, List.set_cons_zero, List.set_cons_succ])
          refine tk (v := ?_) 6 ?_ ?_
          rotate_left
          · intro w hSw
            go_simp
            (try with_reducible rfl)
          (try simp only [Act.put, List.setIfInBounds_toArray, List.set_cons_zero, List.set_cons_succ])
          refine wpAnyH_ready (rs := [8]) (by kernel_rfl) (by simp) ?_
          refine anyH_one rfl (fun K hK => ?_) ?_
          · obtain ⟨r0, r1, r2, r3, r4, r5⟩ := (H5.out.at_ 0 rfl).c6
            have g0 := (H5.out.at_ 0 rfl).fz 0; have g1 := (H5.out.at_ 0 rfl).fz 1; have g2 := (H5.out.at_ 0 rfl).fz 2; have g3 := (H5.out.at_ 0 rfl).fz 3; have g4 := (H5.out.at_ 0 rfl).fz 4; have g5 := (H5.out.at_ 0 rfl).fz 5
            go_simp
            generalize hq9 : (((((w5.setCell _ _).setCell _ _).setCell _ _).setCell _ _).setCell _ _).setCell _ _ = w6
            have H6 := Lib.hid ((H5.out.put 0 rfl (turnB6 _ _ _ _ _ _ _ _) (setB6 (H5.out.at_ 0 rfl) _ _ _ _ _ _)).world hq9)
            clear D5 hq9 H5 r0 r1 r2 r3 r4 r5 g0 g1 g2 g3 g4 g5
            refine hK.out _ _ (H6.out.pick [1]) (fun hHeld => ?_)
            clear hK K
            (try simp only [Act.put, List.setIfInBounds_toArray, List.set_cons_zero, List.set_cons_succ])
            refine tk (v := ?_) 9 ?_ ?_
            rotate_left
            · intro w hSw
              go_simp
              (try with_reducible rfl)
            (try simp only [Act.put, List.setIfInBounds_toArray, List.set_cons_zero, List.set_cons_succ])
            refine wpAnyH_done (by kernel_rfl) ?_ _
            clear hHeld HA HC
            go_wp2
            go_meet
            case rel => exact ⟨bl, rfl, rfl, H6⟩
          exact AllReadyH.nil
        exact AllReadyH.nil
      exact AllReadyH.nil
    exact AllReadyH.nil
  case rest =>
    obtain ⟨bl, rfl, rfl, H20⟩ := hcut
    clear H2
    generalize wc = w20 at *
    obtain ⟨q0, q1, q2, q3, q4, q5⟩ := (H20.out.at_ 0 rfl).c6
    go_wp2
    refine bodyPost_ret (results_none rfl _ _ _) rfl ⟨rfl, H20.out.drop⟩
set_option maxRecDepth 100000 in
set_option maxHeartbeats 3200000 in
theorem tlbSplit_zero (h : TV w F o R L w []) (ht : Tabs w) (hF : Off F) (hp : I64 p) (ha : W64 a) (l0 l5 : Int) (l1 l2 l3 l4 : Bool) (hg : getK L (kyT p a 1) = some (l0, l1, l2, l3, l4, l5)) (m0 m5 : Int) (m1 m2 m3 m4 : Bool) (hm : wthG (l0, l1, l2, l3, l4, l5) (plT a) = (m0, m1, m2, m3, m4, m5)) (hz : decide ((m0, m1, m2, m3, m4, m5) = zL) = true) :
    Calls Tryd.prog 47 #[pvO o, .int .i64 p, .int .u64 a] w fun e w' => e = .returned (.tuple #[]) ∧ TV w F o R (dropK L (p, 1, tagT a 1)) w' [] := by
  have HKEY := Lib.hid (keyT_any p a 1 w ht.s ha (by decide) (by decide))
  have HOK : Hid (OkK (p, 1, tagT a 1)) := Lib.hid ⟨hp, (show I64 1 by unfold I64; omega), (w64_tagT ha (l := 1) (by decide) (by decide) : W64 (tagT a 1))⟩
  have HG : Hid ((getK L (p, 1, tagT a 1)).getD zL = (l0, l1, l2, l3, l4, l5)) := Lib.hid (by unfold kyT at hg; rw [hg]; rfl)
  have HI : Hid ((getK L (p, 1, tagT a 1)).isSome = true) := Lib.hid (by unfold kyT at hg; rw [hg]; rfl)
  have HOL : Hid (OkL (l0, l1, l2, l3, l4, l5)) := Lib.hid (ok_some h.ok hg)
  have HOM : Hid (OkL (m0, m1, m2, m3, m4, m5)) := Lib.hid (by rw [← hm]; exact ok_wth HOL.out _)
  have HPL := Lib.hid fun w1 (ht : Tabs w1) => placeT_any a w1 ht.s ha
  have HW := Lib.hid fun w1 (ht : Tabs w1) => gwith_any (l0, l1, l2, l3, l4, l5) (plT a) w1 ht.p HOL.out
  rw [hm] at HW
  have hq := fun w => (eqlCz (m0, m1, m2, m3, m4, m5) w).trans (by rw [hz])
  generalize plT a = i at *
  have HT := Lib.hid ht
  have HF := Lib.hid hF
  have H0 := Lib.hid h
  unfold kyT at HKEY
  clear h hp ha ht hF hg hm hz
  generalize tagT a 1 = t at *
  go_enter Tryd.func47, Tryd.ntmps47
  go_upto_region 1 with (go_at_call 44; refine HKEY.out.mono ?_; rintro e w1 ⟨rfl, hb⟩; have H1 := Lib.hid (H0.out.quiet hb); clear hb H0)
  generalize hw2 : w1.alloc _ = w2
  have H2 := Lib.hid ((H1.out.new (b := w1.heap.size) rfl #[.int .i64 p, .int .i64 1, .int .u64 t] 88).world hw2)
  clear hw2 H1
  generalize w1.heap.size = bk at *
  go_cut [7, 8] from 12 (fun s7 s8 w9 => ∃ bl : Nat, s7 = .pointer (some ⟨bl, 0, none⟩) ∧ s8 = .bool true ∧ Hid (TV w F o R L w9 [⟨bl, #[.int .u64 l0, .bool l1, .bool l2, .bool l3, .bool l4, .int .u8 l5], 35⟩, ⟨bk, #[.int .i64 p, .int .i64 1, .int .u64 t], 88⟩]))
  case first =>
    have H3 := Lib.hid (H2.out.quiet (Kept.drew0 w2))
    clear H2
    refine wp_region_held_drew (S := fun w' => TV w F o R L w' [⟨bk, #[.int .i64 p, .int .i64 1, .int .u64 t], 88⟩]) (by kernel_rfl) H3.out (fun hHeld => ?_)
    generalize w2.drew = wc at *
    obtain ⟨w3, hw3⟩ : ∃ w3, w3 = wc := ⟨_, rfl⟩
    obtain ⟨cv, hA, hC⟩ := H3.out.cv
    have HA := Lib.hid hA
    have HC := Lib.hid hC
    have D3 : Hid (Below wc.heap.size wc wc) := Lib.hid (Below.refl _ _)
    clear hA hC hw3
    refine tk (v := ?_) 0 ?_ ?_
    rotate_left
    · intro w hSw
      go_simp
      (try with_reducible rfl)
    (try simp only [Act.put, List.setIfInBounds_toArray, List.set_cons_zero, List.set_cons_succ])
    refine tk (v := ?_) 2 ?_ ?_
    rotate_left
    · intro w hSw
      obtain ⟨c0, c1, c2⟩ := (hSw.at_ 0 rfl).c3
      go_simp
      (try with_reducible rfl)
    (try simp only [Act.put, List.setIfInBounds_toArray, List.set_cons_zero, List.set_cons_succ])
    refine wpAnyH_ready (rs := [1, 7]) (by kernel_rfl) (by simp) ?_
    refine anyH_one rfl (fun K hK => ?_) ?_
    · go_simp
      refine (HA.out _ D3.out).mono ?_
      rintro e _ ⟨rfl, rfl⟩
      refine hK.out _ _ (H3.out.pick [0]) (fun hHeld => ?_)
      clear hK K
      (try simp only [Act.put, List.setIfInBounds_toArray, List.set_cons_zero, List.set_cons_succ])
      refine wpAnyH_ready (rs := [3, 7]) (by kernel_rfl) (by simp) ?_
      refine anyH_one rfl (fun K hK => ?_) ?_
      · go_simp
        refine ((HC.out _ D3.out).get (p, 1, t) HOK.out).mono ?_
        rw [HG.out, HI.out]
        rintro e w4 ⟨rfl, hb⟩
        have H4 := Lib.hid (H3.out.quiet hb)
        have D4 := Lib.hid (D3.out.trans (hb.mono D3.out.size))
        clear hb H3 D3
        refine hK.out _ _ (H4.out.pick [0]) (fun hHeld => ?_)
        clear hK K
        (try simp only [Act.put, List.setIfInBounds_toArray, List.set_cons_zero, List.set_cons_succ])
        refine tk (v := ?_) 4 ?_ ?_
        rotate_left
        · intro w hSw
          go_simp
          (try with_reducible rfl)
        (try simp only [Act.put, List.setIfInBounds_toArray, List.set_cons_zero, List.set_cons_succ])
        refine tk (v := ?_) 5 ?_ ?_
        rotate_left
        · intro w hSw
          go_simp
          (try with_reducible rfl)
        (try simp only [Act.put, List.setIfInBounds_toArray, List.set_cons_zero, List.set_cons_succ])
        refine tk (v := ?_) 6 ?_ ?_
        rotate_left
        · intro w hSw
          go_simp
          (try with_reducible rfl)
        (try simp only [Act.put, List.setIfInBounds_toArray, List.set_cons_zero, List.set_cons_succ])
        refine wpAnyH_ready (rs := [7]) (by kernel_rfl) (by simp) ?_
        refine anyH_one rfl (fun K hK => ?_) ?_
        · go_simp
          generalize hq9 : w4.alloc _ = w5
          have H5 := Lib.hid ((H4.out.new (b := w4.heap.size) rfl #[.int .u64 0, .bool false, .bool false, .bool false, .bool false, .int .u8 0] 35).world hq9)
          have D5 : Hid (Below wc.heap.size wc w5) := Lib.hid (by rw [← hq9]; exact D4.out.alloc D4.out.size _)
          clear hq9 H4 D4
          generalize w4.heap.size = bl at H5 ⊢
          refine hK.out _ _ (H5.out.pick [1]) (fun hHeld => ?_)
          clear hK K
          (try simp only [Act.put, List.setIfInBounds_toArray, List.set_cons_zero, List.set_cons_succ])
          refine wpAnyH_ready (rs := [8]) (by kernel_rfl) (by simp) ?_
          refine anyH_one rfl (fun K hK => ?_) ?_
          · obtain ⟨r0, r1, r2, r3, r4, r5⟩ := (H5.out.at_ 0 rfl).c6
            have g0 := (H5.out.at_ 0 rfl).fz 0; have g1 := (H5.out.at_ 0 rfl).fz 1; have g2 := (H5.out.at_ 0 rfl).fz 2; have g3 := (H5.out.at_ 0 rfl).fz 3; have g4 := (H5.out.at_ 0 rfl).fz 4; have g5 := (H5.out.at_ 0 rfl).fz 5
            go_simp
            generalize hq9 : (((((w5.setCell _ _).setCell _ _).setCell _ _).setCell _ _).setCell _ _).setCell _ _ = w6
            have H6 := Lib.hid ((H5.out.put 0 rfl (turnB6 _ _ _ _ _ _ _ _) (setB6 (H5.out.at_ 0 rfl) _ _ _ _ _ _)).world hq9)
            clear D5 hq9 H5 r0 r1 r2 r3 r4 r5 g0 g1 g2 g3 g4 g5
            refine hK.out _ _ (H6.out.pick [1]) (fun hHeld => ?_)
            clear hK K
            (try simp only [Act.put, List.setIfInBounds_toArray, List.set_cons_zero, List.set_cons_succ])
            refine tk (v := ?_) 9 ?_ ?_
            rotate_left
            · intro w hSw
              go_simp
              (try with_reducible rfl)
            (try simp only [Act.put, List.setIfInBounds_toArray, List.set_cons_zero, List.set_cons_succ])
            refine wpAnyH_done (by kernel_rfl) ?_ _
            clear hHeld HA HC
            go_wp2
            go_meet
            case rel => exact ⟨bl, rfl, rfl, H6⟩
          exact AllReadyH.nil
        exact AllReadyH.nil
      refine anyH_one rfl (fun K hK => ?_) ?_
      · go_simp
        generalize hq9 : wc.alloc _ = w4
        have H4 := Lib.hid ((H3.out.new (b := wc.heap.size) rfl #[.int .u64 0, .bool false, .bool false, .bool false, .bool false, .int .u8 0] 35).world hq9)
        have D4 : Hid (Below wc.heap.size wc w4) := Lib.hid (by rw [← hq9]; exact D3.out.alloc D3.out.size _)
        clear hq9 H3 D3
        generalize wc.heap.size = bl at H4 ⊢
        refine hK.out _ _ (H4.out.pick [1]) (fun hHeld => ?_)
        clear hK K
        (try simp only [Act.put, List.setIfInBounds_toArray, List.set_cons_zero, List.set_cons_succ])
        refine wpAnyH_ready (rs := [3]) (by kernel_rfl) (by simp) ?_
        refine anyH_one rfl (fun K hK => ?_) ?_
        · go_simp
          refine ((HC.out _ D4.out).get (p, 1, t) HOK.out).mono ?_
          rw [HG.out, HI.out]
          rintro e w5 ⟨rfl, hb⟩
          have H5 := Lib.hid (H4.out.quiet hb)
          have D5 := Lib.hid (D4.out.trans (hb.mono D4.out.size))
          clear hb H4 D4
          refine hK.out _ _ (H5.out.pick [1]) (fun hHeld => ?_)
          clear hK K
          (try simp only [Act.put, List.setIfInBounds_toArray, List.set_cons_zero, List.set_cons_succ])
          refine tk (v := ?_) 4 ?_ ?_
          rotate_left
          · intro w hSw
            go_simp
            (try with_reducible rfl)
          (try simp only [Act.put, List.setIfInBounds_toArray, List.set_cons_zero, List.set_cons_succ])
          refine tk (v := ?_) 5 ?_ ?_
          rotate_left
          · intro w hSw
            go_simp
            (try with_reducible rfl)
          (try simp only [Act.put, List.setIfInBounds_toArray, List.set_cons_zero, List.set_cons_succ])
          refine tk (v := ?_) 6 ?_ ?_
          rotate_left
          · intro w hSw
            go_simp
            (try with_reducible rfl)
          (try simp only [Act.put, List.setIfInBounds_toArray, List.set_cons_zero, List.set_cons_succ])
          refine wpAnyH_ready (rs := [8]) (by kernel_rfl) (by simp) ?_
          refine anyH_one rfl (fun K hK => ?_) ?_
          · obtain ⟨r0, r1, r2, r3, r4, r5⟩ := (H5.out.at_ 0 rfl).c6
            have g0 := (H5.out.at_ 0 rfl).fz 0; have g1 := (H5.out.at_ 0 rfl).fz 1; have g2 := (H5.out.at_ 0 rfl).fz 2; have g3 := (H5.out.at_ 0 rfl).fz 3; have g4 := (H5.out.at_ 0 rfl).fz 4; have g5 := (H5.out.at_ 0 rfl).fz 5
            go_simp
            generalize hq9 : (((((w5.setCell _ _).setCell _ _).setCell _ _).setCell _ _).setCell _ _).setCell _ _ = w6
            have H6 := Lib.hid ((H5.out.put 0 rfl (turnB6 _ _ _ _ _ _ _ _) (setB6 (H5.out.at_ 0 rfl) _ _ _ _ _ _)).world hq9)
            clear D5 hq9 H5 r0 r1 r2 r3 r4 r5 g0 g1 g2 g3 g4 g5
            refine hK.out _ _ (H6.out.pick [1]) (fun hHeld => ?_)
            clear hK K
            (try simp only [Act.put, List.setIfInBounds_toArray, List.set_cons_zero, List.set_cons_succ])
            refine tk (v := ?_) 9 ?_ ?_
            rotate_left
            · intro w hSw
              go_simp
              (try with_reducible rfl)
            (try simp only [Act.put, List.setIfInBounds_toArray, List.set_cons_zero, List.set_cons_succ])
            refine wpAnyH_done (by kernel_rfl) ?_ _
            clear hHeld HA HC
            go_wp2
            go_meet
            case rel => exact ⟨bl, rfl, rfl, H6⟩
          exact AllReadyH.nil
        exact AllReadyH.nil
      exact AllReadyH.nil
    refine anyH_one rfl (fun K hK => ?_) ?_
    · go_simp
      generalize hq9 : wc.alloc _ = w4
      have H4 := Lib.hid ((H3.out.new (b := wc.heap.size) rfl #[.int .u64 0, .bool false, .bool false, .bool false, .bool false, .int .u8 0] 35).world hq9)
      have D4 : Hid (Below wc.heap.size wc w4) := Lib.hid (by rw [← hq9]; exact D3.out.alloc D3.out.size _)
      clear hq9 H3 D3
      generalize wc.heap.size = bl at H4 ⊢
      refine hK.out _ _ (H4.out.pick [1]) (fun hHeld => ?_)
      clear hK K
      (try simp only [Act.put, List.setIfInBounds_toArray, List.set_cons_zero, List.set_cons_succ])
      refine wpAnyH_ready (rs := [1]) (by kernel_rfl) (by simp) ?_
      refine anyH_one rfl (fun K hK => ?_) ?_
      · go_simp
        refine (HA.out _ D4.out).mono ?_
        rintro e _ ⟨rfl, rfl⟩
        refine hK.out _ _ (H4.out.pick [1]) (fun hHeld => ?_)
        clear hK K
        (try simp only [Act.put, List.setIfInBounds_toArray, List.set_cons_zero, List.set_cons_succ])
        refine wpAnyH_ready (rs := [3]) (by kernel_rfl) (by simp) ?_
        refine anyH_one rfl (fun K hK => ?_) ?_
        · go_simp
          refine ((HC.out _ D4.out).get (p, 1, t) HOK.out).mono ?_
          rw [HG.out, HI.out]
          rintro e w5 ⟨rfl, hb⟩
          have H5 := Lib.hid (H4.out.quiet hb)
          have D5 := Lib.hid (D4.out.trans (hb.mono D4.out.size))
          clear hb H4 D4
          refine hK.out _ _ (H5.out.pick [1]) (fun hHeld => ?_)
          clear hK K
          (try simp only [Act.put, List.setIfInBounds_toArray, List.set_cons_zero, List.set_cons_succ])
          refine tk (v := ?_) 4 ?_ ?_
          rotate_left
          · intro w hSw
            go_simp
            (try with_reducible rfl)
          (try simp only [Act.put, List.setIfInBounds_toArray, List.set_cons_zero, List.set_cons_succ])
          refine tk (v := ?_) 5 ?_ ?_
          rotate_left
          · intro w hSw
            go_simp
            (try with_reducible rfl)
          (try simp only [Act.put, List.setIfInBounds_toArray, List.set_cons_zero, List.set_cons_succ])
          refine tk (v := ?_) 6 ?_ ?_
          rotate_left
          · intro w hSw
            go_simp
            (try with_reducible rfl)
          (try simp only [Act.put, List.setIfInBounds_toArray, List.set_cons_zero, List.set_cons_succ])
          refine wpAnyH_ready (rs := [8]) (by kernel_rfl) (by simp) ?_
          refine anyH_one rfl (fun K hK => ?_) ?_
          · obtain ⟨r0, r1, r2, r3, r4, r5⟩ := (H5.out.at_ 0 rfl).c6
            have g0 := (H5.out.at_ 0 rfl).fz 0; have g1 := (H5.out.at_ 0 rfl).fz 1; have g2 := (H5.out.at_ 0 rfl).fz 2; have g3 := (H5.out.at_ 0 rfl).fz 3; have g4 := (H5.out.at_ 0 rfl).fz 4; have g5 := (H5.out.at_ 0 rfl).fz 5
            go_simp
            generalize hq9 : (((((w5.setCell _ _).setCell _ _).setCell _ _).setCell _ _).setCell _ _).setCell _ _ = w6
            have H6 := Lib.hid ((H5.out.put 0 rfl (turnB6 _ _ _ _ _ _ _ _) (setB6 (H5.out.at_ 0 rfl) _ _ _ _ _ _)).world hq9)
            clear D5 hq9 H5 r0 r1 r2 r3 r4 r5 g0 g1 g2 g3 g4 g5
            refine hK.out _ _ (H6.out.pick [1]) (fun hHeld => ?_)
            clear hK K
            (try simp only [Act.put, List.setIfInBounds_toArray, List.set_cons_zero, List.set_cons_succ])
            refine tk (v := ?_) 9 ?_ ?_
            rotate_left
            · intro w hSw
              go_simp
              (try with_reducible rfl)
            (try simp only [Act.put, List.setIfInBounds_toArray, List.set_cons_zero, List.set_cons_succ])
            refine wpAnyH_done (by kernel_rfl) ?_ _
            clear hHeld HA HC
            go_wp2
            go_meet
            case rel => exact ⟨bl, rfl, rfl, H6⟩
          exact AllReadyH.nil
        exact AllReadyH.nil
      exact AllReadyH.nil
    exact AllReadyH.nil
  case rest =>
    obtain ⟨bl, rfl, rfl, H20⟩ := hcut
    clear H2
    generalize wc = w20 at *
    obtain ⟨q0, q1, q2, q3, q4, q5⟩ := (H20.out.at_ 0 rfl).c6
    go_upto_region 3 with fail
    clear q0 q1 q2 q3 q4 q5
    have H21 := Lib.hid (H20.out.quiet (Kept.drew0 w20))
    clear H20
    refine wp_region_held_drew (S := fun _ => True) (by kernel_rfl) trivial (fun hHeld => ?_)
    generalize w20.drew = w21 at *
    refine tk (v := ?_) 1 ?_ ?_
    rotate_left
    · intro w hSw
      go_simp
      (try with_reducible rfl)
    (try simp only [Act.put, List.setIfInBounds_toArray, List.set_cons_zero, List.set_cons_succ])
    refine wpAnyH_ready (rs := [0, 2]) (by kernel_rfl) (by simp) ?_
    refine anyH_one rfl (fun K hK => ?_) ?_
    · obtain ⟨q0, q1, q2, q3, q4, q5⟩ := (H21.out.at_ 0 rfl).c6
      go_simp
      clear q0 q1 q2 q3 q4 q5
      refine hK.out _ _ (trivial) (fun hHeld => ?_)
      clear hK K
      (try simp only [Act.put, List.setIfInBounds_toArray, List.set_cons_zero, List.set_cons_succ])
      refine wpAnyH_ready (rs := [2]) (by kernel_rfl) (by simp) ?_
      refine anyH_one rfl (fun K hK => ?_) ?_
      · go_simp
        refine (HPL.out _ (H21.out.tabs HT.out HF.out)).mono ?_
        rintro e _ ⟨rfl, rfl⟩
        refine hK.out _ _ (trivial) (fun hHeld => ?_)
        clear hK K
        (try simp only [Act.put, List.setIfInBounds_toArray, List.set_cons_zero, List.set_cons_succ])
        refine wpAnyH_ready (rs := [3]) (by kernel_rfl) (by simp) ?_
        refine anyH_one rfl (fun K hK => ?_) ?_
        · go_simp
          refine (HW.out _ (H21.out.tabs HT.out HF.out)).mono ?_
          rintro e w22 ⟨rfl, hb⟩
          have H22 := Lib.hid (H21.out.quiet hb)
          clear hb H21
          refine hK.out _ _ (trivial) (fun hHeld => ?_)
          clear hK K
          (try simp only [Act.put, List.setIfInBounds_toArray, List.set_cons_zero, List.set_cons_succ])
          refine wpAnyH_ready (rs := [4]) (by kernel_rfl) (by simp) ?_
          refine anyH_one rfl (fun K hK => ?_) ?_
          · obtain ⟨r0, r1, r2, r3, r4, r5⟩ := (H22.out.at_ 0 rfl).c6
            have g0 := (H22.out.at_ 0 rfl).fz 0; have g1 := (H22.out.at_ 0 rfl).fz 1; have g2 := (H22.out.at_ 0 rfl).fz 2; have g3 := (H22.out.at_ 0 rfl).fz 3; have g4 := (H22.out.at_ 0 rfl).fz 4; have g5 := (H22.out.at_ 0 rfl).fz 5
            go_simp
            generalize hq9 : (((((w22.setCell _ _).setCell _ _).setCell _ _).setCell _ _).setCell _ _).setCell _ _ = w23
            have H23 := Lib.hid ((H22.out.put 0 rfl (turnB6 _ _ _ _ _ _ _ _) (setB6 (H22.out.at_ 0 rfl) _ _ _ _ _ _)).world hq9)
            clear hq9 H22 r0 r1 r2 r3 r4 r5 g0 g1 g2 g3 g4 g5
            refine hK.out _ _ (trivial) (fun hHeld => ?_)
            clear hK K
            (try simp only [Act.put, List.setIfInBounds_toArray, List.set_cons_zero, List.set_cons_succ])
            refine wpAnyH_done (by kernel_rfl) ?_ _
            clear hHeld
            obtain ⟨q0, q1, q2, q3, q4, q5⟩ := (H23.out.at_ 0 rfl).c6
            go_upto_region 5 with fail
            clear q0 q1 q2 q3 q4 q5
            have H24 := Lib.hid (H23.out.quiet (Kept.drew0 w23))
            clear H23
            refine wp_region_held_drew (S := fun w' => Blk w' bl #[.int .u64 m0, .bool m1, .bool m2, .bool m3, .bool m4, .int .u8 m5] 35 ∧ Blk w' bk #[.int .i64 p, .int .i64 1, .int .u64 t] 88) (by kernel_rfl) ⟨H24.out.at_ 0 rfl, H24.out.at_ 1 rfl⟩ (fun hHeld => ?_)
            generalize w23.drew = w24 at *
            obtain ⟨cv, hA, hC⟩ := H24.out.cv
            have HA := Lib.hid hA
            have HC := Lib.hid hC
            clear hA hC
            refine tk (v := ?_) 0 ?_ ?_
            rotate_left
            · intro w hSw
              go_simp
              (try with_reducible rfl)
            (try simp only [Act.put, List.setIfInBounds_toArray, List.set_cons_zero, List.set_cons_succ])
            refine tk (v := ?_) 2 ?_ ?_
            rotate_left
            · intro w hSw
              obtain ⟨c0, c1, c2⟩ := hSw.2.c3
              go_simp
              (try with_reducible rfl)
            (try simp only [Act.put, List.setIfInBounds_toArray, List.set_cons_zero, List.set_cons_succ])
            refine wpAnyH_ready (rs := [1]) (by kernel_rfl) (by simp) ?_
            refine anyH_one rfl (fun K hK => ?_) ?_
            · go_simp
              refine (HA.out _ (Below.refl _ _)).mono ?_
              rintro e _ ⟨rfl, rfl⟩
              refine hK.out _ _ (⟨H24.out.at_ 0 rfl, H24.out.at_ 1 rfl⟩) (fun hHeld => ?_)
              clear hK K
              (try simp only [Act.put, List.setIfInBounds_toArray, List.set_cons_zero, List.set_cons_succ])
              refine wpAnyH_ready (rs := [3]) (by kernel_rfl) (by simp) ?_
              refine anyH_one rfl (fun K hK => ?_) ?_
              · go_simp
                refine ((HC.out _ (Below.refl _ _)).drop (p, 1, t)).mono ?_
                rintro e w25 ⟨rfl, hv⟩
                have H25 := Lib.hid hv
                clear hv
                refine hK.out _ _ (⟨H25.out.at_ 0 rfl, H25.out.at_ 1 rfl⟩) (fun hHeld => ?_)
                clear hK K
                (try simp only [Act.put, List.setIfInBounds_toArray, List.set_cons_zero, List.set_cons_succ])
                refine wpAnyH_done (by kernel_rfl) ?_ _
                clear hHeld
                go_wp2
                refine bodyPost_ret (results_none rfl _ _ _) rfl ?_
                exact ⟨rfl, H25.out.drop⟩
              exact AllReadyH.nil
            exact AllReadyH.nil
          exact AllReadyH.nil
        exact AllReadyH.nil
      exact AllReadyH.nil
    refine anyH_one rfl (fun K hK => ?_) ?_
    · go_simp
      refine (HPL.out _ (H21.out.tabs HT.out HF.out)).mono ?_
      rintro e _ ⟨rfl, rfl⟩
      refine hK.out _ _ (trivial) (fun hHeld => ?_)
      clear hK K
      (try simp only [Act.put, List.setIfInBounds_toArray, List.set_cons_zero, List.set_cons_succ])
      refine wpAnyH_ready (rs := [0]) (by kernel_rfl) (by simp) ?_
      refine anyH_one rfl (fun K hK => ?_) ?_
      · obtain ⟨q0, q1, q2, q3, q4, q5⟩ := (H21.out.at_ 0 rfl).c6
        go_simp
        clear q0 q1 q2 q3 q4 q5
        refine hK.out _ _ (trivial) (fun hHeld => ?_)
        clear hK K
        (try simp only [Act.put, List.setIfInBounds_toArray, List.set_cons_zero, List.set_cons_succ])
        refine wpAnyH_ready (rs := [3]) (by kernel_rfl) (by simp) ?_
        refine anyH_one rfl (fun K hK => ?_) ?_
        · go_simp
          refine (HW.out _ (H21.out.tabs HT.out HF.out)).mono ?_
          rintro e w22 ⟨rfl, hb⟩
          have H22 := Lib.hid (H21.out.quiet hb)
          clear hb H21
          refine hK.out _ _ (trivial) (fun hHeld => ?_)
          clear hK K
          (try simp only [Act.put, List.setIfInBounds_toArray, List.set_cons_zero, List.set_cons_succ])
          refine wpAnyH_ready (rs := [4]) (by kernel_rfl) (by simp) ?_
          refine anyH_one rfl (fun K hK => ?_) ?_
          · obtain ⟨r0, r1, r2, r3, r4, r5⟩ := (H22.out.at_ 0 rfl).c6
            have g0 := (H22.out.at_ 0 rfl).fz 0; have g1 := (H22.out.at_ 0 rfl).fz 1; have g2 := (H22.out.at_ 0 rfl).fz 2; have g3 := (H22.out.at_ 0 rfl).fz 3; have g4 := (H22.out.at_ 0 rfl).fz 4; have g5 := (H22.out.at_ 0 rfl).fz 5
            go_simp
            generalize hq9 : (((((w22.setCell _ _).setCell _ _).setCell _ _).setCell _ _).setCell _ _).setCell _ _ = w23
            have H23 := Lib.hid ((H22.out.put 0 rfl (turnB6 _ _ _ _ _ _ _ _) (setB6 (H22.out.at_ 0 rfl) _ _ _ _ _ _)).world hq9)
            clear hq9 H22 r0 r1 r2 r3 r4 r5 g0 g1 g2 g3 g4 g5
            refine hK.out _ _ (trivial) (fun hHeld => ?_)
            clear hK K
            (try simp only [Act.put, List.setIfInBounds_toArray, List.set_cons_zero, List.set_cons_succ])
            refine wpAnyH_done (by kernel_rfl) ?_ _
            clear hHeld
            obtain ⟨q0, q1, q2, q3, q4, q5⟩ := (H23.out.at_ 0 rfl).c6
            go_upto_region 5 with fail
            clear q0 q1 q2 q3 q4 q5
            have H24 := Lib.hid (H23.out.quiet (Kept.drew0 w23))
            clear H23
            refine wp_region_held_drew (S := fun w' => Blk w' bl #[.int .u64 m0, .bool m1, .bool m2, .bool m3, .bool m4, .int .u8 m5] 35 ∧ Blk w' bk #[.int .i64 p, .int .i64 1, .int .u64 t] 88) (by kernel_rfl) ⟨H24.out.at_ 0 rfl, H24.out.at_ 1 rfl⟩ (fun hHeld => ?_)
            generalize w23.drew = w24 at *
            obtain ⟨cv, hA, hC⟩ := H24.out.cv
            have HA := Lib.hid hA
            have HC := Lib.hid hC
            clear hA hC
            refine tk (v := ?_) 0 ?_ ?_
            rotate_left
            · intro w hSw
              go_simp
              (try with_reducible rfl)
            (try simp only [Act.put, List.setIfInBounds_toArray, List.set_cons_zero, List.set_cons_succ])
            refine tk (v := ?_) 2 ?_ ?_
            rotate_left
            · intro w hSw
              obtain ⟨c0, c1, c2⟩ := hSw.2.c3
              go_simp
              (try with_reducible rfl)
            (try simp only [Act.put, List.setIfInBounds_toArray, List.set_cons_zero, List.set_cons_succ])
            refine wpAnyH_ready (rs := [1]) (by kernel_rfl) (by simp) ?_
            refine anyH_one rfl (fun K hK => ?_) ?_
            · go_simp
              refine (HA.out _ (Below.refl _ _)).mono ?_
              rintro e _ ⟨rfl, rfl⟩
              refine hK.out _ _ (⟨H24.out.at_ 0 rfl, H24.out.at_ 1 rfl⟩) (fun hHeld => ?_)
              clear hK K
              (try simp only [Act.put, List.setIfInBounds_toArray, List.set_cons_zero, List.set_cons_succ])
              refine wpAnyH_ready (rs := [3]) (by kernel_rfl) (by simp) ?_
              refine anyH_one rfl (fun K hK => ?_) ?_
              · go_simp
                refine ((HC.out _ (Below.refl _ _)).drop (p, 1, t)).mono ?_
                rintro e w25 ⟨rfl, hv⟩
                have H25 := Lib.hid hv
                clear hv
                refine hK.out _ _ (⟨H25.out.at_ 0 rfl, H25.out.at_ 1 rfl⟩) (fun hHeld => ?_)
                clear hK K
                (try simp only [Act.put, List.setIfInBounds_toArray, List.set_cons_zero, List.set_cons_succ])
                refine wpAnyH_done (by kernel_rfl) ?_ _
                clear hHeld
                go_wp2
                refine bodyPost_ret (results_none rfl _ _ _) rfl ?_
                exact ⟨rfl, H25.out.drop⟩
              exact AllReadyH.nil
            exact AllReadyH.nil
          exact AllReadyH.nil
        exact AllReadyH.nil
      exact AllReadyH.nil
    exact AllReadyH.nil
set_option maxRecDepth 100000 in
set_option maxHeartbeats 3200000 in
theorem tlbSplit_put (h : TV w F o R L w []) (ht : Tabs w) (hF : Off F) (hp : I64 p) (ha : W64 a) (l0 l5 : Int) (l1 l2 l3 l4 : Bool) (hg : getK L (kyT p a 1) = some (l0, l1, l2, l3, l4, l5)) (m0 m5 : Int) (m1 m2 m3 m4 : Bool) (hm : wthG (l0, l1, l2, l3, l4, l5) (plT a) = (m0, m1, m2, m3, m4, m5)) (hz : decide ((m0, m1, m2, m3, m4, m5) = zL) = false) :
    Calls Tryd.prog 47 #[pvO o, .int .i64 p, .int .u64 a] w fun e w' => e = .returned (.tuple #[]) ∧ TV w F o R (putK R L (p, 1, tagT a 1) (m0, m1, m2, m3, m4, m5) 0) w' [] := by
  have HKEY := Lib.hid (keyT_any p a 1 w ht.s ha (by decide) (by decide))
  have HOK : Hid (OkK (p, 1, tagT a 1)) := Lib.hid ⟨hp, (show I64 1 by unfold I64; omega), (w64_tagT ha (l := 1) (by decide) (by decide) : W64 (tagT a 1))⟩
  have HG : Hid ((getK L (p, 1, tagT a 1)).getD zL = (l0, l1, l2, l3, l4, l5)) := Lib.hid (by unfold kyT at hg; rw [hg]; rfl)
  have HI : Hid ((getK L (p, 1, tagT a 1)).isSome = true) := Lib.hid (by unfold kyT at hg; rw [hg]; rfl)
  have HOL : Hid (OkL (l0, l1, l2, l3, l4, l5)) := Lib.hid (ok_some h.ok hg)
  have HOM : Hid (OkL (m0, m1, m2, m3, m4, m5)) := Lib.hid (by rw [← hm]; exact ok_wth HOL.out _)
  have HPL := Lib.hid fun w1 (ht : Tabs w1) => placeT_any a w1 ht.s ha
  have HW := Lib.hid fun w1 (ht : Tabs w1) => gwith_any (l0, l1, l2, l3, l4, l5) (plT a) w1 ht.p HOL.out
  rw [hm] at HW
  have hq := fun w => (eqlCz (m0, m1, m2, m3, m4, m5) w).trans (by rw [hz])
  generalize plT a = i at *
  have HT := Lib.hid ht
  have HF := Lib.hid hF
  have H0 := Lib.hid h
  unfold kyT at HKEY
  clear h hp ha ht hF hg hm hz
  generalize tagT a 1 = t at *
  go_enter Tryd.func47, Tryd.ntmps47
  go_upto_region 1 with (go_at_call 44; refine HKEY.out.mono ?_; rintro e w1 ⟨rfl, hb⟩; have H1 := Lib.hid (H0.out.quiet hb); clear hb H0)
  generalize hw2 : w1.alloc _ = w2
  have H2 := Lib.hid ((H1.out.new (b := w1.heap.size) rfl #[.int .i64 p, .int .i64 1, .int .u64 t] 88).world hw2)
  clear hw2 H1
  generalize w1.heap.size = bk at *
  go_cut [7, 8] from 12 (fun s7 s8 w9 => ∃ bl : Nat, s7 = .pointer (some ⟨bl, 0, none⟩) ∧ s8 = .bool true ∧ Hid (TV w F o R L w9 [⟨bl, #[.int .u64 l0, .bool l1, .bool l2, .bool l3, .bool l4, .int .u8 l5], 35⟩, ⟨bk, #[.int .i64 p, .int .i64 1, .int .u64 t], 88⟩]))
  case first =>
    have H3 := Lib.hid (H2.out.quiet (Kept.drew0 w2))
    clear H2
    refine wp_region_held_drew (S := fun w' => TV w F o R L w' [⟨bk, #[.int .i64 p, .int .i64 1, .int .u64 t], 88⟩]) (by kernel_rfl) H3.out (fun hHeld => ?_)
    generalize w2.drew = wc at *
    obtain ⟨w3, hw3⟩ : ∃ w3, w3 = wc := ⟨_, rfl⟩
    obtain ⟨cv, hA, hC⟩ := H3.out.cv
    have HA := Lib.hid hA
    have HC := Lib.hid hC
    have D3 : Hid (Below wc.heap.size wc wc) := Lib.hid (Below.refl _ _)
    clear hA hC hw3
    refine tk (v := ?_) 0 ?_ ?_
    rotate_left
    · intro w hSw
      go_simp
      (try with_reducible rfl)
    (try simp only [Act.put, List.setIfInBounds_toArray, List.set_cons_zero, List.set_cons_succ])
    refine tk (v := ?_) 2 ?_ ?_
    rotate_left
    · intro w hSw
      obtain ⟨c0, c1, c2⟩ := (hSw.at_ 0 rfl).c3
      go_simp
      (try with_reducible rfl)
    (try simp only [Act.put, List.setIfInBounds_toArray, List.set_cons_zero, List.set_cons_succ])
    refine wpAnyH_ready (rs := [1, 7]) (by kernel_rfl) (by simp) ?_
    refine anyH_one rfl (fun K hK => ?_) ?_
    · go_simp
      refine (HA.out _ D3.out).mono ?_
      rintro e _ ⟨rfl, rfl⟩
      refine hK.out _ _ (H3.out.pick [0]) (fun hHeld => ?_)
      clear hK K
      (try simp only [Act.put, List.setIfInBounds_toArray, List.set_cons_zero, List.set_cons_succ])
      refine wpAnyH_ready (rs := [3, 7]) (by kernel_rfl) (by simp) ?_
      refine anyH_one rfl (fun K hK => ?_) ?_
      · go_simp
        refine ((HC.out _ D3.out).get (p, 1, t) HOK.out).mono ?_
        rw [HG.out, HI.out]
        rintro e w4 ⟨rfl, hb⟩
        have H4 := Lib.hid (H3.out.quiet hb)
        have D4 := Lib.hid (D3.out.trans (hb.mono D3.out.size))
        clear hb H3 D3
        refine hK.out _ _ (H4.out.pick [0]) (fun hHeld => ?_)
        clear hK K
        (try simp only [Act.put, List.setIfInBounds_toArray, List.set_cons_zero, List.set_cons_succ])
        refine tk (v := ?_) 4 ?_ ?_
        rotate_left
        · intro w hSw
          go_simp
          (try with_reducible rfl)
        (try simp only [Act.put, List.setIfInBounds_toArray, List.set_cons_zero, List.set_cons_succ])
        refine tk (v := ?_) 5 ?_ ?_
        rotate_left
        · intro w hSw
          go_simp
          (try with_reducible rfl)
        (try simp only [Act.put, List.setIfInBounds_toArray, List.set_cons_zero, List.set_cons_succ])
        refine tk (v := ?_) 6 ?_ ?_
        rotate_left
        · intro w hSw
          go_simp
          (try with_reducible rfl)
        (try simp only [Act.put, List.setIfInBounds_toArray, List.set_cons_zero, List.set_cons_succ])
        refine wpAnyH_ready (rs := [7]) (by kernel_rfl) (by simp) ?_
        refine anyH_one rfl (fun K hK => ?_) ?_
        · go_simp
          generalize hq9 : w4.alloc _ = w5
          have H5 := Lib.hid ((H4.out.new (b := w4.heap.size) rfl #[.int .u64 0, .bool false, .bool false, .bool false, .bool false, .int .u8 0] 35).world hq9)
          have D5 : Hid (Below wc.heap.size wc w5) := Lib.hid (by rw [← hq9]; exact D4.out.alloc D4.out.size _)
          clear hq9 H4 D4
          generalize w4.heap.size = bl at H5 ⊢
          refine hK.out _ _ (H5.out.pick [1]) (fun hHeld => ?_)
          clear hK K
          (try simp only [Act.put, List.setIfInBounds_toArray, List.set_cons_zero, List.set_cons_succ])
          refine wpAnyH_ready (rs := [8]) (by kernel_rfl) (by simp) ?_
          refine anyH_one rfl (fun K hK => ?_) ?_
          · obtain ⟨r0, r1, r2, r3, r4, r5⟩ := (H5.out.at_ 0 rfl).c6
            have g0 := (H5.out.at_ 0 rfl).fz 0; have g1 := (H5.out.at_ 0 rfl).fz 1; have g2 := (H5.out.at_ 0 rfl).fz 2; have g3 := (H5.out.at_ 0 rfl).fz 3; have g4 := (H5.out.at_ 0 rfl).fz 4; have g5 := (H5.out.at_ 0 rfl).fz 5
            go_simp
            generalize hq9 : (((((w5.setCell _ _).setCell _ _).setCell _ _).setCell _ _).setCell _ _).setCell _ _ = w6
            have H6 := Lib.hid ((H5.out.put 0 rfl (turnB6 _ _ _ _ _ _ _ _) (setB6 (H5.out.at_ 0 rfl) _ _ _ _ _ _)).world hq9)
            clear D5 hq9 H5 r0 r1 r2 r3 r4 r5 g0 g1 g2 g3 g4 g5
            refine hK.out _ _ (H6.out.pick [1]) (fun hHeld => ?_)
            clear hK K
            (try simp only [Act.put, List.setIfInBounds_toArray, List.set_cons_zero, List.set_cons_succ])
            refine tk (v := ?_) 9 ?_ ?_
            rotate_left
            · intro w hSw
              go_simp
              (try with_reducible rfl)
            (try simp only [Act.put, List.setIfInBounds_toArray, List.set_cons_zero, List.set_cons_succ])
            refine wpAnyH_done (by kernel_rfl) ?_ _
            clear hHeld HA HC
            go_wp2
            go_meet
            case rel => exact ⟨bl, rfl, rfl, H6⟩
          exact AllReadyH.nil
        exact AllReadyH.nil
      refine anyH_one rfl (fun K hK => ?_) ?_
      · go_simp
        generalize hq9 : wc.alloc _ = w4
        have H4 := Lib.hid ((H3.out.new (b := wc.heap.size) rfl #[.int .u64 0, .bool false, .bool false, .bool false, .bool false, .int .u8 0] 35).world hq9)
        have D4 : Hid (Below wc.heap.size wc w4) := Lib.hid (by rw [← hq9]; exact D3.out.alloc D3.out.size _)
        clear hq9 H3 D3
        generalize wc.heap.size = bl at H4 ⊢
        refine hK.out _ _ (H4.out.pick [1]) (fun hHeld => ?_)
        clear hK K
        (try simp only [Act.put, List.setIfInBounds_toArray, List.set_cons_zero, List.set_cons_succ])
        refine wpAnyH_ready (rs := [3]) (by kernel_rfl) (by simp) ?_
        refine anyH_one rfl (fun K hK => ?_) ?_
        · go_simp
          refine ((HC.out _ D4.out).get (p, 1, t) HOK.out).mono ?_
          rw [HG.out, HI.out]
          rintro e w5 ⟨rfl, hb⟩
          have H5 := Lib.hid (H4.out.quiet hb)
          have D5 := Lib.hid (D4.out.trans (hb.mono D4.out.size))
          clear hb H4 D4
          refine hK.out _ _ (H5.out.pick [1]) (fun hHeld => ?_)
          clear hK K
          (try simp only [Act.put, List.setIfInBounds_toArray, List.set_cons_zero, List.set_cons_succ])
          refine tk (v := ?_) 4 ?_ ?_
          rotate_left
          · intro w hSw
            go_simp
            (try with_reducible rfl)
          (try simp only [Act.put, List.setIfInBounds_toArray, List.set_cons_zero, List.set_cons_succ])
          refine tk (v := ?_) 5 ?_ ?_
          rotate_left
          · intro w hSw
            go_simp
            (try with_reducible rfl)
          (try simp only [Act.put, List.setIfInBounds_toArray, List.set_cons_zero, List.set_cons_succ])
          refine tk (v := ?_) 6 ?_ ?_
          rotate_left
          · intro w hSw
            go_simp
            (try with_reducible rfl)
          (try simp only [Act.put, List.setIfInBounds_toArray, List.set_cons_zero, List.set_cons_succ])
          refine wpAnyH_ready (rs := [8]) (by kernel_rfl) (by simp) ?_
          refine anyH_one rfl (fun K hK => ?_) ?_
          · obtain ⟨r0, r1, r2, r3, r4, r5⟩ := (H5.out.at_ 0 rfl).c6
            have g0 := (H5.out.at_ 0 rfl).fz 0; have g1 := (H5.out.at_ 0 rfl).fz 1; have g2 := (H5.out.at_ 0 rfl).fz 2; have g3 := (H5.out.at_ 0 rfl).fz 3; have g4 := (H5.out.at_ 0 rfl).fz 4; have g5 := (H5.out.at_ 0 rfl).fz 5
            go_simp
            generalize hq9 : (((((w5.setCell _ _).setCell _ _).setCell _ _).setCell _ _).setCell _ _).setCell _ _ = w6
            have H6 := Lib.hid ((H5.out.put 0 rfl (turnB6 _ _ _ _ _ _ _ _) (setB6 (H5.out.at_ 0 rfl) _ _ _ _ _ _)).world hq9)
            clear D5 hq9 H5 r0 r1 r2 r3 r4 r5 g0 g1 g2 g3 g4 g5
            refine hK.out _ _ (H6.out.pick [1]) (fun hHeld => ?_)
            clear hK K
            (try simp only [Act.put, List.setIfInBounds_toArray, List.set_cons_zero, List.set_cons_succ])
            refine tk (v := ?_) 9 ?_ ?_
            rotate_left
            · intro w hSw
              go_simp
              (try with_reducible rfl)
            (try simp only [Act.put, List.setIfInBounds_toArray, List.set_cons_zero, List.set_cons_succ])
            refine wpAnyH_done (by kernel_rfl) ?_ _
            clear hHeld HA HC
            go_wp2
            go_meet
            case rel => exact ⟨bl, rfl, rfl, H6⟩
          exact AllReadyH.nil
        exact AllReadyH.nil
      exact AllReadyH.nil
    refine anyH_one rfl (fun K hK => ?_) ?_
    · go_simp
      generalize hq9 : wc.alloc _ = w4
      have H4 := Lib.hid ((H3.out.new (b := wc.heap.size) rfl #[.int .u64 0, .bool false, .bool false, .bool false, .bool false, .int .u8 0] 35).world hq9)
      have D4 : Hid (Below wc.heap.size wc w4) := Lib.hid (by rw [← hq9]; exact D3.out.alloc D3.out.size _)
      clear hq9 H3 D3
      generalize wc.heap.size = bl at H4 ⊢
      refine hK.out _ _ (H4.out.pick [1]) (fun hHeld => ?_)
      clear hK K
      (try simp only [Act.put, List.setIfInBounds_toArray, List.set_cons_zero, List.set_cons_succ])
      refine wpAnyH_ready (rs := [1]) (by kernel_rfl) (by simp) ?_
      refine anyH_one rfl (fun K hK => ?_) ?_
      · go_simp
        refine (HA.out _ D4.out).mono ?_
        rintro e _ ⟨rfl, rfl⟩
        refine hK.out _ _ (H4.out.pick [1]) (fun hHeld => ?_)
        clear hK K
        (try simp only [Act.put, List.setIfInBounds_toArray, List.set_cons_zero, List.set_cons_succ])
        refine wpAnyH_ready (rs := [3]) (by kernel_rfl) (by simp) ?_
        refine anyH_one rfl (fun K hK => ?_) ?_
        · go_simp
          refine ((HC.out _ D4.out).get (p, 1, t) HOK.out).mono ?_
          rw [HG.out, HI.out]
          rintro e w5 ⟨rfl, hb⟩
          have H5 := Lib.hid (H4.out.quiet hb)
          have D5 := Lib.hid (D4.out.trans (hb.mono D4.out.size))
          clear hb H4 D4
          refine hK.out _ _ (H5.out.pick [1]) (fun hHeld => ?_)
          clear hK K
          (try simp only [Act.put, List.setIfInBounds_toArray, List.set_cons_zero, List.set_cons_succ])
          refine tk (v := ?_) 4 ?_ ?_
          rotate_left
          · intro w hSw
            go_simp
            (try with_reducible rfl)
          (try simp only [Act.put, List.setIfInBounds_toArray, List.set_cons_zero, List.set_cons_succ])
          refine tk (v := ?_) 5 ?_ ?_
          rotate_left
          · intro w hSw
            go_simp
            (try with_reducible rfl)
          (try simp only [Act.put, List.setIfInBounds_toArray, List.set_cons_zero, List.set_cons_succ])
          refine tk (v := ?_) 6 ?_ ?_
          rotate_left
          · intro w hSw
            go_simp
            (try with_reducible rfl)
          (try simp only [Act.put, List.setIfInBounds_toArray, List.set_cons_zero, List.set_cons_succ])
          refine wpAnyH_ready (rs := [8]) (by kernel_rfl) (by simp) ?_
          refine anyH_one rfl (fun K hK => ?_) ?_
          · obtain ⟨r0, r1, r2, r3, r4, r5⟩ := (H5.out.at_ 0 rfl).c6
            have g0 := (H5.out.at_ 0 rfl).fz 0; have g1 := (H5.out.at_ 0 rfl).fz 1; have g2 := (H5.out.at_ 0 rfl).fz 2; have g3 := (H5.out.at_ 0 rfl).fz 3; have g4 := (H5.out.at_ 0 rfl).fz 4; have g5 := (H5.out.at_ 0 rfl).fz 5
            go_simp
            generalize hq9 : (((((w5.setCell _ _).setCell _ _).setCell _ _).setCell _ _).setCell _ _).setCell _ _ = w6
            have H6 := Lib.hid ((H5.out.put 0 rfl (turnB6 _ _ _ _ _ _ _ _) (setB6 (H5.out.at_ 0 rfl) _ _ _ _ _ _)).world hq9)
            clear D5 hq9 H5 r0 r1 r2 r3 r4 r5 g0 g1 g2 g3 g4 g5
            refine hK.out _ _ (H6.out.pick [1]) (fun hHeld => ?_)
            clear hK K
            (try simp only [Act.put, List.setIfInBounds_toArray, List.set_cons_zero, List.set_cons_succ])
            refine tk (v := ?_) 9 ?_ ?_
            rotate_left
            · intro w hSw
              go_simp
              (try with_reducible rfl)
            (try simp only [Act.put, List.setIfInBounds_toArray, List.set_cons_zero, List.set_cons_succ])
            refine wpAnyH_done (by kernel_rfl) ?_ _
            clear hHeld HA HC
            go_wp2
            go_meet
            case rel => exact ⟨bl, rfl, rfl, H6⟩
          exact AllReadyH.nil
        exact AllReadyH.nil
      exact AllReadyH.nil
    exact AllReadyH.nil
  case rest =>
    obtain ⟨bl, rfl, rfl, H20⟩ := hcut
    clear H2
    generalize wc = w20 at *
    obtain ⟨q0, q1, q2, q3, q4, q5⟩ := (H20.out.at_ 0 rfl).c6
    go_upto_region 3 with fail
    clear q0 q1 q2 q3 q4 q5
    have H21 := Lib.hid (H20.out.quiet (Kept.drew0 w20))
    clear H20
    refine wp_region_held_drew (S := fun _ => True) (by kernel_rfl) trivial (fun hHeld => ?_)
    generalize w20.drew = w21 at *
    refine tk (v := ?_) 1 ?_ ?_
    rotate_left
    · intro w hSw
      go_simp
      (try with_reducible rfl)
    (try simp only [Act.put, List.setIfInBounds_toArray, List.set_cons_zero, List.set_cons_succ])
    refine wpAnyH_ready (rs := [0, 2]) (by kernel_rfl) (by simp) ?_
    refine anyH_one rfl (fun K hK => ?_) ?_
    · obtain ⟨q0, q1, q2, q3, q4, q5⟩ := (H21.out.at_ 0 rfl).c6
      go_simp
      clear q0 q1 q2 q3 q4 q5
      refine hK.out _ _ (trivial) (fun hHeld => ?_)
      clear hK K
      (try simp only [Act.put, List.setIfInBounds_toArray, List.set_cons_zero, List.set_cons_succ])
      refine wpAnyH_ready (rs := [2]) (by kernel_rfl) (by simp) ?_
      refine anyH_one rfl (fun K hK => ?_) ?_
      · go_simp
        refine (HPL.out _ (H21.out.tabs HT.out HF.out)).mono ?_
        rintro e _ ⟨rfl, rfl⟩
        refine hK.out _ _ (trivial) (fun hHeld => ?_)
        clear hK K
        (try simp only [Act.put, List.setIfInBounds_toArray, List.set_cons_zero, List.set_cons_succ])
        refine wpAnyH_ready (rs := [3]) (by kernel_rfl) (by simp) ?_
        refine anyH_one rfl (fun K hK => ?_) ?_
        · go_simp
          refine (HW.out _ (H21.out.tabs HT.out HF.out)).mono ?_
          rintro e w22 ⟨rfl, hb⟩
          have H22 := Lib.hid (H21.out.quiet hb)
          clear hb H21
          refine hK.out _ _ (trivial) (fun hHeld => ?_)
          clear hK K
          (try simp only [Act.put, List.setIfInBounds_toArray, List.set_cons_zero, List.set_cons_succ])
          refine wpAnyH_ready (rs := [4]) (by kernel_rfl) (by simp) ?_
          refine anyH_one rfl (fun K hK => ?_) ?_
          · obtain ⟨r0, r1, r2, r3, r4, r5⟩ := (H22.out.at_ 0 rfl).c6
            have g0 := (H22.out.at_ 0 rfl).fz 0; have g1 := (H22.out.at_ 0 rfl).fz 1; have g2 := (H22.out.at_ 0 rfl).fz 2; have g3 := (H22.out.at_ 0 rfl).fz 3; have g4 := (H22.out.at_ 0 rfl).fz 4; have g5 := (H22.out.at_ 0 rfl).fz 5
            go_simp
            generalize hq9 : (((((w22.setCell _ _).setCell _ _).setCell _ _).setCell _ _).setCell _ _).setCell _ _ = w23
            have H23 := Lib.hid ((H22.out.put 0 rfl (turnB6 _ _ _ _ _ _ _ _) (setB6 (H22.out.at_ 0 rfl) _ _ _ _ _ _)).world hq9)
            clear hq9 H22 r0 r1 r2 r3 r4 r5 g0 g1 g2 g3 g4 g5
            refine hK.out _ _ (trivial) (fun hHeld => ?_)
            clear hK K
            (try simp only [Act.put, List.setIfInBounds_toArray, List.set_cons_zero, List.set_cons_succ])
            refine wpAnyH_done (by kernel_rfl) ?_ _
            clear hHeld
            obtain ⟨q0, q1, q2, q3, q4, q5⟩ := (H23.out.at_ 0 rfl).c6
            go_upto_region 6 with fail
            clear q0 q1 q2 q3 q4 q5
            have H24 := Lib.hid (H23.out.quiet (Kept.drew0 w23))
            clear H23
            refine wp_region_held_drew (S := fun w' => Blk w' bl #[.int .u64 m0, .bool m1, .bool m2, .bool m3, .bool m4, .int .u8 m5] 35 ∧ Blk w' bk #[.int .i64 p, .int .i64 1, .int .u64 t] 88) (by kernel_rfl) ⟨H24.out.at_ 0 rfl, H24.out.at_ 1 rfl⟩ (fun hHeld => ?_)
            generalize w23.drew = w24 at *
            obtain ⟨cv, hA, hC⟩ := H24.out.cv
            have HA := Lib.hid hA
            have HC := Lib.hid hC
            clear hA hC
            refine tk (v := ?_) 0 ?_ ?_
            rotate_left
            · intro w hSw
              go_simp
              (try with_reducible rfl)
            (try simp only [Act.put, List.setIfInBounds_toArray, List.set_cons_zero, List.set_cons_succ])
            refine tk (v := ?_) 2 ?_ ?_
            rotate_left
            · intro w hSw
              obtain ⟨c0, c1, c2⟩ := hSw.2.c3
              go_simp
              (try with_reducible rfl)
            (try simp only [Act.put, List.setIfInBounds_toArray, List.set_cons_zero, List.set_cons_succ])
            refine tk (v := ?_) 3 ?_ ?_
            rotate_left
            · intro w hSw
              obtain ⟨q0, q1, q2, q3, q4, q5⟩ := hSw.1.c6
              go_simp
              (try with_reducible rfl)
            (try simp only [Act.put, List.setIfInBounds_toArray, List.set_cons_zero, List.set_cons_succ])
            refine wpAnyH_ready (rs := [1]) (by kernel_rfl) (by simp) ?_
            refine anyH_one rfl (fun K hK => ?_) ?_
            · go_simp
              refine (HA.out _ (Below.refl _ _)).mono ?_
              rintro e _ ⟨rfl, rfl⟩
              refine hK.out _ _ (⟨H24.out.at_ 0 rfl, H24.out.at_ 1 rfl⟩) (fun hHeld => ?_)
              clear hK K
              (try simp only [Act.put, List.setIfInBounds_toArray, List.set_cons_zero, List.set_cons_succ])
              refine wpAnyH_ready (rs := [4]) (by kernel_rfl) (by simp) ?_
              refine anyH_one rfl (fun K hK => ?_) ?_
              · go_simp
                refine ((HC.out _ (Below.refl _ _)).put (p, 1, t) (m0, m1, m2, m3, m4, m5) 0 HOK.out HOM.out (show I64 0 by unfold I64; omega)).mono ?_
                rintro e w25 ⟨rfl, hv⟩
                have H25 := Lib.hid hv
                clear hv
                refine hK.out _ _ (⟨H25.out.at_ 0 rfl, H25.out.at_ 1 rfl⟩) (fun hHeld => ?_)
                clear hK K
                (try simp only [Act.put, List.setIfInBounds_toArray, List.set_cons_zero, List.set_cons_succ])
                refine wpAnyH_done (by kernel_rfl) ?_ _
                clear hHeld
                go_wp2
                go_end0
                exact ⟨rfl, H25.out.drop⟩
              exact AllReadyH.nil
            exact AllReadyH.nil
          exact AllReadyH.nil
        exact AllReadyH.nil
      exact AllReadyH.nil
    refine anyH_one rfl (fun K hK => ?_) ?_
    · go_simp
      refine (HPL.out _ (H21.out.tabs HT.out HF.out)).mono ?_
      rintro e _ ⟨rfl, rfl⟩
      refine hK.out _ _ (trivial) (fun hHeld => ?_)
      clear hK K
      (try simp only [Act.put, List.setIfInBounds_toArray, List.set_cons_zero, List.set_cons_succ])
      refine wpAnyH_ready (rs := [0]) (by kernel_rfl) (by simp) ?_
      refine anyH_one rfl (fun K hK => ?_) ?_
      · obtain ⟨q0, q1, q2, q3, q4, q5⟩ := (H21.out.at_ 0 rfl).c6
        go_simp
        clear q0 q1 q2 q3 q4 q5
        refine hK.out _ _ (trivial) (fun hHeld => ?_)
        clear hK K
        (try simp only [Act.put, List.setIfInBounds_toArray, List.set_cons_zero, List.set_cons_succ])
        refine wpAnyH_ready (rs := [3]) (by kernel_rfl) (by simp) ?_
        refine anyH_one rfl (fun K hK => ?_) ?_
        · go_simp
          refine (HW.out _ (H21.out.tabs HT.out HF.out)).mono ?_
          rintro e w22 ⟨rfl, hb⟩
          have H22 := Lib.hid (H21.out.quiet hb)
          clear hb H21
          refine hK.out _ _ (trivial) (fun hHeld => ?_)
          clear hK K
          (try simp only [Act.put, List.setIfInBounds_toArray, List.set_cons_zero, List.set_cons_succ])
          refine wpAnyH_ready (rs := [4]) (by kernel_rfl) (by simp) ?_
          refine anyH_one rfl (fun K hK => ?_) ?_
          · obtain ⟨r0, r1, r2, r3, r4, r5⟩ := (H22.out.at_ 0 rfl).c6
            have g0 := (H22.out.at_ 0 rfl).fz 0; have g1 := (H22.out.at_ 0 rfl).fz 1; have g2 := (H22.out.at_ 0 rfl).fz 2; have g3 := (H22.out.at_ 0 rfl).fz 3; have g4 := (H22.out.at_ 0 rfl).fz 4; have g5 := (H22.out.at_ 0 rfl).fz 5
            go_simp
            generalize hq9 : (((((w22.setCell _ _).setCell _ _).setCell _ _).setCell _ _).setCell _ _).setCell _ _ = w23
            have H23 := Lib.hid ((H22.out.put 0 rfl (turnB6 _ _ _ _ _ _ _ _) (setB6 (H22.out.at_ 0 rfl) _ _ _ _ _ _)).world hq9)
            clear hq9 H22 r0 r1 r2 r3 r4 r5 g0 g1 g2 g3 g4 g5
            refine hK.out _ _ (trivial) (fun hHeld => ?_)
            clear hK K
            (try simp only [Act.put, List.setIfInBounds_toArray, List.set_cons_zero, List.set_cons_succ])
            refine wpAnyH_done (by kernel_rfl) ?_ _
            clear hHeld
            obtain ⟨q0, q1, q2, q3, q4, q5⟩ := (H23.out.at_ 0 rfl).c6
            go_upto_region 6 with fail
            clear q0 q1 q2 q3 q4 q5
            have H24 := Lib.hid (H23.out.quiet (Kept.drew0 w23))
            clear H23
            refine wp_region_held_drew (S := fun w' => Blk w' bl #[.int .u64 m0, .bool m1, .bool m2, .bool m3, .bool m4, .int .u8 m5] 35 ∧ Blk w' bk #[.int .i64 p, .int .i64 1, .int .u64 t] 88) (by kernel_rfl) ⟨H24.out.at_ 0 rfl, H24.out.at_ 1 rfl⟩ (fun hHeld => ?_)
            generalize w23.drew = w24 at *
            obtain ⟨cv, hA, hC⟩ := H24.out.cv
            have HA := Lib.hid hA
            have HC := Lib.hid hC
            clear hA hC
            refine tk (v := ?_) 0 ?_ ?_
            rotate_left
            · intro w hSw
              go_simp
              (try with_reducible rfl)
            (try simp only [Act.put, List.setIfInBounds_toArray, List.set_cons_zero, List.set_cons_succ])
            refine tk (v := ?_) 2 ?_ ?_
            rotate_left
            · intro w hSw
              obtain ⟨c0, c1, c2⟩ := hSw.2.c3
              go_simp
              (try with_reducible rfl)
            (try simp only [Act.put, List.setIfInBounds_toArray, List.set_cons_zero, List.set_cons_succ])
            refine tk (v := ?_) 3 ?_ ?_
            rotate_left
            · intro w hSw
              obtain ⟨q0, q1, q2, q3, q4, q5⟩ := hSw.1.c6
              go_simp
              (try with_reducible rfl)
            (try simp only [Act.put, List.setIfInBounds_toArray, List.set_cons_zero, List.set_cons_succ])
            refine wpAnyH_ready (rs := [1]) (by kernel_rfl) (by simp) ?_
            refine anyH_one rfl (fun K hK => ?_) ?_
            · go_simp
              refine (HA.out _ (Below.refl _ _)).mono ?_
              rintro e _ ⟨rfl, rfl⟩
              refine hK.out _ _ (⟨H24.out.at_ 0 rfl, H24.out.at_ 1 rfl⟩) (fun hHeld => ?_)
              clear hK K
              (try simp only [Act.put, List.setIfInBounds_toArray, List.set_cons_zero, List.set_cons_succ])
              refine wpAnyH_ready (rs := [4]) (by kernel_rfl) (by simp) ?_
              refine anyH_one rfl (fun K hK => ?_) ?_
              · go_simp
                refine ((HC.out _ (Below.refl _ _)).put (p, 1, t) (m0, m1, m2, m3, m4, m5) 0 HOK.out HOM.out (show I64 0 by unfold I64; omega)).mono ?_
                rintro e w25 ⟨rfl, hv⟩
                have H25 := Lib.hid hv
                clear hv
                refine hK.out _ _ (⟨H25.out.at_ 0 rfl, H25.out.at_ 1 rfl⟩) (fun hHeld => ?_)
                clear hK K
                (try simp only [Act.put, List.setIfInBounds_toArray, List.set_cons_zero, List.set_cons_succ])
                refine wpAnyH_done (by kernel_rfl) ?_ _
                clear hHeld
                go_wp2
                go_end0
                exact ⟨rfl, H25.out.drop⟩
              exact AllReadyH.nil
            exact AllReadyH.nil
          exact AllReadyH.nil
        exact AllReadyH.nil
      exact AllReadyH.nil
    exact AllReadyH.nil
theorem tlbSplit_any (h : TV w F o R L w []) (ht : Tabs w) (hF : Off F) (hp : I64 p) (ha : W64 a) :
    Calls Tryd.prog 47 #[pvO o, .int .i64 p, .int .u64 a] w fun e w' => e = .returned (.tuple #[]) ∧ TV w F o R (splitT R L p a) w' [] := by
  cases hg : getK L (kyT p a 1) with
  | none =>
    rw [show splitT R L p a = L by unfold splitT; rw [hg]]
    exact tlbSplit_no p a h ht hF hp ha hg
  | some l =>
    obtain ⟨l0, l1, l2, l3, l4, l5⟩ := l
    obtain ⟨⟨m0, m1, m2, m3, m4, m5⟩, hm⟩ : ∃ m, wthG (l0, l1, l2, l3, l4, l5) (plT a) = m := ⟨_, rfl⟩
    by_cases hz : (m0, m1, m2, m3, m4, m5) = zL
    · rw [show splitT R L p a = dropK L (kyT p a 1) by unfold splitT; rw [hg]; exact if_pos ((zero_wth _ _).2 (hm.trans hz))]
      exact tlbSplit_zero p a h ht hF hp ha l0 l5 l1 l2 l3 l4 hg m0 m5 m1 m2 m3 m4 hm (decide_eq_true hz)
    · rw [show splitT R L p a = putK R L (kyT p a 1) (m0, m1, m2, m3, m4, m5) 0 by unfold splitT; rw [hg, ← hm]; exact if_neg fun e => hz (hm.symm.trans ((zero_wth _ _).1 e))]
      exact tlbSplit_put p a h ht hF hp ha l0 l5 l1 l2 l3 l4 hg m0 m5 m1 m2 m3 m4 hm (decide_eq_false hz)
set_option maxRecDepth 100000 in
set_option maxHeartbeats 3200000 in
theorem tlbDropPage_any (h : TV w F o R L w []) (ht : Tabs w) (hF : Off F) (hp : I64 p) (ha : W64 a) :
    Calls Tryd.prog 22 #[pvO o, .int .i64 p, .int .u64 a] w fun e w' => e = .returned (.tuple #[]) ∧ TV w F o R (dropT R L p a) w' [] := by
  have HSP := Lib.hid (tlbSplit_any p a h ht hF hp ha)
  have HT := Lib.hid ht
  have HF := Lib.hid hF
  have HK2 := Lib.hid fun w1 (ht : Tabs w1) => keyT_any p a 2 w1 ht.s ha (by decide) (by decide)
  have HK3 := Lib.hid fun w1 (ht : Tabs w1) => keyT_any p a 3 w1 ht.s ha (by decide) (by decide)
  have HE : Hid (dropT R L p a = dropK (dropK (splitT R L p a) (p, 2, tagT a 2)) (p, 3, tagT a 3)) := Lib.hid rfl
  unfold kyT at HK2 HK3
  rw [HE.out]
  clear h ht hF hp ha HE
  generalize splitT R L p a = M at *
  generalize tagT a 2 = t2 at *
  generalize tagT a 3 = t3 at *
  go_enter Tryd.func22, Tryd.ntmps22
  go_upto_region 1 with (go_at_call 47; refine HSP.out.mono ?_; rintro e w1 ⟨rfl, hv⟩; have H1 := Lib.hid hv; clear hv)
  obtain ⟨cv, hA, hC⟩ := H1.out.cv
  have HA := Lib.hid hA
  have HC := Lib.hid hC
  clear hA hC
  go_upto_region 2 with (first | (go_at_call 41; refine (HA.out _ (Below.refl _ _)).mono ?_; rintro e _ ⟨rfl, rfl⟩) | (go_at_call 44; refine (HK2.out _ (H1.out.tabs HT.out HF.out)).mono ?_; rintro e w2 ⟨rfl, hb2⟩) | (go_at_call 48; refine ((HC.out _ hb2).drop (p, 2, t2)).mono ?_; rintro e w3 ⟨rfl, hv⟩; have H3 := Lib.hid hv; clear hv hb2 HA HC H1))
  obtain ⟨cv, hA, hC⟩ := H3.out.cv
  have HA := Lib.hid hA
  have HC := Lib.hid hC
  clear hA hC
  go_wp2_with (first | (go_at_call 41; refine (HA.out _ (Below.refl _ _)).mono ?_; rintro e _ ⟨rfl, rfl⟩) | (go_at_call 44; refine (HK3.out _ (H3.out.tabs HT.out HF.out)).mono ?_; rintro e w4 ⟨rfl, hb4⟩) | (go_at_call 48; refine ((HC.out _ hb4).drop (p, 3, t3)).mono ?_; rintro e w5 ⟨rfl, hv⟩; have H5 := Lib.hid hv; clear hv hb4 HA HC H3))
  go_end0
  exact ⟨rfl, H5.out⟩
set_option maxRecDepth 100000 in
set_option maxHeartbeats 3200000 in
theorem tlbDropOf_any (h : TV w F o R L w []) :
    Calls Tryd.prog 24 #[pvO o, .int .i64 p] w fun e w' => e = .returned (.tuple #[]) ∧ TV w F o R (ofK L p) w' [] := by
  have H1 := Lib.hid h
  clear h
  obtain ⟨cv, hA, hC⟩ := H1.out.cv
  have HA := Lib.hid hA
  have HC := Lib.hid hC
  clear hA hC
  go_enter Tryd.func24, Tryd.ntmps24
  go_wp2_with (first | (go_at_call 41; refine (HA.out _ (Below.refl _ _)).mono ?_; rintro e _ ⟨rfl, rfl⟩) | (go_at_call 50; refine ((HC.out _ (Below.refl _ _)).dropOf p).mono ?_; rintro e w3 ⟨rfl, hv⟩; have H3 := Lib.hid hv; clear hv))
  go_end0
  exact ⟨rfl, H3.out⟩
set_option maxRecDepth 100000 in
set_option maxHeartbeats 3200000 in
theorem tlbClear_any (h : TV w F o R L w []) :
    Calls Tryd.prog 25 #[pvO o] w fun e w' => e = .returned (.tuple #[]) ∧ TV w F o R ([]) w' [] := by
  have H1 := Lib.hid h
  clear h
  obtain ⟨cv, hA, hC⟩ := H1.out.cv
  have HA := Lib.hid hA
  have HC := Lib.hid hC
  clear hA hC
  go_enter Tryd.func25, Tryd.ntmps25
  go_wp2_with (first | (go_at_call 41; refine (HA.out _ (Below.refl _ _)).mono ?_; rintro e _ ⟨rfl, rfl⟩) | (go_at_call 51; refine ((HC.out _ (Below.refl _ _)).clear).mono ?_; rintro e w3 ⟨rfl, hv⟩; have H3 := Lib.hid hv; clear hv))
  go_end0
  exact ⟨rfl, H3.out⟩
set_option maxRecDepth 100000 in
set_option maxHeartbeats 3200000 in
theorem tlbEvict_any (h : TV w F o R L w []) (hp : I64 p) :
    Calls Tryd.prog 26 #[pvO o, .int .i64 p] w fun e w' => e = .returned (.tuple #[]) ∧ TV w F o R (evK L p) w' [] := by
  have H1 := Lib.hid h
  clear h
  obtain ⟨cv, hA, hC⟩ := H1.out.cv
  have HA := Lib.hid hA
  have HC := Lib.hid hC
  clear hA hC
  go_enter Tryd.func26, Tryd.ntmps26
  go_wp2_with (first | (go_at_call 41; refine (HA.out _ (Below.refl _ _)).mono ?_; rintro e _ ⟨rfl, rfl⟩) | (go_at_call 52; refine ((HC.out _ (Below.refl _ _)).evict p hp).mono ?_; rintro e w3 ⟨rfl, hv⟩; have H3 := Lib.hid hv; clear hv))
  go_end0
  exact ⟨rfl, H3.out⟩
set_option maxRecDepth 100000 in
set_option maxHeartbeats 3200000 in
theorem tlbLen_any {wb : World} {bs : List BoxD} (h : TV wb F o R L w bs) :
    Calls Tryd.prog 16 #[pvO o] w fun e w' => e = .returned (.int .i64 L.length) ∧ Below w.heap.size w w' := by
  have H1 := Lib.hid h
  clear h
  obtain ⟨cv, hA, hC⟩ := H1.out.cv
  have HA := Lib.hid hA
  have HC := Lib.hid hC
  clear hA hC
  go_enter Tryd.func16, Tryd.ntmps16
  go_wp2_with (first | (go_at_call 41; refine (HA.out _ (Below.refl _ _)).mono ?_; rintro e _ ⟨rfl, rfl⟩) | (go_at_call 42; refine (HC.out _ (Below.refl _ _)).keys.mono ?_; rintro e w3 ⟨A, d, rfl, hb⟩))
  go_ret
  exact ⟨rfl, hb⟩
end
end Go.Proofs.YtddbjbdhbeijjaaDoor
/- The document's cache (dormerref10): find, without. -/
namespace Go.Proofs.YtddbjbdhbeijjaaDoor
set_option linter.unusedVariables false
set_option linter.unusedSimpArgs false
open Go.ChangeShapes Go.WideShapes Go.ChangeAt Go.RowKit Go.Joins

theorem infoPair : (Tryd.prog.info? 99).map (fun i => (i.zero, i.size, i.bytes)) = some (some (.agg #[.int .i64 0, .int .i64 0, .int .u64 0, .int .u64 0, .bool false, .bool false, .bool false, .bool false, .int .u8 0]), 9, 40) := by kernel_rfl

/-- v owns the pairs M, in a block from B on -/
def PairsOwn (w : World) (B : Nat) (v : Value) (M : List Pr) : Prop := w.ownsRow B 99 9 v M.length (pcs M)

/-- the cells of a pair at an address -/
structure PairAt (w : World) (g o : Nat) (p q t f : Int) (x1 x2 x3 x4 : Bool) (m : Int) : Prop where
  k : w.cell? ⟨g, o, none⟩ = some (.int .i64 p) ∧ w.cell? ⟨g, o + 1, none⟩ = some (.int .i64 q) ∧ w.cell? ⟨g, o + 2, none⟩ = some (.int .u64 t)
  l : w.cell? ⟨g, o + 3, none⟩ = some (.int .u64 f) ∧ w.cell? ⟨g, o + 4, none⟩ = some (.bool x1) ∧ w.cell? ⟨g, o + 5, none⟩ = some (.bool x2) ∧ w.cell? ⟨g, o + 6, none⟩ = some (.bool x3) ∧ w.cell? ⟨g, o + 7, none⟩ = some (.bool x4) ∧ w.cell? ⟨g, o + 8, none⟩ = some (.int .u8 m)

section
variable {w w' : World} {B : Nat} {v : Value} {M : List Pr}
theorem PairsOwn.form (h : PairsOwn w B v M) : ∃ A c, v = .slice A M.length c := own_formC h
theorem PairsOwn.nil (w : World) (B : Nat) : PairsOwn w B (.slice none 0 0) [] := World.ownsRow_nil _ _ _ _
theorem PairsOwn.below (h : PairsOwn w B v M) (hb : Below w.heap.size w w') : PairsOwn w' B v M := own_below h hb
theorem PairsOwn.zero (h : PairsOwn w B v M) : PairsOwn w 0 v M := row_zero h
theorem PairsOwn.down {B' : Nat} (h : PairsOwn w B v M) (hB : B' ≤ B) : PairsOwn w B' v M := own_down h hB
theorem PairsOwn.lt (h : PairsOwn w B v M) {i : Nat} (hi : v.ownBlock = some i) : B ≤ i ∧ i < w.heap.size := World.ownsRow.lt h i hi
theorem PairsOwn.turn {F : Nat → Prop} (h : PairsOwn w B v M) (ht : Turn F w w') (hn : ∀ i, v.ownBlock = some i → ¬ F i) : PairsOwn w' B v M := own_turn h ht hn
theorem PairsOwn.at_ (h : PairsOwn w B v M) {k : Nat} (hk : k < M.length) {p q t f m : Int} {x1 x2 x3 x4 : Bool} (he : M.getD k zP = ((p, q, t), (f, x1, x2, x3, x4, m))) :
    ∃ g cap, v = .slice (some ⟨g, 0, none⟩) M.length cap ∧ PairAt w g (k * 9) p q t f x1 x2 x3 x4 m ∧ g < w.heap.size ∧ B ≤ g := by
  rcases h.2 with ⟨_, hn⟩ | ⟨g, cap, cur, rfl, _⟩
  · omega
  · have hc := World.ownsRow.cells h (g := g) rfl
    have e : ∀ j, j < 9 → (pcs M)[k * 9 + j]? = (pc (M.getD k zP))[j]? := fun j hj => flat_get pc_len M zP k j hk hj
    have e2 : ∀ j u, j < 9 → (pc (M.getD k zP))[j]? = some u → w.cell? ⟨g, k * 9 + j, none⟩ = some u := fun j u hj hu => by
      have := hc (k * 9 + j) u ((e j hj).trans hu)
      rwa [add2] at this
    rw [he] at e2
    exact ⟨g, cap, rfl, ⟨⟨e2 0 _ (by omega) rfl, e2 1 _ (by omega) rfl, e2 2 _ (by omega) rfl⟩, ⟨e2 3 _ (by omega) rfl, e2 4 _ (by omega) rfl, e2 5 _ (by omega) rfl, e2 6 _ (by omega) rfl, e2 7 _ (by omega) rfl, e2 8 _ (by omega) rfl⟩⟩, (h.lt (i := g) rfl).2, (h.lt (i := g) rfl).1⟩
theorem PairAt.below {g o : Nat} {p q t f m : Int} {x1 x2 x3 x4 : Bool} (h : PairAt w g o p q t f x1 x2 x3 x4 m) (hb : Below w.heap.size w w') : PairAt w' g o p q t f x1 x2 x3 x4 m := by
  have e : w'.heap[g]? = w.heap[g]? := hb.block g (World.block_lt_of_cell? _ _ h.k.1)
  have c : ∀ o, w'.cell? ⟨g, o, none⟩ = w.cell? ⟨g, o, none⟩ := fun o => World.cell?_of_block (a := ⟨g, o, none⟩) e
  exact ⟨by simpa only [c] using h.k, by simpa only [c] using h.l⟩
end

set_option maxRecDepth 100000 in
theorem eqlR (p q t p' q' t' : Int) (w : World) : (binOp .eql 80 (.agg #[.int .i64 p, .int .i64 q, .int .u64 t]) (.agg #[.int .i64 p', .int .i64 q', .int .u64 t'])).run Tryd.prog w = .ok (.bool (decide ((p, q, t) = (p', q', t')))) w := by
  have e : (binOp .eql 80 (.agg #[.int .i64 p, .int .i64 q, .int .u64 t]) (.agg #[.int .i64 p', .int .i64 q', .int .u64 t'])).run Tryd.prog w = .ok (.bool (p == p' && (q == q' && t == t'))) w := by
    have hs : Tryd.prog.stoodInHeld 80 = false := by kernel_rfl
    simp only [binOp]
    simp [Op.equal, Op.maxDepth, run_equalIn_struct w 9999 80 _ _ (by simp [Program.fieldsOf, Tryd.underlying80]) hs, Program.fieldsOf, Tryd.underlying80, Op.eqFields, go_sem]
    by_cases h1 : p = p' <;> by_cases h2 : q = q' <;> by_cases h3 : t = t' <;> simp [h1, h2, h3]
  rw [e]
  congr 2
  by_cases h1 : p = p' <;> by_cases h2 : q = q' <;> by_cases h3 : t = t' <;> simp [h1, h2, h3]

set_option maxRecDepth 100000 in
theorem rfind_any (w : World) (v : Value) (M : List Pr) (S p q t : Int) (h : PairsOwn w 0 v M) (hl : M.length ≤ 1000) :
    Calls Tryd.prog 60 #[.agg #[v, .int .i64 S], .agg #[.int .i64 p, .int .i64 q, .int .u64 t]] w fun e w' => e = .returned (.int .i64 (posF (idxF (keysK M) (p, q, t)))) ∧ Below w.heap.size w w' := by
  obtain ⟨A, cap, rfl⟩ := h.form
  obtain ⟨n, hn⟩ : ∃ n, M.length = n := ⟨_, rfl⟩
  rw [hn] at h hl ⊢
  have HO := Lib.hid h
  have HN := Lib.hid hn
  have H0 := Lib.hid (((Mine.start w).new (b := w.heap.size) rfl #[.slice A n cap, .int .i64 S] 28).new (b := w.heap.size + 1) (by simp) #[.int .i64 p, .int .i64 q, .int .u64 t] 80)
  clear h hn
  go_enter Tryd.func60, Tryd.ntmps60
  go_wp2
  generalize hw0 : (w.alloc _).alloc _ = w0
  have H1 := Lib.hid (H0.out.world hw0)
  clear hw0 H0
  go_loopw [5] (fun i wr => ∃ k : Nat, k ≤ n ∧ i = .int .i64 k ∧ Mine w wr [⟨w.heap.size + 1, #[.int .i64 p, .int .i64 q, .int .u64 t], 80⟩, ⟨w.heap.size, #[.slice A n cap, .int .i64 S], 28⟩] [] ∧ ∀ j, j < k → (keysK M).getD j zK ≠ (p, q, t)) (fun i _ => (n - intOf i).toNat)
  case atStart => exact ⟨0, by omega, rfl, H1.out, fun j hj => by omega⟩
  case round =>
    obtain ⟨k, hk, rfl, hM, hnot⟩ := hrel
    have HM := Lib.hid hM
    have HX := Lib.hid hnot
    clear hM hnot H1
    obtain ⟨a0, a1⟩ := (HM.out.at_ 1 rfl).c2
    by_cases hlt : k < n
    · obtain ⟨⟨⟨p', q', t'⟩, ⟨f', y1, y2, y3, y4, m'⟩⟩, hkk⟩ : ∃ x : Pr, M.getD k zP = x := ⟨_, rfl⟩
      obtain ⟨g, cap', e', hc, _, _⟩ := PairsOwn.at_ (PairsOwn.below HO.out HM.out.below) (k := k) (by rw [HN.out]; exact hlt) hkk
      rw [HN.out] at e'
      obtain ⟨rfl, rfl⟩ : A = some ⟨g, 0, none⟩ ∧ cap = cap' := by simpa using e'
      clear e'
      obtain ⟨c0, c1, c2⟩ := hc.k
      obtain ⟨b0, b1, b2⟩ := (HM.out.at_ 0 rfl).c3
      have HKK : Hid ((keysK M).getD k zK = (p', q', t')) := Lib.hid (by rw [keysK_getD, hkk])
      clear hkk hc
      by_cases he : (p', q', t') = (p, q, t)
      · have hq := fun w => (eqlR p' q' t' p q t w).trans (by rw [decide_eq_true he])
        go_wp2
        go_region
        go_wp2
        go_ret
        refine ⟨?_, (HM.out.quiet (Kept.drew0 _)).below⟩
        rw [idxF_some (i := k) (by rw [keysK_len, HN.out]; exact hlt) (HKK.out.trans he) HX.out]
        rfl
      · have hq := fun w => (eqlR p' q' t' p q t w).trans (by rw [decide_eq_false he])
        have HE := Lib.hid he
        clear he
        go_wp2
        go_region
        go_wp2
        go_roundw
        case rel =>
          refine ⟨k + 1, by omega, by go_num, HM.out.quiet (Kept.drew0 _), fun j hj => ?_⟩
          rcases Nat.lt_or_ge j k with h1 | h1
          · exact HX.out j h1
          · obtain rfl : j = k := by omega
            rw [HKK.out]
            exact HE.out
        case measure => simp [intOf]; omega
    · obtain rfl : k = n := by omega
      go_wp2
      go_ret
      refine ⟨?_, HM.out.below⟩
      rw [idxF_none (fun i hi => HX.out i (by rw [keysK_len, HN.out] at hi; exact hi))]
      rfl

theorem rpicked_any (a : Int) (n : Nat) (w : World) (ha : I64 a) (hn : 0 < n) (hl : n ≤ 1000000) :
    Calls Tryd.prog 57 #[.int .i64 a, .int .i64 n] w fun e w' => e = .returned (.int .i64 (pickF a n)) ∧ w = w' := by
  obtain ⟨h1, h2, h3⟩ := tmod_bd a hn
  obtain ⟨h4, h5⟩ := ha
  have HP := Lib.hid h1
  have hp := pickF_lt a hn
  have e0 : IntKind.i64.wrap (a.tmod n) = a.tmod n := by rw [IntKind.wrap_i64]; omega
  have e1 : IntKind.i64.wrap (a.tmod n + n) = a.tmod n + n := by rw [IntKind.wrap_i64]; omega
  have e3 : ¬ ((n : Int) = 0) := by omega
  have e4 : ¬ (n = 0) := by omega
  clear h1 h2 h3 h4 h5 hp
  go_enter Tryd.func57, Tryd.ntmps57
  go_wp2
  go_ret
  exact ⟨by rw [← HP.out]; rfl, rfl⟩
end Go.Proofs.YtddbjbdhbeijjaaDoor
