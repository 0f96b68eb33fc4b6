/- Several texts of ours in one: Qo, Nm, L13s. -/
import Derived.Test.YtddbjbdhbeijjaaDoorGQiQjQk
import Derived.Test.YtddbjbdhbeijjaaDoorGVaVrFr
import Derived.Deep.Slices
import Derived.Deep.Strs
import Derived.Deep.FieldsWide
import Derived.ProofKit
import Derived.OpenShut
import Derived.ChangeArms
import Derived.Test.YtddbjbdhbeijjaaDoorGNhNk
import Derived.Test.YtddbjbdhbeijjaaDoorGQmQnL13p
import Derived.Deep.RegionHeld3
/- A deed, a slice of deeds of layer 13, as arguments. -/
namespace Go.Proofs.YtddbjbdhbeijjaaDoor
set_option linter.unusedVariables false
set_option linter.unusedSimpArgs false
open Go.ChangeShapes Go.WideShapes Go.ChangeAt Go.RowKit Go.Joins

theorem listQ3 {α : Type} {zs : List α} (h : zs.length = 3) : ∃ c0 c1 c2, zs = [c0, c1, c2] := by
  match zs, h with
  | [c0, c1, c2], _ => exact ⟨c0, c1, c2, rfl⟩
theorem listQ4 {α : Type} {zs : List α} (h : zs.length = 4) : ∃ c0 c1 c2 c3, zs = [c0, c1, c2, c3] := by
  match zs, h with
  | [c0, c1, c2, c3], _ => exact ⟨c0, c1, c2, c3, rfl⟩
theorem listQ6 {α : Type} {zs : List α} (h : zs.length = 6) : ∃ c0 c1 c2 c3 c4 c5, zs = [c0, c1, c2, c3, c4, c5] := by
  match zs, h with
  | [c0, c1, c2, c3, c4, c5], _ => exact ⟨c0, c1, c2, c3, c4, c5, rfl⟩
theorem listQ16 {α : Type} {zs : List α} (h : zs.length = 16) : ∃ c0 c1 c2 c3 c4 c5 c6 c7 c8 c9 c10 c11 c12 c13 c14 c15, zs = [c0, c1, c2, c3, c4, c5, c6, c7, c8, c9, c10, c11, c12, c13, c14, c15] := by
  match zs, h with
  | [c0, c1, c2, c3, c4, c5, c6, c7, c8, c9, c10, c11, c12, c13, c14, c15], _ => exact ⟨c0, c1, c2, c3, c4, c5, c6, c7, c8, c9, c10, c11, c12, c13, c14, c15, rfl⟩
theorem qo_int : Tryd.prog.cellsOf 3 = 1 := by kernel_rfl
theorem qo_u64 : Tryd.prog.cellsOf 31 = 1 := by kernel_rfl
theorem qo_bool : Tryd.prog.cellsOf 4 = 1 := by kernel_rfl
theorem qo_u8 : Tryd.prog.cellsOf 5 = 1 := by kernel_rfl
theorem qo_rgt : Tryd.prog.cellsOf 33 = 3 := by kernel_rfl
theorem qo_line : Tryd.prog.cellsOf 35 = 6 := by kernel_rfl
theorem qo_hit : Tryd.prog.cellsOf 37 = 6 := by kernel_rfl
theorem qo_deed : Tryd.prog.cellsOf 39 = 16 := by kernel_rfl
theorem qo_u8of {a : Int} (h : (Lit.int .u8 a).wf = true) : U8 a := by obtain ⟨h0, h1⟩ := bounds_u8 h; unfold U8; omega

section
variable {H : Type} {enc : TypeId × Value → H} {w : World} {base : Nat} {spare : Nat → Bool} {held : Bool}
theorem qo_right {fuel : Nat} {c0 c1 c2 : Value} {x : DataW H × List MemPlace} (hf : DataW.trod enc Tryd.prog w base spare held fuel 33 [c0, c1, c2] = some x) :
    ∃ a b c : Bool, c0 = .bool a ∧ c1 = .bool b ∧ c2 = .bool c := by
  obtain ⟨xs, m, _, _, hl, hxl, hel⟩ := DataW.trod_struct Tryd.underlying33 hf
  obtain ⟨y0, y1, y2, rfl⟩ := listQ3 (zs := xs) (by simpa using hxl)
  have e0 := hel 0 _ rfl
  have e1 := hel 1 _ rfl
  have e2 := hel 2 _ rfl
  simp [qo_bool] at e0 e1 e2
  obtain ⟨a, h0, _⟩ := DataW.trod_bool Tryd.underlying4 e0
  obtain ⟨b, h1, _⟩ := DataW.trod_bool Tryd.underlying4 e1
  obtain ⟨c, h2, _⟩ := DataW.trod_bool Tryd.underlying4 e2
  simp at h0 h1 h2
  exact ⟨a, b, c, h0, h1, h2⟩
theorem qo_lineOf {fuel : Nat} {c0 c1 c2 c3 c4 c5 : Value} {x : DataW H × List MemPlace} (hf : DataW.trod enc Tryd.prog w base spare held fuel 35 [c0, c1, c2, c3, c4, c5] = some x) :
    ∃ l : Ln, c0 = .int .u64 l.1 ∧ c1 = .bool l.2.1 ∧ c2 = .bool l.2.2.1 ∧ c3 = .bool l.2.2.2.1 ∧ c4 = .bool l.2.2.2.2.1 ∧ c5 = .int .u8 l.2.2.2.2.2 ∧ OkL l := by
  obtain ⟨xs, m, _, _, hl, hxl, hel⟩ := DataW.trod_struct Tryd.underlying35 hf
  obtain ⟨y0, y1, y2, y3, rfl⟩ := listQ4 (zs := xs) (by simpa using hxl)
  have e0 := hel 0 _ rfl
  have e1 := hel 1 _ rfl
  have e2 := hel 2 _ rfl
  have e3 := hel 3 _ rfl
  simp [qo_bool, qo_u64, qo_u8, qo_rgt] at e0 e1 e2 e3
  obtain ⟨f, h0, _, _⟩ := DataW.trod_int Tryd.underlying31 e0
  obtain ⟨a, b, c, h1, h2, h3⟩ := qo_right e1
  obtain ⟨d, h4, _⟩ := DataW.trod_bool Tryd.underlying4 e2
  obtain ⟨n, h5, _, w5⟩ := DataW.trod_int Tryd.underlying5 e3
  simp at h0 h4 h5
  exact ⟨(f, a, b, c, d, n), h0, h1, h2, h3, h4, h5, qo_u8of w5⟩
theorem qo_hitOf {fuel : Nat} {c0 c1 c2 c3 c4 c5 : Value} {x : DataW H × List MemPlace} (hf : DataW.trod enc Tryd.prog w base spare held fuel 37 [c0, c1, c2, c3, c4, c5] = some x) :
    ∃ h : Ht, c0 = .int .u64 h.1 ∧ c1 = .int .i64 h.2.1 ∧ c2 = .bool h.2.2.1 ∧ c3 = .bool h.2.2.2.1 ∧ c4 = .bool h.2.2.2.2.1 ∧ c5 = .bool h.2.2.2.2.2 := by
  obtain ⟨xs, m, _, _, hl, hxl, hel⟩ := DataW.trod_struct Tryd.underlying37 hf
  obtain ⟨y0, y1, y2, y3, rfl⟩ := listQ4 (zs := xs) (by simpa using hxl)
  have e0 := hel 0 _ rfl
  have e1 := hel 1 _ rfl
  have e2 := hel 2 _ rfl
  have e3 := hel 3 _ rfl
  simp [qo_bool, qo_u64, qo_int, qo_rgt] at e0 e1 e2 e3
  obtain ⟨f, h0, _, _⟩ := DataW.trod_int Tryd.underlying31 e0
  obtain ⟨lv, h1, _, _⟩ := DataW.trod_int Tryd.underlying3 e1
  obtain ⟨a, b, c, h2, h3, h4⟩ := qo_right e2
  obtain ⟨d, h5, _⟩ := DataW.trod_bool Tryd.underlying4 e3
  simp at h0 h1 h5
  exact ⟨(f, lv, a, b, c, d), h0, h1, h2, h3, h4, h5⟩
set_option maxRecDepth 100000 in
theorem qo_deedOf {fuel : Nat} {cs : List Value} {x : DataW H × List MemPlace} (hf : DataW.trod enc Tryd.prog w base spare held fuel 39 cs = some x) :
    ∃ y : Dt, cs = [.int .i64 y.kd, .int .i64 y.p, .int .i64 y.pk, .int .u64 y.a, .int .u64 y.l.1, .bool y.l.2.1, .bool y.l.2.2.1, .bool y.l.2.2.2.1, .bool y.l.2.2.2.2.1, .int .u8 y.l.2.2.2.2.2, .int .u64 y.h.1, .int .i64 y.h.2.1, .bool y.h.2.2.1, .bool y.h.2.2.2.1, .bool y.h.2.2.2.2.1, .bool y.h.2.2.2.2.2] ∧ OkD y := by
  obtain ⟨xs, m, _, _, hl, hxl, hel⟩ := DataW.trod_struct Tryd.underlying39 hf
  obtain ⟨y0, y1, y2, y3, y4, y5, rfl⟩ := listQ6 (zs := xs) (by simpa using hxl)
  rw [qo_deed] at hl
  obtain ⟨c0, c1, c2, c3, c4, c5, c6, c7, c8, c9, c10, c11, c12, c13, c14, c15, rfl⟩ := listQ16 hl
  have e0 := hel 0 _ rfl
  have e1 := hel 1 _ rfl
  have e2 := hel 2 _ rfl
  have e3 := hel 3 _ rfl
  have e4 := hel 4 _ rfl
  have e5 := hel 5 _ rfl
  simp [qo_int, qo_u64, qo_line, qo_hit] at e0 e1 e2 e3 e4 e5
  obtain ⟨kd, h0, _, _⟩ := DataW.trod_int Tryd.underlying3 e0
  obtain ⟨p, h1, _, w1⟩ := DataW.trod_int Tryd.underlying3 e1
  obtain ⟨pk, h2, _, w2⟩ := DataW.trod_int Tryd.underlying3 e2
  obtain ⟨a, h3, _, w3⟩ := DataW.trod_int Tryd.underlying31 e3
  obtain ⟨l, h4, h5, h6, h7, h8, h9, hok⟩ := qo_lineOf e4
  obtain ⟨h, h10, h11, h12, h13, h14, h15⟩ := qo_hitOf e5
  simp at h0 h1 h2 h3
  subst h0 h1 h2 h3 h4 h5 h6 h7 h8 h9 h10 h11 h12 h13 h14 h15
  exact ⟨⟨kd, p, pk, a, l, h⟩, rfl, i64_of w1, i64_of w2, w64_of w3, hok⟩
set_option maxRecDepth 100000 in
theorem open_dt {r : Reach} {b0 : Nat} {v : Value} {d : DataW H} {p : List MemPlace} (hv : Value.okWide Tryd.prog w r b0 39 v) (h : DataW.Trod enc Tryd.prog w base spare held 39 v d p) :
    ∃ y : Dt, v = .agg (deedC y) ∧ OkD y := by
  obtain ⟨cs, rfl, hsz, _⟩ : ∃ cs, v = .agg cs ∧ cs.size = Tryd.prog.cellsOf 39 ∧ Row.okWide Tryd.prog w r b0 39 cs := by
    simpa [Value.okWide, Tryd.underlying39] using hv
  obtain ⟨fuel, hf⟩ := h
  obtain ⟨cs⟩ := cs
  obtain ⟨y, e, hk⟩ := qo_deedOf hf
  have e' : cs = _ := e
  subst e'
  exact ⟨y, rfl, hk⟩
set_option maxRecDepth 100000 in
theorem open_dts {r : Reach} {b0 : Nat} {v : Value} {d : DataW H} {p : List MemPlace} (hv : Value.okWide Tryd.prog w r b0 22 v) (h : DataW.Trod enc Tryd.prog w base spare held 22 v d p) :
    ∃ A ds c, v = .slice A ds.length c ∧ ds.length ≤ maxLen ∧ DtsIn w A ds ∧ DtsOk ds := by
  obtain ⟨a, len, cap, rfl⟩ := okWide_slice Tryd.underlying22 hv
  obtain ⟨fuel, hf⟩ := h
  rcases Deep.open_slice Tryd.underlying22 hf with ⟨hcs, _⟩ | ⟨ad, len', cap', m, n, D, Pl, hcs, _, hl, hm, hmm, _, hel⟩
  · have e : Value.slice a len cap = .slice none 0 0 := by simpa [Value.cells] using hcs
    rw [e]
    exact ⟨none, [], 0, rfl, by simp [maxLen], fun k hk => absurd hk (by simp), fun k hk => absurd hk (by simp)⟩
  · have e : Value.slice a len cap = .slice (some ad) len' cap' := by simpa [Value.cells] using hcs
    rw [e]
    rw [qo_deed] at hel
    have hle : len' ≤ m := by rw [hmm]; split <;> omega
    have hI : Inhabited Dt := ⟨zDt⟩
    obtain ⟨g, hg⟩ := Deep.choose_lt (α := Dt) (n := len') (p := fun k y => DtIs w (ad.add (k * 16)) y ∧ OkD y) (fun k hk => by
      obtain ⟨cs', h1, h2⟩ := hel k (by omega)
      obtain ⟨y, rfl, w1⟩ := qo_deedOf h2
      obtain ⟨_, _, hc⟩ := World.cells?_some h1
      exact ⟨y, ⟨by simpa [Addr.add] using hc 0 (by omega), hc 1 (by omega), hc 2 (by omega), hc 3 (by omega), hc 4 (by omega), hc 5 (by omega), hc 6 (by omega), hc 7 (by omega), hc 8 (by omega), hc 9 (by omega), hc 10 (by omega), hc 11 (by omega), hc 12 (by omega), hc 13 (by omega), hc 14 (by omega), hc 15 (by omega)⟩, w1⟩)
    have hget : ∀ k, k < len' → ((List.range len').map g).getD k zDt = g k := fun k hk => by simp [List.getD, hk]
    refine ⟨some ad, (List.range len').map g, cap', by simp, by simp; omega, fun k hk => ⟨ad, rfl, ?_⟩, fun k hk => ?_⟩
    · have hk' : k < len' := by simpa using hk
      rw [hget k hk']; exact (hg k hk').1
    · have hk' : k < len' := by simpa using hk
      rw [hget k hk']; exact (hg k hk').2
end
end Go.Proofs.YtddbjbdhbeijjaaDoor
/- Layer 12: lines, and slots, compared; the document's example (awake); boxes and the table of bits. -/
namespace Go.Proofs.YtddbjbdhbeijjaaDoor
set_option linter.unusedVariables false
set_option linter.unusedSimpArgs false
open Go.ChangeShapes Go.WideShapes Go.ChangeAt Go.RowKit Go.Joins

set_option maxRecDepth 100000 in
theorem neqG (W U Y : Bool) (w : World) : (binOp .neq 33 (rgtV W U Y) (rgtV W U Y)).run Tryd.prog w = .ok (.bool false) w := by
  have hs2 : Tryd.prog.stoodInHeld 33 = false := by kernel_rfl
  simp only [binOp]
  simp [Op.equal, Op.maxDepth, run_equalIn_struct w 9999 33 _ _ (by simp [Program.fieldsOf, Tryd.underlying33]) hs2, Program.fieldsOf, Tryd.underlying33, Op.eqFields, go_sem]
end Go.Proofs.YtddbjbdhbeijjaaDoor
/- The walk of TlbSmall. (Laid by tools/gen_l13.py.) -/
namespace Go.Proofs.YtddbjbdhbeijjaaDoor
set_option linter.unusedVariables false
set_option linter.unusedSimpArgs false
open Go.ChangeShapes Go.WideShapes Go.ChangeAt Go.RowKit Go.Joins

set_option maxRecDepth 100000 in
set_option maxHeartbeats 6400000 in
theorem tlbSmall_walk (A : Option Addr) (c : Nat) (ds : List Dt) (w : World) (ht : Tabs w) (hl : ds.length ≤ maxLen) (hd : DtsIn w A ds) (hok : DtsOk ds) (kd p pk a l0 l5 h0 h1 : Int) (l1 l2 l3 l4 h2 h3 h4 h5 : Bool) (hp : I64 p) (hk : I64 pk) (ha : W64 a) (hol : OkL (l0, l1, l2, l3, l4, l5)) :
    Calls Tryd.prog 4 #[.slice A ds.length c, .agg #[.int .i64 kd, .int .i64 p, .int .i64 pk, .int .u64 a, .int .u64 l0, .bool l1, .bool l2, .bool l3, .bool l4, .int .u8 l5, .int .u64 h0, .int .i64 h1, .bool h2, .bool h3, .bool h4, .bool h5]] w fun e w' => e = .returned (.bool true) ∧ Below w.heap.size w w' := by
  have HT := Lib.hid ht
  have HL1 := Lib.hid hl
  have HD := Lib.hid hd
  have HOK := Lib.hid hok
  have HP := Lib.hid hp
  have HPK := Lib.hid hk
  have HA := Lib.hid ha
  have HOL := Lib.hid hol
  obtain ⟨L, hL⟩ : ∃ L, playD 5 ds (mostT ds) = L := ⟨_, rfl⟩
  have HLL := Lib.hid hL
  clear hL
  obtain ⟨z, hz⟩ : ∃ z, (l5 == 0) = z := ⟨_, rfl⟩
  have HZ := Lib.hid hz
  have hq := fun w => neqG l1 l2 l3 w
  obtain ⟨g9, hg9⟩ : ∃ x, a / 32768 = x := ⟨_, rfl⟩
  obtain ⟨r9, hr9⟩ : ∃ x, a % 4096 = x := ⟨_, rfl⟩
  have hg := ha
  obtain ⟨a0, a1⟩ := hg
  have fe1 : IntKind.u64.wrap (a.tdiv 32768) = g9 := (quo_pos ha (by decide)).trans hg9
  have eb : IntKind.u64.wrap (g9 * 32768) = g9 * 32768 := by rw [IntKind.wrap_u64]; omega
  have er : a.tmod 4096 = r9 := (Int.tmod_eq_emod_of_nonneg a0).trans hr9
  have er2 : IntKind.u64.wrap r9 = r9 := by rw [IntKind.wrap_u64]; omega
  have hg0 : 0 ≤ g9 ∧ g9 ≤ 562949953421311 := by omega
  have hr0 : 0 ≤ r9 ∧ r9 ≤ 4095 := by omega
  have HG0 := Lib.hid hg0
  have HR0 := Lib.hid hr0
  have HAD : Hid (∀ i : Int, adT a i = g9 * 32768 + 4096 * i + r9) := Lib.hid fun i => by unfold adT; rw [hg9, hr9]
  have H0 := Lib.hid ((Has.start0 w (fun _ => False)).new (b := w.heap.size) rfl #[.int .i64 kd, .int .i64 p, .int .i64 pk, .int .u64 a, .int .u64 l0, .bool l1, .bool l2, .bool l3, .bool l4, .int .u8 l5, .int .u64 h0, .int .i64 h1, .bool h2, .bool h3, .bool h4, .bool h5] 39)
  clear ht hl hd hok hp hk ha hol hz hg9 hr9 a0 a1 hg0 hr0
  cases z
  · go_enter Tryd.func4, Tryd.ntmps4
    go_upto_region 1 with fail
    generalize hw0 : w.alloc _ = v0
    have H1 := Lib.hid (H0.out.world hw0)
    clear hw0 H0
    generalize w.heap.size = bd at H1 ⊢
    go_upto_region 3 with (first | (go_at_call 9; refine (awake13_any _ (H1.out.tabs HT.out off_no)).mono ?_; rintro e w1 ⟨rfl, hb1⟩; have H2 := Lib.hid (H1.out.quiet hb1); clear hb1 H1) | (go_at_call 17; refine (run13_any A c ds _ (H2.out.tabs HT.out off_no) HL1.out (dts_below HD.out H2.out.below0) HOK.out).mono ?_; rw [HLL.out]; rintro e w3 ⟨q, rfl, G, hH⟩; have H3 : Hid (Has w w3 (fun _ => False) [⟨tlbT q 5 L, G⟩] [⟨bd, #[.int .i64 kd, .int .i64 p, .int .i64 pk, .int .u64 a, .int .u64 l0, .bool l1, .bool l2, .bool l3, .bool l4, .int .u8 l5, .int .u64 h0, .int .i64 h1, .bool h2, .bool h3, .bool h4, .bool h5], 39⟩] []) := Lib.hid (H2.out.join hH); clear hH H2))
    obtain ⟨e0, e1, e2, e3, e4, e5, e6, e7, e8, e9, e10, e11, e12, e13, e14, e15⟩ := (H3.out.at_ 0 rfl).c16
    have HND := Lib.hid (H3.out.the 0 rfl).nodup
    have HMZ : Hid (l5 ≠ 0) := Lib.hid (by have := HZ.out; simpa using this)
    obtain ⟨M, hM⟩ : ∃ M, smallT 5 L p a (l0, l1, l2, l3, l4, l5) pk = M := ⟨_, rfl⟩
    have HLS := Lib.hid hM
    have HSH : Hid (∀ i : Int, 0 ≤ i → i ≤ 7 → hasG (l0, l1, l2, l3, l4, l5) i = true → lookT M p (adT a i) = some (hitL (l0, l1, l2, l3, l4, l5) (atG (l0, l1, l2, l3, l4, l5) i) 1)) := Lib.hid fun i i0 i7 h => hM ▸ small_has HND.out (by decide) p a pk HMZ.out i0 i7 h
    have HSN : Hid (∀ i : Int, 0 ≤ i → i ≤ 7 → hasG (l0, l1, l2, l3, l4, l5) i = false → ∀ x, lookT M p (adT a i) = some x → x.2.1 ≠ 1) := Lib.hid fun i i0 i7 h x => hM ▸ small_none HND.out (by decide) p a pk HMZ.out i0 i7 h
    clear hM
    have hz := HZ.out
    go_upto_region 6 with (go_at_call 18; refine (H3.out.tSmall HT.out off_no p a HP.out HA.out (l0, l1, l2, l3, l4, l5) HOL.out pk HPK.out).mono ?_; rw [HLS.out]; rintro e w4 ⟨rfl, hE⟩; obtain ⟨G4, hE2⟩ := hE.out; have H4 := Lib.hid hE2; clear hE hE2 H3)
    clear e0 e1 e2 e3 e4 e5 e6 e7 e8 e9 e10 e11 e12 e13 e14 e15
    obtain ⟨e0, e1, e2, e3, e4, e5, e6, e7, e8, e9, e10, e11, e12, e13, e14, e15⟩ := (H4.out.at_ 0 rfl).c16
    clear hz
    go_upto_region 8 with fail
    clear e0 e1 e2 e3 e4 e5 e6 e7 e8 e9 e10 e11 e12 e13 e14 e15
    go_wp2
    go_loopw [8] (fun i wr => ∃ k : Nat, k ≤ 8 ∧ i = .int .i64 k ∧ Hid (Has w wr (fun _ => False) [⟨tlbT q 5 M, G4⟩] [⟨bd, #[.int .i64 kd, .int .i64 p, .int .i64 pk, .int .u64 a, .int .u64 l0, .bool l1, .bool l2, .bool l3, .bool l4, .int .u8 l5, .int .u64 h0, .int .i64 h1, .bool h2, .bool h3, .bool h4, .bool h5], 39⟩] [])) (fun i _ => (8 - intOf i).toNat)
    case atStart => exact ⟨0, by omega, rfl, H4⟩
    case round =>
      obtain ⟨k, hk, rfl, HR⟩ := hrel
      clear H4
      by_cases hlt : k < 8
      · have k0 : (0 : Int) ≤ k := by omega
        have k7 : (k : Int) ≤ 7 := by omega
        have k8 : (k : Int) < 8 := by omega
        have HW9 : Hid (W64 (adT a k)) := Lib.hid (ad_bd HA.out k0 k7)
        obtain ⟨hg0, hg1⟩ := HG0.out
        obtain ⟨hr0, hr1⟩ := HR0.out
        have f1 : IntKind.u64.wrap (k : Int) = k := by rw [IntKind.wrap_u64]; omega
        have f2 : IntKind.u64.wrap (4096 * (k : Int)) = 4096 * k := by rw [IntKind.wrap_u64]; omega
        have f3 : IntKind.u64.wrap (g9 * 32768 + 4096 * (k : Int)) = g9 * 32768 + 4096 * k := by rw [IntKind.wrap_u64]; omega
        have f4 : IntKind.u64.wrap (g9 * 32768 + 4096 * (k : Int) + r9) = adT a k := by rw [HAD.out, IntKind.wrap_u64]; omega
        have HSH1 := Lib.hid (HSH.out k k0 k7)
        have HSN1 := Lib.hid (HSN.out k k0 k7)
        have HHAS := Lib.hid fun w1 (ht : Tabs w1) => ghas_any (l0, l1, l2, l3, l4, l5) k w1 ht.p HOL.out
        generalize adT a k = ad at *
        clear hg0 hg1 hr0 hr1
        obtain ⟨f, hf⟩ : ∃ f, atG (l0, l1, l2, l3, l4, l5) k = f := ⟨_, rfl⟩
        rw [hf] at HSH1 HHAS
        clear hf
        obtain ⟨e0, e1, e2, e3, e4, e5, e6, e7, e8, e9, e10, e11, e12, e13, e14, e15⟩ := (HR.out.at_ 0 rfl).c16
        cases hb : hasG (l0, l1, l2, l3, l4, l5) k with
        | true =>
          have HX : Hid (ansT (lookT M p ad) = .tuple #[.agg #[.int .u64 f, .int .i64 1, .bool l1, .bool l2, .bool l3, .bool l4], .bool true]) := Lib.hid (by rw [HSH1.out hb]; rfl)
          rw [hb] at HHAS
          clear hb HSH1 HSN1
          go_upto_region 11 with (go_at_call 13; refine (HR.out.tLook HT.out off_no p ad HP.out HW9.out).mono ?_; rw [HX.out]; rintro e w5 ⟨rfl, hb⟩; have H5 := Lib.hid (HR.out.quiet hb); clear hb HR)
          clear e0 e1 e2 e3 e4 e5 e6 e7 e8 e9 e10 e11 e12 e13 e14 e15
          generalize hq9 : w5.alloc _ = w6
          have H6 := Lib.hid ((H5.out.new (b := w5.heap.size) rfl #[.int .u64 f, .int .i64 1, .bool l1, .bool l2, .bool l3, .bool l4] 37).world hq9)
          clear hq9 H5
          generalize w5.heap.size = b6 at *
          obtain ⟨e0, e1, e2, e3, e4, e5, e6, e7, e8, e9, e10, e11, e12, e13, e14, e15⟩ := (H6.out.at_ 1 rfl).c16
          go_upto_region 12 with (go_at_call 19; refine (HHAS.out _ (H6.out.tabs HT.out off_no)).mono ?_; rintro e w7 ⟨rfl, hb⟩; have H7 := Lib.hid (H6.out.quiet hb); clear hb H6)
          clear e0 e1 e2 e3 e4 e5 e6 e7 e8 e9 e10 e11 e12 e13 e14 e15
          obtain ⟨e0, e1, e2, e3, e4, e5, e6, e7, e8, e9, e10, e11, e12, e13, e14, e15⟩ := (H7.out.at_ 1 rfl).c16
          obtain ⟨r0, r1, r2, r3, r4, r5⟩ := (H7.out.at_ 0 rfl).c6
          go_wp2
          go_roundw
          case rel => exact ⟨k + 1, by omega, by go_num, H7.out.pick [1] []⟩
          case measure => simp [intOf]; omega
        | false =>
          cases ho : lookT M p ad with
          | none =>
            have HX : Hid (ansT (lookT M p ad) = .tuple #[.agg #[.int .u64 0, .int .i64 0, .bool false, .bool false, .bool false, .bool false], .bool false]) := Lib.hid (by rw [ho]; rfl)
            clear ho
            rw [hb] at HHAS
            clear hb HSH1 HSN1
            go_upto_region 11 with (go_at_call 13; refine (HR.out.tLook HT.out off_no p ad HP.out HW9.out).mono ?_; rw [HX.out]; rintro e w5 ⟨rfl, hb⟩; have H5 := Lib.hid (HR.out.quiet hb); clear hb HR)
            clear e0 e1 e2 e3 e4 e5 e6 e7 e8 e9 e10 e11 e12 e13 e14 e15
            generalize hq9 : w5.alloc _ = w6
            have H6 := Lib.hid ((H5.out.new (b := w5.heap.size) rfl #[.int .u64 0, .int .i64 0, .bool false, .bool false, .bool false, .bool false] 37).world hq9)
            clear hq9 H5
            generalize w5.heap.size = b6 at *
            obtain ⟨e0, e1, e2, e3, e4, e5, e6, e7, e8, e9, e10, e11, e12, e13, e14, e15⟩ := (H6.out.at_ 1 rfl).c16
            go_upto_region 12 with (go_at_call 19; refine (HHAS.out _ (H6.out.tabs HT.out off_no)).mono ?_; rintro e w7 ⟨rfl, hb⟩; have H7 := Lib.hid (H6.out.quiet hb); clear hb H6)
            clear e0 e1 e2 e3 e4 e5 e6 e7 e8 e9 e10 e11 e12 e13 e14 e15
            obtain ⟨e0, e1, e2, e3, e4, e5, e6, e7, e8, e9, e10, e11, e12, e13, e14, e15⟩ := (H7.out.at_ 1 rfl).c16
            obtain ⟨r0, r1, r2, r3, r4, r5⟩ := (H7.out.at_ 0 rfl).c6
            go_wp2
            go_roundw
            case rel => exact ⟨k + 1, by omega, by go_num, H7.out.pick [1] []⟩
            case measure => simp [intOf]; omega
          | some x =>
            obtain ⟨x0, x1, x2, x3, x4, x5⟩ := x
            have hx1 : (x1 == 1) = false := by
              have h9 : x1 ≠ 1 := HSN1.out hb _ ho
              simp [h9]
            have HX : Hid (ansT (lookT M p ad) = .tuple #[.agg #[.int .u64 x0, .int .i64 x1, .bool x2, .bool x3, .bool x4, .bool x5], .bool true]) := Lib.hid (by rw [ho]; rfl)
            clear ho
            rw [hb] at HHAS
            clear hb HSH1 HSN1
            go_upto_region 11 with (go_at_call 13; refine (HR.out.tLook HT.out off_no p ad HP.out HW9.out).mono ?_; rw [HX.out]; rintro e w5 ⟨rfl, hb⟩; have H5 := Lib.hid (HR.out.quiet hb); clear hb HR)
            clear e0 e1 e2 e3 e4 e5 e6 e7 e8 e9 e10 e11 e12 e13 e14 e15
            generalize hq9 : w5.alloc _ = w6
            have H6 := Lib.hid ((H5.out.new (b := w5.heap.size) rfl #[.int .u64 x0, .int .i64 x1, .bool x2, .bool x3, .bool x4, .bool x5] 37).world hq9)
            clear hq9 H5
            generalize w5.heap.size = b6 at *
            obtain ⟨e0, e1, e2, e3, e4, e5, e6, e7, e8, e9, e10, e11, e12, e13, e14, e15⟩ := (H6.out.at_ 1 rfl).c16
            go_upto_region 12 with (go_at_call 19; refine (HHAS.out _ (H6.out.tabs HT.out off_no)).mono ?_; rintro e w7 ⟨rfl, hb⟩; have H7 := Lib.hid (H6.out.quiet hb); clear hb H6)
            clear e0 e1 e2 e3 e4 e5 e6 e7 e8 e9 e10 e11 e12 e13 e14 e15
            obtain ⟨e0, e1, e2, e3, e4, e5, e6, e7, e8, e9, e10, e11, e12, e13, e14, e15⟩ := (H7.out.at_ 1 rfl).c16
            obtain ⟨r0, r1, r2, r3, r4, r5⟩ := (H7.out.at_ 0 rfl).c6
            go_wp2
            go_roundw
            case rel => exact ⟨k + 1, by omega, by go_num, H7.out.pick [1] []⟩
            case measure => simp [intOf]; omega
      · obtain rfl : k = 8 := by omega
        go_wp2
        go_ret
        exact ⟨rfl, HR.out.below0⟩
  · go_enter Tryd.func4, Tryd.ntmps4
    go_upto_region 1 with fail
    generalize hw0 : w.alloc _ = v0
    have H1 := Lib.hid (H0.out.world hw0)
    clear hw0 H0
    generalize w.heap.size = bd at H1 ⊢
    go_upto_region 3 with (first | (go_at_call 9; refine (awake13_any _ (H1.out.tabs HT.out off_no)).mono ?_; rintro e w1 ⟨rfl, hb1⟩; have H2 := Lib.hid (H1.out.quiet hb1); clear hb1 H1) | (go_at_call 17; refine (run13_any A c ds _ (H2.out.tabs HT.out off_no) HL1.out (dts_below HD.out H2.out.below0) HOK.out).mono ?_; rw [HLL.out]; rintro e w3 ⟨q, rfl, G, hH⟩; have H3 : Hid (Has w w3 (fun _ => False) [⟨tlbT q 5 L, G⟩] [⟨bd, #[.int .i64 kd, .int .i64 p, .int .i64 pk, .int .u64 a, .int .u64 l0, .bool l1, .bool l2, .bool l3, .bool l4, .int .u8 l5, .int .u64 h0, .int .i64 h1, .bool h2, .bool h3, .bool h4, .bool h5], 39⟩] []) := Lib.hid (H2.out.join hH); clear hH H2))
    obtain ⟨e0, e1, e2, e3, e4, e5, e6, e7, e8, e9, e10, e11, e12, e13, e14, e15⟩ := (H3.out.at_ 0 rfl).c16
    have hz := HZ.out
    go_wp2
    go_ret
    exact ⟨rfl, H3.out.below0⟩
end Go.Proofs.YtddbjbdhbeijjaaDoor
