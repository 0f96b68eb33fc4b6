/- Several texts of ours in one: Kh, L9a, Oq. -/
import Derived.Test.YtopmmlcjlopmaaaGreatDoorGKaHmHn
import Derived.Test.YtopmmlcjlopmaaaGreatDoorGL8sHsHt
import Derived.Test.YtopmmlcjlopmaaaGreatDoorGL4cHrL9s
import Derived.Test.YtopmmlcjlopmaaaGreatDoorGVaVrFr
import Derived.Test.YtopmmlcjlopmaaaGreatDoorGHfHgGc
import Derived.Deep.Slices
import Derived.Deep.Strs
import Derived.Deep.FieldsWide
/- Layer 9, plain mathematics: where a translation leads; that it goes again as it went; what a code tells. Nothing of the program. -/
namespace Go.Proofs.YtopmmlcjlopmaaaGreatDoor
set_option linter.unusedVariables false
set_option linter.unusedSimpArgs false

theorem table_page (x : Int) : tableF x % 4096 = 0 := by unfold tableF; omega
theorem low_page {t : Int} (ht : t % 4096 = 0) (l : Int) : lowF t l % 4096 = 0 := by
  unfold lowF
  split
  · rfl
  · rename_i h
    unfold sizeF at h ⊢
    split
    · omega
    · split
      · omega
      · split
        · omega
        · omega
theorem frame_page (x l : Int) : frameF x l % 4096 = 0 := by
  have h1 := table_page x
  have h2 := low_page h1 l
  unfold frameF pageF
  split <;> omega

theorem walk_page (f : Int → Int) (a : Int) (nxe : Bool) : ∀ (n : Nat), n ≤ 4 → ∀ (t : Int) (W U X : Bool), (walkZ 16 f a nxe n t W U X).fr % 4096 = 0
  | 0, _, t, W, U, X => by rw [walk_off (by omega)]; rfl
  | n + 1, hn, t, W, U, X => by
    rw [walk_in (by omega) (by omega)]
    by_cases he : errS 16 (slotF t a ((n + 1 : Nat) : Int)) = 0
    · rw [if_pos he]
      generalize slotF t a ((n + 1 : Nat) : Int) = s
      generalize f (s / 8) = x
      show (onP 16 nxe ((n + 1 : Nat) : Int) x W U X (walkZ 16 f a nxe (((n + 1 : Nat) : Int) - 1))).fr % 4096 = 0
      cases hP : bitF x 0
      · rw [on_abs hP]; rfl
      · cases hR : resF x ((n + 1 : Nat) : Int) 16 nxe
        · cases hL : leafF x ((n + 1 : Nat) : Int)
          · rw [on_on hP hR hL, show (((n + 1 : Nat) : Int)) - 1 = (n : Int) by omega]
            exact walk_page f a nxe n (by omega) _ _ _ _
          · rw [on_leaf hP hR hL]; exact frame_page _ _
        · rw [on_res hP hR]; rfl
    · rw [if_neg he]; rfl

theorem low_same {a l : Int} (h0 : 0 ≤ a) (h1 : 1 ≤ l) (h3 : l ≤ 3) : lowF a l % 4096 = a % 4096 ∧ 0 ≤ lowF a l ∧ lowF a l < 1073741824 ∧ (l = 1 → lowF a l < 4096) := by
  obtain rfl | rfl | rfl : l = 1 ∨ l = 2 ∨ l = 3 := by omega
  · show a % 4096 % 4096 = _ ∧ 0 ≤ a % 4096 ∧ a % 4096 < _ ∧ (_ → a % 4096 < _); omega
  · show a % 2097152 % 4096 = _ ∧ 0 ≤ a % 2097152 ∧ a % 2097152 < _ ∧ (_ → a % 2097152 < _); omega
  · show a % 1073741824 % 4096 = _ ∧ 0 ≤ a % 1073741824 ∧ a % 1073741824 < _ ∧ (_ → a % 1073741824 < _); omega

/-- where a translation that doesn't fault leads -/
theorem jpa_facts {f : Int → Int} {P : Pth} {a : Int} (hs : Snd f 4 P) (hp : P.fr % 4096 = 0) (hy : P.why = 0) (ha : 0 ≤ a) : jpa P a % 4096 = a % 4096 ∧ 0 ≤ jpa P a ∧ (P.lev = 1 → jpa P a < 65536) ∧ jpa P a < 2147483648 := by
  obtain ⟨_, l1, l3, f0, f1⟩ := hs.yes hy
  have h := low_same ha l1 l3
  have e : jpa P a = P.fr + lowF a P.lev := wrap_in (by omega) (by omega)
  rw [e]
  refine ⟨by omega, by omega, fun h1 => ?_, by omega⟩
  have := h.2.2.2 h1
  omega

theorem mark_congr {M : Int} {f : Int → Int} {S T : List (Int × Int × Int)} {full : Bool} (hl : S.length = T.length) (h : ∀ i, i < S.length → (stepAt S i).2.1 = (stepAt T i).2.1) : ∀ k, k ≤ S.length → markN M f S full k = markN M f T full k
  | 0, _ => rfl
  | k + 1, hk => by
    show orS M (markN M f S full k) (stepAt S k).2.1 (flagN S.length full k) = orS M (markN M f T full k) (stepAt T k).2.1 (flagN T.length full k)
    rw [mark_congr hl h k (by omega), h k (by omega), hl]

/-- behind its marks a walk goes as it went, and what it would mark is marked -/
theorem again {f : Int → Int} {a : Int} {nxe d : Bool} {t : Int} {W U X : Bool} {P Q : Pth} (hw : ∀ s, W64 (f s)) (hP : walkZ 16 f a nxe 4 t W U X = P) (hQ : walkZ 16 (markN 16 f P.steps d P.steps.length) a nxe 4 t W U X = Q) :
    AlP P Q ∧ markN 16 (markN 16 f P.steps d P.steps.length) Q.steps d Q.steps.length = markN 16 f P.steps d P.steps.length := by
  have hA := walk_alike (f := f) (h := markN 16 f P.steps d P.steps.length) (fun j => (mark_up hw _).al hw j) a nxe 4 (by decide) t W U X
  rw [show ((4 : Nat) : Int) = 4 from rfl, hP, hQ] at hA
  refine ⟨hA, ?_⟩
  have h := mark_congr (M := 16) (f := markN 16 f P.steps d P.steps.length) (full := d) hA.len (fun i hi => (hA.at_ i hi).2.1) P.steps.length (Nat.le_refl _)
  rw [← hA.len, ← h]
  exact mark_twice hw

theorem alp_jmay {P Q : Pth} (h : AlP P Q) (u : Usx) : jmay Q u = jmay P u := by unfold jmay; rw [h.why, h.W, h.U, h.X]
theorem alp_jpa {P Q : Pth} (h : AlP P Q) (a : Int) : jpa Q a = jpa P a := by unfold jpa; rw [h.lev, h.fr]

end Go.Proofs.YtopmmlcjlopmaaaGreatDoor
/- The walk of RefwalkAgain. (Laid by tools/gen_l9.py.) -/
namespace Go.Proofs.YtopmmlcjlopmaaaGreatDoor
set_option linter.unusedVariables false
set_option linter.unusedSimpArgs false
open Go.ChangeShapes Go.WideShapes Go.ChangeAt Go.RowKit Go.Joins

set_option maxRecDepth 100000 in
set_option maxHeartbeats 3200000 in
theorem refwalkAgain_walk (A : Option Addr) (c : Nat) (ds : List (Int × Int × Int × Int)) (u : Usx) (a : Int) (w : World) (hs : Shifts w) (hg : ErrT w) (hl : ds.length ≤ maxLen) (hd : PutsIn w A ds) (hok : PutsOk ds) (hr : W64 u.root) (ha : W64 a) :
    Calls Tryz.prog 5 #[.slice A ds.length c, useV u, .int .u64 a] w fun e w' => e = .returned (.bool true) ∧ Below w.heap.size w w' := by
  have HS := Lib.hid hs
  have HE := Lib.hid hg
  have hz := size_shifts hs
  obtain ⟨f, hf⟩ : ∃ f, putSt ds (mostP ds) = f := ⟨_, rfl⟩
  have HB := Lib.hid (fun w1 (hb : Below w.heap.size w w1) => built_any w1 A c ds hl (puts_below hd hb) hok)
  rw [hf] at HB
  have H0 := Lib.hid ((Mine.start w).new (b := w.heap.size) rfl (useCells u) 29)
  clear hs hg hd hok hl hf
  go_enter Tryz.func5, Tryz.ntmps5
  go_upto_region 1 with fail
  generalize hw0 : w.alloc _ = w0
  have H1 := Lib.hid (H0.out.world hw0)
  clear hw0 H0
  go_upto_region 5 with (first | (go_at_call 7; refine (awake9_any _ (shifts_under HS.out H1.out.below hz) (errT_keep HE.out H1.out.below)).mono ?_; rintro e w1 ⟨rfl, hB1⟩; have H2 := Lib.hid (H1.out.quiet hB1); clear hB1 H1) | (go_at_call 8; ((with_reducible refine (HB.out _ H2.out.below).mono ?_)); rintro e w2 ⟨rfl, hM2, hB2⟩; have H3 := Lib.hid (Law.start H2.out hM2 hB2); clear hM2 hB2 H2 HB))
  obtain ⟨m, hm⟩ : ∃ m, w1.heap.size + 1 = m := ⟨_, rfl⟩
  obtain ⟨G, hG⟩ : ∃ G : Nat → Prop, (fun i => From w1.heap.size i ∧ i < w2.heap.size) = G := ⟨_, rfl⟩
  rw [hm, hG] at H3
  rw [hm]
  clear hm hG
  have HS3 := Lib.hid (shifts_under HS.out H3.out.below hz)
  obtain ⟨q0, q1, q2, q3, q4, q5, q6, q7⟩ := (H3.out.at_ 0 rfl).eight
  rcases canon_cases a with hc | hc
  · have CT := fun w' => trans_gp (w := w') (.pointer (some ⟨m, 0, none⟩)) u a ha hc
    go_wp2_with (first | (go_at_call 9; refine (CT _).mono ?_; rintro e w4 ⟨g, rfl, _, hB4⟩; have H5 := Lib.hid (H3.out.quiet hB4); clear hB4 H3))
    generalize hw5 : w4.alloc _ = w5
    have H6 := Lib.hid ((H5.out.new (b := w4.heap.size) rfl _ _).world hw5)
    go_ret
    exact ⟨rfl, H6.out.below⟩
  · obtain ⟨P, hP⟩ : ∃ P, walkZ 16 f a u.nxe 4 (tableF u.root) true true true = P := ⟨_, rfl⟩
    have HW := Lib.hid (walk_four f H3.out.wk.mem.words a u.nxe (tableF u.root) true true true P hP)
    have HWd := Lib.hid H3.out.wk.mem.words
    cases hm : jmay P u
    · have CT := trans_no H3.out.wk.mem (by decide) (H3.out.wk.no0 hz) HS3.out u a hr ha hc P hP hm
      clear hP hm hc
      go_wp2_with (first | (go_at_call 9; refine CT.mono ?_; rintro e w4 ⟨v, G4, g, rfl, _, hT⟩; obtain ⟨A4, c4, rfl⟩ := hT.own.form; have H5 := Lib.hid (H3.out.step hT.wk); clear hT H3 CT))
      generalize hw5 : w4.alloc _ = w5
      have H6 := Lib.hid ((H5.out.new (b := w4.heap.size) rfl _ _).world hw5)
      go_ret
      exact ⟨rfl, H6.out.below⟩
    · have CT := trans_yes H3.out.wk.mem (by decide) (H3.out.wk.no0 hz) HS3.out u a hr ha hc P hP hm
      have HPg : Hid (P.fr % 4096 = 0) := Lib.hid (by rw [← hP]; exact walk_page f a u.nxe 4 (by decide) _ _ _ _)
      have hj := jpa_facts HW.out.1 HPg.out (jmay_yes hm).1 ha.1
      obtain ⟨N, hN⟩ : ∃ N, P.steps.length = N := ⟨_, rfl⟩
      have HNN := Lib.hid hN
      have hN4 : N ≤ 4 := by rw [← hN]; exact HW.out.2.1
      obtain ⟨gm, hgm⟩ : ∃ gm, markN 16 f P.steps (u.k == 2) P.steps.length = gm := ⟨_, rfl⟩
      obtain ⟨Q, hQ⟩ : ∃ Q, walkZ 16 gm a u.nxe 4 (tableF u.root) true true true = Q := ⟨_, rfl⟩
      have hAg := again (d := u.k == 2) (Q := Q) HWd.out hP (by rw [hgm]; exact hQ)
      rw [hgm] at hAg CT
      obtain ⟨hAl, hMk⟩ := hAg
      have HAl := Lib.hid hAl
      have hmQ : jmay Q u = true := by rw [alp_jmay hAl]; exact hm
      have hjQ : jpa Q a = jpa P a := alp_jpa hAl a
      obtain ⟨T4, hT4⟩ : ∃ T4, [] ++ slotsP P.steps = T4 := ⟨_, rfl⟩
      rw [hT4] at CT
      have HGw : Hid (∀ j, W64 (gm j)) := Lib.hid (by rw [← hgm]; exact (mark_up HWd.out _).w)
      have HHc := Lib.hid hc
      have HHQ := Lib.hid hQ
      have HmQ := Lib.hid hmQ
      have HjQ := Lib.hid hjQ
      have HMk := Lib.hid hMk
      have HNQ : Hid (Q.steps.length = N) := Lib.hid (by rw [← hAl.len]; exact hN)
      obtain ⟨pa, hpa⟩ : ∃ pa, jpa P a = pa := ⟨_, rfl⟩
      rw [hpa] at hj CT HjQ
      obtain ⟨ρ, hρ⟩ : ∃ ρ, a % 4096 = ρ := ⟨_, rfl⟩
      rw [hρ] at hj
      have r1 : pa.tmod 4096 = ρ := by rw [Int.tmod_eq_emod_of_nonneg hj.2.1]; exact hj.1
      have r2 : a.tmod 4096 = ρ := by rw [Int.tmod_eq_emod_of_nonneg ha.1]; exact hρ
      have r3 : IntKind.u64.wrap ρ = ρ := wrap_in (by omega) (by omega)
      have HJ := Lib.hid (And.intro hj.2.2.1 hj.2.1)
      rw [hN] at CT
      clear hP hm hc hQ hmQ hjQ hMk hAl hT4 hgm hN hpa hj hρ HW HWd HPg
      go_upto_region 8 with (first | (go_at_call 9; refine CT.mono ?_; rintro e w4 ⟨v, G4, rfl, hT⟩; obtain ⟨A4, c4, hv⟩ := hT.own.form; rw [HNN.out] at hv; subst hv; have H5 := Lib.hid (H3.out.stepGot hT.wk hT.own hT.nv); clear hT H3 CT q0 q1 q2 q3 q4 q5 q6 q7))
      generalize hw5 : w4.alloc _ = w5
      have H6 := Lib.hid ((H5.out.new (b := w4.heap.size) rfl _ _).world hw5)
      clear hw5 H5
      go_upto_region 9 with (first | (go_at_call 16; refine (copy_mem H6.out.wk.mem (by omega)).mono ?_; rintro e w6 ⟨rfl, hC6, hB6⟩; have H7 := Lib.hid (H6.out.two hC6 hB6); clear hC6 hB6 H6))
      obtain ⟨m0, hm⟩ : ∃ m0, w5.heap.size + 1 = m0 := ⟨_, rfl⟩
      obtain ⟨H, hH⟩ : ∃ H : Nat → Prop, (fun i => From w5.heap.size i ∧ i < w6.heap.size) = H := ⟨_, rfl⟩
      rw [hm, hH] at H7
      rw [hm]
      clear hm hH
      have CT2 := trans_yes H7.out.m.mem (by omega) (H7.out.m.no0 hz) (shifts_under HS.out H7.out.below hz) u a hr ha HHc.out Q HHQ.out HmQ.out
      rw [HMk.out, HjQ.out, HNQ.out] at CT2
      obtain ⟨q0, q1, q2, q3, q4, q5, q6, q7⟩ := (H7.out.at_ 1 rfl).eight
      go_upto_region 10 with (first | (go_at_call 9; refine CT2.mono ?_; rintro e w8 ⟨v, G8, rfl, hT⟩; obtain ⟨A8, c8, hv⟩ := hT.own.form; rw [HNQ.out] at hv; subst hv; have H9 := Lib.hid (H7.out.stepGot hT.wk hT.own (Nat.le_refl _) hT.nv); clear hT H7 CT2 q0 q1 q2 q3 q4 q5 q6 q7))
      generalize hw10 : w8.alloc _ = w10
      have H10 := Lib.hid ((H9.out.new (b := w8.heap.size) rfl _ _).world hw10)
      clear hw10 H9
      obtain ⟨s0, s1, s2, s3, s4, s5, s6⟩ := (H10.out.at_ 0 rfl).seven
      obtain ⟨p0, p1, p2, p3, p4, p5, p6⟩ := (H10.out.at_ 1 rfl).seven
      have CS : ∀ w', StepsIn w' (.slice A4 N c4) P.steps → StepsIn w' (.slice A8 N c8) Q.steps → Calls Tryz.prog 22 #[pathV (.slice A4 N c4) P.why P.W P.U P.X P.lev P.fr, pathV (.slice A8 N c8) Q.why Q.W Q.U Q.X Q.lev Q.fr] w' fun e w'' => e = .returned (.bool true) ∧ Below w'.heap.size w' w'' := by
        intro w' h1 h2
        have h := same_alike (w := w') HAl.out A4 A8 c4 c8 (by rw [HNN.out]; unfold maxLen; omega)
        rw [HNN.out, HNQ.out] at h
        exact h h1 h2
      by_cases hv : P.lev = 1
      · have hv2 : (P.lev != 1) = false := by simp [hv]
        have hpl : pa < 65536 := HJ.out.1 hv
        clear hv
        go_wp2_with (first | (go_at_call 22; refine (CS _ (StepsOwn.into (base := 0) (H10.out.of_ 1 rfl)) (StepsOwn.into (base := 0) (H10.out.of_ 0 rfl))).mono ?_; rintro e w11 ⟨rfl, hB11⟩; have H11 := Lib.hid (H10.out.quiet hB11); clear hB11 H10) | (go_at_call 19; refine (diff_mem H11.out.k.mem H11.out.m.mem (by omega) (by omega)).mono ?_; rintro e w12 ⟨Ad, cd, es, rfl, _, hI, hB12⟩; obtain rfl := hI.none; have H12 := Lib.hid (H11.out.quiet hB12); clear hI hB12 H11; obtain ⟨t0, t1, t2, t3, t4, t5, t6⟩ := (H12.out.at_ 1 rfl).seven))
        go_ret
        exact ⟨rfl, H12.out.below⟩
      · have hv2 : (P.lev != 1) = true := by simpa using hv
        clear hv
        go_wp2_with (first | (go_at_call 22; refine (CS _ (StepsOwn.into (base := 0) (H10.out.of_ 1 rfl)) (StepsOwn.into (base := 0) (H10.out.of_ 0 rfl))).mono ?_; rintro e w11 ⟨rfl, hB11⟩; have H11 := Lib.hid (H10.out.quiet hB11); clear hB11 H10) | (go_at_call 19; refine (diff_mem H11.out.k.mem H11.out.m.mem (by omega) (by omega)).mono ?_; rintro e w12 ⟨Ad, cd, es, rfl, _, hI, hB12⟩; obtain rfl := hI.none; have H12 := Lib.hid (H11.out.quiet hB12); clear hI hB12 H11; obtain ⟨t0, t1, t2, t3, t4, t5, t6⟩ := (H12.out.at_ 1 rfl).seven))
        go_ret
        exact ⟨rfl, H12.out.below⟩
end Go.Proofs.YtopmmlcjlopmaaaGreatDoor
/- A slice of puts that came in. -/
namespace Go.Proofs.YtopmmlcjlopmaaaGreatDoor
set_option linter.unusedVariables false
set_option linter.unusedSimpArgs false
open Go.ChangeShapes Go.WideShapes Go.ChangeAt Go.RowKit Go.Joins

section
variable {H : Type} {enc : TypeId × Value → H} {w : World} {base : Nat} {spare : Nat → Bool} {held : Bool}

theorem list4q {α : Type} {zs : List α} (h : zs.length = 4) : ∃ t u v x, zs = [t, u, v, x] := by
  match zs, h with
  | [t, u, v, x], _ => exact ⟨t, u, v, x, rfl⟩

abbrev Put4 (y : Int × Int × Int × Int) : Prop := (0 ≤ y.1 ∧ y.1 < 65536) ∧ (0 ≤ y.2.1 ∧ y.2.1 < 65536) ∧ (0 ≤ y.2.2.1 ∧ y.2.2.1 < 256)

set_option maxRecDepth 100000 in
theorem open_put {n : Nat} {cs : List Value} {x : DataW H × List MemPlace} (h : DataW.trod enc Tryz.prog w base spare held n 76 cs = some x) :
    ∃ y : Int × Int × Int × Int, cs = [.int .u16 y.1, .int .u16 y.2.1, .int .u8 y.2.2.1, .int .u64 y.2.2.2] ∧ Put4 y := by
  obtain ⟨y0, y1, y2, y3, m, _, hl, h0, h1, h2, h3⟩ := Joins.trod_struct4 Tryz.underlying76 h
  rw [show Tryz.prog.cellsOf 76 = 4 by kernel_rfl] at hl
  have e1 : Tryz.prog.cellsOf 74 = 1 := by kernel_rfl
  have e2 : Tryz.prog.cellsOf 5 = 1 := by kernel_rfl
  have e3 : Tryz.prog.cellsOf 23 = 1 := by kernel_rfl
  obtain ⟨a, b, c, d, rfl⟩ := list4q hl
  simp [e1, e2, e3] at h0 h1 h2 h3
  obtain ⟨k, e4, _, w4⟩ := DataW.trod_int Tryz.underlying74 h0
  obtain ⟨p, e5, _, w5⟩ := DataW.trod_int Tryz.underlying74 h1
  obtain ⟨q, e6, _, w6⟩ := DataW.trod_int Tryz.underlying5 h2
  obtain ⟨r, e7, _, w7⟩ := DataW.trod_int Tryz.underlying23 h3
  simp at e4 e5 e6 e7
  subst e4 e5 e6 e7
  have b4 := bounds_u16 w4
  have b5 := bounds_u16 w5
  have b6 := bounds_u8 w6
  exact ⟨(k, p, q, r), rfl, ⟨b4.1, by show k < 65536; omega⟩, ⟨b5.1, by show p < 65536; omega⟩, ⟨b6.1, by show q < 256; omega⟩⟩

set_option maxRecDepth 100000 in
theorem open_puts {r : Reach} {b0 : Nat} {v : Value} {d : DataW H} {p : List MemPlace} (hv : Value.okWide Tryz.prog w r b0 22 v) (h : DataW.Trod enc Tryz.prog w base spare held 22 v d p) :
    ∃ A ds c, v = .slice A ds.length c ∧ ds.length ≤ maxLen ∧ PutsIn w A ds ∧ PutsOk ds := by
  obtain ⟨a, len, cap, rfl⟩ := okWide_slice Tryz.underlying22 hv
  obtain ⟨fuel, hf⟩ := h
  rcases Deep.open_slice Tryz.underlying22 hf with ⟨hcs, _⟩ | ⟨ad, len', cap', m, n, D, Pl, hcs, _, hl, hm, hmm, _, hel⟩
  · have e : Value.slice a len cap = .slice none 0 0 := by simpa [Value.cells] using hcs
    rw [e]
    exact ⟨none, [], 0, rfl, by simp [maxLen], fun k hk => absurd hk (by simp), fun k hk => absurd hk (by simp)⟩
  · have e : Value.slice a len cap = .slice (some ad) len' cap' := by simpa [Value.cells] using hcs
    rw [e]
    have e3 : Tryz.prog.cellsOf 76 = 4 := by kernel_rfl
    rw [e3] at hel
    have hle : len' ≤ m := by rw [hmm]; split <;> omega
    obtain ⟨g, hg⟩ := Deep.choose_lt (α := Int × Int × Int × Int) (n := len') (p := fun k y => (w.cell? (ad.add (k * 4)) = some (.int .u16 y.1) ∧ w.cell? ((ad.add (k * 4)).add 1) = some (.int .u16 y.2.1) ∧ w.cell? ((ad.add (k * 4)).add 2) = some (.int .u8 y.2.2.1) ∧ w.cell? ((ad.add (k * 4)).add 3) = some (.int .u64 y.2.2.2)) ∧ Put4 y) (fun k hk => by
      obtain ⟨cs', h1, h2⟩ := hel k (by omega)
      obtain ⟨y, rfl, w1⟩ := open_put h2
      obtain ⟨_, _, hc⟩ := World.cells?_some h1
      exact ⟨y, ⟨by simpa [Addr.add] using hc 0 (by omega), hc 1 (by omega), hc 2 (by omega), hc 3 (by omega)⟩, w1⟩)
    have hget : ∀ k, k < len' → ((List.range len').map g).getD k (0, 0, 0, 0) = g k := fun k hk => by simp [List.getD, hk]
    refine ⟨some ad, (List.range len').map g, cap', by simp, by simp; omega, fun k hk => ⟨ad, rfl, ?_⟩, fun k hk => ?_⟩
    · have hk' : k < len' := by simpa using hk
      rw [hget k hk']; exact (hg k hk').1
    · have hk' : k < len' := by simpa using hk
      rw [hget k hk']; exact (hg k hk').2
end

end Go.Proofs.YtopmmlcjlopmaaaGreatDoor
