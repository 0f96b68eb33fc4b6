/- dormerref04.Diff (laid by tools/gen_rd.py). -/
import Derived.Test.YtfakfmefjfemhaaRi
import Derived.Test.YtfakfmefjfemhaaDi
import Derived.Deep.RegionHeld3
import Derived.Deep.Cut
namespace Go.Proofs.Ytfakfmefjfemhaa
set_option linter.unusedVariables false
set_option linter.unusedSimpArgs false
open Go.ChangeShapes Go.WideShapes Go.ChangeAt Go.RowKit Go.Joins

/-- what the region keeps in which Word is called twice -/
abbrev RegD (w4 w' : World) (b2 b3 : Nat) (x0 x1 x2 y0 y1 y2 : Value) : Prop :=
  w'.cell? ⟨b2, 0, none⟩ = some x0 ∧ w'.cell? ⟨b2, 1, none⟩ = some x1 ∧ w'.cell? ⟨b2, 2, none⟩ = some x2 ∧ w'.cell? ⟨b3, 0, none⟩ = some y0 ∧ w'.cell? ⟨b3, 1, none⟩ = some y1 ∧ w'.cell? ⟨b3, 2, none⟩ = some y2 ∧ Kept w4 w'

theorem regd_start {w4 : World} {b2 b3 : Nat} {x0 x1 x2 y0 y1 y2 : Value} (h2 : Three w4 b2 x0 x1 x2) (h3 : Three w4 b3 y0 y1 y2) : RegD w4 w4.drew b2 b3 x0 x1 x2 y0 y1 y2 := ⟨h2.c0, h2.c1, h2.c2, h3.c0, h3.c1, h3.c2, Kept.drew0 _⟩
theorem regd_step {w4 w1 w2 : World} {b2 b3 : Nat} {x0 x1 x2 y0 y1 y2 : Value} (h : RegD w4 w1 b2 b3 x0 x1 x2 y0 y1 y2) (hb : Below w1.heap.size w1 w2) : RegD w4 w2 b2 b3 x0 x1 x2 y0 y1 y2 := by
  obtain ⟨c0, c1, c2, d0, d1, d2, hk⟩ := h
  exact ⟨(hb.cell (cell_lt c0)).trans c0, (hb.cell (cell_lt c1)).trans c1, (hb.cell (cell_lt c2)).trans c2, (hb.cell (cell_lt d0)).trans d0, (hb.cell (cell_lt d1)).trans d1, (hb.cell (cell_lt d2)).trans d2, Kept.step hb hk⟩
theorem word_reg {w4 w1 : World} {b2 b3 : Nat} {x0 x1 x2 y0 y1 y2 : Value} {M : Int} {vs vt : Value} {L : List (Int × Int)} (hS : Hid (SlotsOwn w4 vs L)) (hl : L.length < 1000000) (h : RegD w4 w1 b2 b3 x0 x1 x2 y0 y1 y2) (a : Int) :
    Calls Try.prog 43 #[.agg #[.int .i64 M, vs, vt], .int .u64 a] w1 fun e w2 => e = .returned (.int .u64 (wordL L a)) ∧ RegD w4 w2 b2 b3 x0 x1 x2 y0 y1 y2 :=
  (rWord_any M vs vt L a w1 (slots_keep hS.out h.2.2.2.2.2.2) hl).mono fun _ _ ⟨e, hb⟩ => ⟨e, regd_step h hb⟩

/-- what is known of both lists in a later world -/
structure Both (W : World) (b2 b3 : Nat) (x0 x1 x2 y0 y1 y2 : Value) (L K : List (Int × Int)) (A A' : Option Addr) : Prop where
  t2 : Three W b2 x0 x1 x2
  t3 : Three W b3 y0 y1 y2
  sL : SlotsOwn W x1 L
  sK : SlotsOwn W y1 K
  cL : ∀ i, i < L.length → ∃ g, A = some ⟨g, 0, none⟩ ∧ W.cell? ⟨g, i * 2, none⟩ = some (.int .u64 (atL L i))
  cK : ∀ k, k < K.length → ∃ g, A' = some ⟨g, 0, none⟩ ∧ W.cell? ⟨g, k * 2, none⟩ = some (.int .u64 (atL K k))

theorem Both.below {W W' : World} {b2 b3 : Nat} {x0 x1 x2 y0 y1 y2 : Value} {L K : List (Int × Int)} {A A' : Option Addr} (h : Both W b2 b3 x0 x1 x2 y0 y1 y2 L K A A') (hb : Below W.heap.size W W') : Both W' b2 b3 x0 x1 x2 y0 y1 y2 L K A A' := by
  refine ⟨three_below h.t2 hb (cell_lt h.t2.c0), three_below h.t3 hb (cell_lt h.t3.c0), own_below h.sL hb, own_below h.sK hb, fun i hi => ?_, fun k hk => ?_⟩
  · obtain ⟨g, e, c⟩ := h.cL i hi
    exact ⟨g, e, (hb.cell (cell_lt c)).trans c⟩
  · obtain ⟨g, e, c⟩ := h.cK k hk
    exact ⟨g, e, (hb.cell (cell_lt c)).trans c⟩

set_option maxRecDepth 100000 in
set_option maxHeartbeats 16000000 in
theorem rDiff_any (M : Int) (vs vt vs' vt' : Value) (L K : List (Int × Int)) (tr tr' : List Int) (f g : Int → Int) (w : World) (hS : SlotsOwn w vs L) (hS' : SlotsOwn w vs' K) (hT : WordsOwn w vt tr) (hT' : WordsOwn w vt' tr') (hl : L.length < 1000) (hl' : K.length < 1000)
    (hL : Ris L) (hK : Ris K) (fL : Agree f L) (gK : Agree g K) :
    Calls Try.prog 25 #[.agg #[.int .i64 M, vs, vt], .agg #[.int .i64 M, vs', vt']] w fun e w' => ∃ A c ds, e = .returned (.slice A ds.length c) ∧ Lst w' w.heap.size (.slice A ds.length c) ds ∧ IsDif f g ds ∧ Below w.heap.size w w' := by
  obtain ⟨i0, hi, hz0, hz1, hz2⟩ := info_parts infoU64
  obtain ⟨A, c, rfl, hcL⟩ := hS.form
  obtain ⟨A', c', rfl, hcK⟩ := hS'.form
  obtain ⟨B, b, rfl⟩ := own_len hT
  obtain ⟨B', b', rfl⟩ := own_len hT'
  have HX := boxed_start w (.int .i64 M) (.slice A L.length c) (.slice B tr.length b) (.int .i64 M) (.slice A' K.length c') (.slice B' tr'.length b') 29 29
  have HR := Lib.hid (And.intro hL (And.intro hK (And.intro fL gK)))
  have HBo : Hid (Both ((w.alloc (.cells #[.int .i64 M, .slice A L.length c, .slice B tr.length b] 29)).alloc (.cells #[.int .i64 M, .slice A' K.length c', .slice B' tr'.length b'] 29)) w.heap.size (w.heap.size + 1) (.int .i64 M) (.slice A L.length c) (.slice B tr.length b) (.int .i64 M) (.slice A' K.length c') (.slice B' tr'.length b') L K A A') :=
    Lib.hid ⟨HX.box, HX.res, own_below hS HX.below, own_below hS' HX.below, fun i hi => by obtain ⟨g, e, c0, _⟩ := hcL i hi; exact ⟨g, e, (HX.below.cell (cell_lt c0)).trans c0⟩, fun i hi => by obtain ⟨g, e, c0, _⟩ := hcK i hi; exact ⟨g, e, (HX.below.cell (cell_lt c0)).trans c0⟩⟩
  have HW0 := Lib.hid HX.below
  have hsz : ((w.alloc (.cells #[.int .i64 M, .slice A L.length c, .slice B tr.length b] 29)).alloc (.cells #[.int .i64 M, .slice A' K.length c', .slice B' tr'.length b'] 29)).heap.size = w.heap.size + 2 := by simp
  clear hS hS' hT hT' hcL hcK HX hL hK fL gK
  have eM : (M != M) = false := by simp
  obtain ⟨wB, hwB⟩ : ∃ wB, Hid (((w.alloc (.cells #[.int .i64 M, .slice A L.length c, .slice B tr.length b] 29)).alloc (.cells #[.int .i64 M, .slice A' K.length c', .slice B' tr'.length b'] 29)) = wB) := ⟨_, Lib.hid rfl⟩
  go_enter Try.func25, Try.ntmps25
  go_wp2
  rw [hwB.out] at HBo HW0 hsz ⊢
  clear hwB
  go_loopw [5, 6, 7] (fun u s t wr => ∃ (i k : Nat) (ds : List Int) (X : Int) (A5 : Option Addr) (c5 : Nat), s = .int .i64 i ∧ t = .int .i64 k ∧ u = .slice A5 ds.length c5 ∧ i ≤ L.length ∧ k ≤ K.length ∧ ds.length ≤ i + k ∧ Hid (Lst wr wB.heap.size (.slice A5 ds.length c5) ds) ∧ Hid (Mrg f g L K i k ds X) ∧ Hid (Below wB.heap.size wB wr)) (fun _ s t _ => (L.length - intOf s).toNat + (K.length - intOf t).toNat)
  case atStart => exact ⟨0, 0, [], 0, none, 0, rfl, rfl, rfl, Nat.zero_le _, Nat.zero_le _, by simp, Lib.hid (World.ownsRow_nil _ _ _ _), Lib.hid (Mrg.start HR.out.1 HR.out.2.1 HR.out.2.2.1 HR.out.2.2.2), Lib.hid (Below.refl _ _)⟩
  case round =>
    obtain ⟨i, k, ds, X, A5, c5, rfl, rfl, rfl, hiL, hkK, hdl, HS, HM, HW⟩ := hrel
    obtain ⟨hRL, hRK, hFL, hGK⟩ := HR.out
    have hbo := HBo.out.below HW.out
    have HBo1 := Lib.hid hbo
    obtain ⟨⟨p0, p1, p2, _, _, _⟩, ⟨q0, q1, q2, _, _, _⟩, _, _, tL, tK⟩ := hbo
    have TL := Lib.hid tL
    have TK := Lib.hid tK
    clear tL tK
    have hHR : Hid (Ris L ∧ Ris K ∧ Agree f L ∧ Agree g K) := HR
    clear hRL hRK hFL hGK
    by_cases hil : i < L.length
    · obtain ⟨gL, rfl, cL⟩ := TL.out i hil
      obtain ⟨la, hla⟩ : ∃ la, atL L i = la := ⟨_, rfl⟩
      have hLX : X ≤ la := by rw [← hla]; exact HM.out.hiL i (Nat.le_refl _) hil
      have hL8 : la % 8 = 0 := by rw [← hla]; exact (hHR.out.1.eight hil).1
      rw [hla] at cL
      have HLA := Lib.hid hla
      have hiI : (i : Int) < (L.length : Int) := by omega
      have hiM : decide (i < L.length) = true := by simp; omega
      clear hla
      by_cases hkl : k < K.length
      · obtain ⟨gK, rfl, cK⟩ := TK.out k hkl
        obtain ⟨ka, hka⟩ : ∃ ka, atL K k = ka := ⟨_, rfl⟩
        have hKX : X ≤ ka := by rw [← hka]; exact HM.out.hiK k (Nat.le_refl _) hkl
        have hK8 : ka % 8 = 0 := by rw [← hka]; exact (hHR.out.2.1.eight hkl).1
        rw [hka] at cK
        have HKA := Lib.hid hka
        have hkI : (k : Int) < (K.length : Int) := by omega
        have gkG : decide ((k : Int) ≥ (K.length : Int)) = false := by simp; omega
        have gkN : decide (K.length ≤ k) = false := by simp; omega
        have gkM : decide (k < K.length) = true := by simp; omega
        clear hka
        by_cases hlk : la < ka
        · have e15 : (ka == la) = false := by simp; omega
          have glt : decide (la < ka) = true := by simpa using hlk
          have HSk := Lib.hid (HM.out.skip (p := la) hHR.out.1 hHR.out.2.1 hHR.out.2.2.1 hHR.out.2.2.2 hLX (fun _ => by rw [HLA.out]; exact Int.le_refl _) (fun _ => by rw [HKA.out]; omega))
          have HOn := Lib.hid (fun ds' hd => HM.out.on (p := la) (ds' := ds') hHR.out.1 hHR.out.2.1 hLX hL8 (fun _ => by rw [HLA.out]; exact Int.le_refl _) (fun _ => by rw [HKA.out]; omega) hd (Or.inl ⟨hil, HLA.out, rfl⟩) (Or.inr ⟨fun _ => by rw [HKA.out]; omega, rfl⟩))
          obtain ⟨x, hx⟩ : ∃ x, wordL L la = x := ⟨_, rfl⟩
          obtain ⟨y, hy⟩ : ∃ y, wordL K la = y := ⟨_, rfl⟩
          have HXY := Lib.hid (And.intro ((word_at hHR.out.2.2.1 hL8).trans hx) ((word_at hHR.out.2.2.2 hL8).trans hy))
          have HX := Lib.hid hx
          have HY := Lib.hid hy
          clear hx hy
          go_wp2
          go_quiet (fail)
          obtain ⟨w4, hw4, HB4⟩ : ∃ w4, wr.drewN nq = w4 ∧ Hid (Below wr.heap.size wr w4) := ⟨_, rfl, Lib.hid (drewN_below _ _)⟩
          rw [hw4]
          have HBo4 := Lib.hid (HBo1.out.below HB4.out)
          have HW4 := Lib.hid (HW.out.trans (HB4.out.mono HW.out.size))
          have HS4 := Lib.hid (Lst.keptL HS.out (show Kept wr w4 from HB4.out))
          have SL4 := Lib.hid HBo4.out.sL
          have SK4 := Lib.hid HBo4.out.sK
          have HR4 := regd_start HBo4.out.t2 HBo4.out.t3
          clear hw4 p0 p1 p2 q0 q1 q2 HB4 cL cK
          obtain ⟨⟨p0, p1, p2, _, _, _⟩, ⟨q0, q1, q2, _, _, _⟩, _, _, tL, tK⟩ := HBo4.out
          obtain ⟨gL1, eL1, cL⟩ := tL i hil
          obtain rfl : gL = gL1 := by simpa using eL1
          rw [HLA.out] at cL
          obtain ⟨gK1, eK1, cK⟩ := tK k hkl
          obtain rfl : gK = gK1 := by simpa using eK1
          rw [HKA.out] at cK
          clear tL tK
          go_upto_region 11 with fail
          go_region_held3 (fun w' => w'.cell? ⟨w.heap.size, 0, none⟩ = some (.int .i64 M) ∧ w'.cell? ⟨w.heap.size, 1, none⟩ = some (.slice (some ⟨gL, 0, none⟩) L.length c) ∧ w'.cell? ⟨w.heap.size, 2, none⟩ = some (.slice B tr.length b) ∧ w'.cell? ⟨w.heap.size + 1, 0, none⟩ = some (.int .i64 M) ∧ w'.cell? ⟨w.heap.size + 1, 1, none⟩ = some (.slice (some ⟨gK, 0, none⟩) K.length c') ∧ w'.cell? ⟨w.heap.size + 1, 2, none⟩ = some (.slice B' tr'.length b') ∧ Kept w4 w')
            (first | assumption | exact HR4)
            (first | (go_at_call 43; with_reducible refine (word_reg SL4 (by omega) (by assumption) _).mono ?_; rw [HX.out]; rintro e w5 ⟨rfl, hH5⟩) | (go_at_call 43; with_reducible refine (word_reg SK4 (by omega) (by assumption) _).mono ?_; rw [HY.out]; rintro e w5 ⟨rfl, hH5⟩))
          have HB5 := Lib.hid (show Below w4.heap.size w4 w5 from hH5.2.2.2.2.2.2)
          have HBo5 := Lib.hid (HBo4.out.below HB5.out)
          have HW5 := Lib.hid (HW4.out.trans (HB5.out.mono HW4.out.size))
          have HS5 := Lib.hid (Lst.keptL HS4.out (show Kept w4 w5 from HB5.out))
          clear hH5 HR4 p0 p1 p2 q0 q1 q2 cL cK
          by_cases hxy : x = y
          · have eb : (x != y) = false := by simpa using hxy
            have HN := Lib.hid (HOn.out ds (HSk.out.pass hL8 (by rw [HXY.out.1, HXY.out.2]; exact hxy)))
            clear hxy
            obtain ⟨⟨p0, p1, p2, _, _, _⟩, ⟨q0, q1, q2, _, _, _⟩, _, _, tL, tK⟩ := HBo5.out
            obtain ⟨gL1, eL1, cL⟩ := tL i hil
            obtain rfl : gL = gL1 := (by simpa using eL1)
            rw [HLA.out] at cL
            obtain ⟨gK1, eK1, cK⟩ := tK k hkl
            obtain rfl : gK = gK1 := (by simpa using eK1)
            rw [HKA.out] at cK
            clear tL tK
            go_wp2
            go_roundw
            case rel => exact ⟨i + 1, k, ds, _, A5, c5, by go_num, rfl, rfl, by omega, by omega, by omega, HS5, HN, HW5⟩
            case measure => simp [intOf]; omega
          · have eb : (x != y) = true := by simpa using hxy
            have HN := Lib.hid (HOn.out (ds ++ [la]) (HSk.out.add hL8 (by rw [HXY.out.1, HXY.out.2]; exact hxy)))
            clear hxy
            go_wp2_with (at_builtin; refine wpList_append_own _ rfl _ _ 27 rfl wB.heap.size 30 i0 (.int .u64 0) 1 8 Try.underlying27 hi hz0 hz1 hz2 rfl (by decide) _ ds.length (ds.map (Value.int .u64)) rfl (World.ownsRow.alloc HS5.out _) ⟨w5.heap.size, 0, none⟩ 1 1 [.int .u64 la] rfl rfl (cell_one_new _ _ _) (ints_oneCell .u64 [_]) (by unfold maxLen; omega) (by omega) (by have := HW5.out.size; simp; omega) ?_; intro v7 w7 hown7 hgrow7 hnil7; have HS7 := Lib.hid (lst_more hown7); have HB7 := Lib.hid (HW5.out.trans (app_below HS5.out HW5.out.size hgrow7)); have HBo7 := Lib.hid (HBo.out.below HB7.out); clear hown7 hgrow7 hnil7; obtain ⟨A7, c7, rfl⟩ := HS7.out.len; obtain ⟨⟨p0, p1, p2, _, _, _⟩, ⟨q0, q1, q2, _, _, _⟩, _, _, tL, tK⟩ := HBo7.out; obtain ⟨gL1, eL1, cL⟩ := tL i hil; obtain rfl : gL = gL1 := (by simpa using eL1); rw [HLA.out] at cL; obtain ⟨gK1, eK1, cK⟩ := tK k hkl; obtain rfl : gK = gK1 := (by simpa using eK1); rw [HKA.out] at cK; clear tL tK)
            go_roundw
            case rel => exact ⟨i + 1, k, ds ++ [la], _, A7, c7, by go_num, rfl, by simp, by omega, by omega, by simp; omega, HS7, HN, HB7⟩
            case measure => simp [intOf]; omega
        · have glk : decide (la < ka) = false := by simp; omega
          by_cases elk : la = ka
          · subst elk
            have HSk := Lib.hid (HM.out.skip (p := la) hHR.out.1 hHR.out.2.1 hHR.out.2.2.1 hHR.out.2.2.2 hLX (fun _ => by rw [HLA.out]; exact Int.le_refl _) (fun _ => by rw [HKA.out]; exact Int.le_refl _))
            have HOn := Lib.hid (fun ds' hd => HM.out.on (p := la) (ds' := ds') hHR.out.1 hHR.out.2.1 hLX hL8 (fun _ => by rw [HLA.out]; exact Int.le_refl _) (fun _ => by rw [HKA.out]; exact Int.le_refl _) hd (Or.inl ⟨hil, HLA.out, rfl⟩) (Or.inl ⟨hkl, HKA.out, rfl⟩))
            obtain ⟨x, hx⟩ : ∃ x, wordL L la = x := ⟨_, rfl⟩
            obtain ⟨y, hy⟩ : ∃ y, wordL K la = y := ⟨_, rfl⟩
            have HXY := Lib.hid (And.intro ((word_at hHR.out.2.2.1 hL8).trans hx) ((word_at hHR.out.2.2.2 hL8).trans hy))
            have HX := Lib.hid hx
            have HY := Lib.hid hy
            clear hx hy
            go_wp2
            go_quiet (fail)
            obtain ⟨w4, hw4, HB4⟩ : ∃ w4, wr.drewN nq = w4 ∧ Hid (Below wr.heap.size wr w4) := ⟨_, rfl, Lib.hid (drewN_below _ _)⟩
            rw [hw4]
            have HBo4 := Lib.hid (HBo1.out.below HB4.out)
            have HW4 := Lib.hid (HW.out.trans (HB4.out.mono HW.out.size))
            have HS4 := Lib.hid (Lst.keptL HS.out (show Kept wr w4 from HB4.out))
            have SL4 := Lib.hid HBo4.out.sL
            have SK4 := Lib.hid HBo4.out.sK
            have HR4 := regd_start HBo4.out.t2 HBo4.out.t3
            clear hw4 p0 p1 p2 q0 q1 q2 HB4 cL cK
            obtain ⟨⟨p0, p1, p2, _, _, _⟩, ⟨q0, q1, q2, _, _, _⟩, _, _, tL, tK⟩ := HBo4.out
            obtain ⟨gL1, eL1, cL⟩ := tL i hil
            obtain rfl : gL = gL1 := by simpa using eL1
            rw [HLA.out] at cL
            obtain ⟨gK1, eK1, cK⟩ := tK k hkl
            obtain rfl : gK = gK1 := by simpa using eK1
            rw [HKA.out] at cK
            clear tL tK
            go_upto_region 11 with fail
            go_region_held3 (fun w' => w'.cell? ⟨w.heap.size, 0, none⟩ = some (.int .i64 M) ∧ w'.cell? ⟨w.heap.size, 1, none⟩ = some (.slice (some ⟨gL, 0, none⟩) L.length c) ∧ w'.cell? ⟨w.heap.size, 2, none⟩ = some (.slice B tr.length b) ∧ w'.cell? ⟨w.heap.size + 1, 0, none⟩ = some (.int .i64 M) ∧ w'.cell? ⟨w.heap.size + 1, 1, none⟩ = some (.slice (some ⟨gK, 0, none⟩) K.length c') ∧ w'.cell? ⟨w.heap.size + 1, 2, none⟩ = some (.slice B' tr'.length b') ∧ Kept w4 w')
              (first | assumption | exact HR4)
              (first | (go_at_call 43; with_reducible refine (word_reg SL4 (by omega) (by assumption) _).mono ?_; rw [HX.out]; rintro e w5 ⟨rfl, hH5⟩) | (go_at_call 43; with_reducible refine (word_reg SK4 (by omega) (by assumption) _).mono ?_; rw [HY.out]; rintro e w5 ⟨rfl, hH5⟩))
            have HB5 := Lib.hid (show Below w4.heap.size w4 w5 from hH5.2.2.2.2.2.2)
            have HBo5 := Lib.hid (HBo4.out.below HB5.out)
            have HW5 := Lib.hid (HW4.out.trans (HB5.out.mono HW4.out.size))
            have HS5 := Lib.hid (Lst.keptL HS4.out (show Kept w4 w5 from HB5.out))
            clear hH5 HR4 p0 p1 p2 q0 q1 q2 cL cK
            by_cases hxy : x = y
            · have eb : (x != y) = false := by simpa using hxy
              have HN := Lib.hid (HOn.out ds (HSk.out.pass hL8 (by rw [HXY.out.1, HXY.out.2]; exact hxy)))
              clear hxy
              obtain ⟨⟨p0, p1, p2, _, _, _⟩, ⟨q0, q1, q2, _, _, _⟩, _, _, tL, tK⟩ := HBo5.out
              obtain ⟨gL1, eL1, cL⟩ := tL i hil
              obtain rfl : gL = gL1 := (by simpa using eL1)
              rw [HLA.out] at cL
              obtain ⟨gK1, eK1, cK⟩ := tK k hkl
              obtain rfl : gK = gK1 := (by simpa using eK1)
              rw [HKA.out] at cK
              clear tL tK
              go_wp2
              go_roundw
              case rel => exact ⟨i + 1, k + 1, ds, _, A5, c5, by go_num, by go_num, rfl, by omega, by omega, by omega, HS5, HN, HW5⟩
              case measure => simp [intOf]; omega
            · have eb : (x != y) = true := by simpa using hxy
              have HN := Lib.hid (HOn.out (ds ++ [la]) (HSk.out.add hL8 (by rw [HXY.out.1, HXY.out.2]; exact hxy)))
              clear hxy
              go_wp2_with (at_builtin; refine wpList_append_own _ rfl _ _ 27 rfl wB.heap.size 30 i0 (.int .u64 0) 1 8 Try.underlying27 hi hz0 hz1 hz2 rfl (by decide) _ ds.length (ds.map (Value.int .u64)) rfl (World.ownsRow.alloc HS5.out _) ⟨w5.heap.size, 0, none⟩ 1 1 [.int .u64 la] rfl rfl (cell_one_new _ _ _) (ints_oneCell .u64 [_]) (by unfold maxLen; omega) (by omega) (by have := HW5.out.size; simp; omega) ?_; intro v7 w7 hown7 hgrow7 hnil7; have HS7 := Lib.hid (lst_more hown7); have HB7 := Lib.hid (HW5.out.trans (app_below HS5.out HW5.out.size hgrow7)); have HBo7 := Lib.hid (HBo.out.below HB7.out); clear hown7 hgrow7 hnil7; obtain ⟨A7, c7, rfl⟩ := HS7.out.len; obtain ⟨⟨p0, p1, p2, _, _, _⟩, ⟨q0, q1, q2, _, _, _⟩, _, _, tL, tK⟩ := HBo7.out; obtain ⟨gL1, eL1, cL⟩ := tL i hil; obtain rfl : gL = gL1 := (by simpa using eL1); rw [HLA.out] at cL; obtain ⟨gK1, eK1, cK⟩ := tK k hkl; obtain rfl : gK = gK1 := (by simpa using eK1); rw [HKA.out] at cK; clear tL tK)
              go_roundw
              case rel => exact ⟨i + 1, k + 1, ds ++ [la], _, A7, c7, by go_num, by go_num, by simp, by omega, by omega, by simp; omega, HS7, HN, HB7⟩
              case measure => simp [intOf]; omega
          · have e13 : (la == ka) = false := by simpa using elk
            have HSk := Lib.hid (HM.out.skip (p := ka) hHR.out.1 hHR.out.2.1 hHR.out.2.2.1 hHR.out.2.2.2 hKX (fun _ => by rw [HLA.out]; omega) (fun _ => by rw [HKA.out]; exact Int.le_refl _))
            have HOn := Lib.hid (fun ds' hd => HM.out.on (p := ka) (ds' := ds') hHR.out.1 hHR.out.2.1 hKX hK8 (fun _ => by rw [HLA.out]; omega) (fun _ => by rw [HKA.out]; exact Int.le_refl _) hd (Or.inr ⟨fun _ => by rw [HLA.out]; omega, rfl⟩) (Or.inl ⟨hkl, HKA.out, rfl⟩))
            obtain ⟨x, hx⟩ : ∃ x, wordL L ka = x := ⟨_, rfl⟩
            obtain ⟨y, hy⟩ : ∃ y, wordL K ka = y := ⟨_, rfl⟩
            have HXY := Lib.hid (And.intro ((word_at hHR.out.2.2.1 hK8).trans hx) ((word_at hHR.out.2.2.2 hK8).trans hy))
            have HX := Lib.hid hx
            have HY := Lib.hid hy
            clear hx hy
            go_wp2
            go_quiet (fail)
            obtain ⟨w4, hw4, HB4⟩ : ∃ w4, wr.drewN nq = w4 ∧ Hid (Below wr.heap.size wr w4) := ⟨_, rfl, Lib.hid (drewN_below _ _)⟩
            rw [hw4]
            have HBo4 := Lib.hid (HBo1.out.below HB4.out)
            have HW4 := Lib.hid (HW.out.trans (HB4.out.mono HW.out.size))
            have HS4 := Lib.hid (Lst.keptL HS.out (show Kept wr w4 from HB4.out))
            have SL4 := Lib.hid HBo4.out.sL
            have SK4 := Lib.hid HBo4.out.sK
            have HR4 := regd_start HBo4.out.t2 HBo4.out.t3
            clear hw4 p0 p1 p2 q0 q1 q2 HB4 cL cK
            obtain ⟨⟨p0, p1, p2, _, _, _⟩, ⟨q0, q1, q2, _, _, _⟩, _, _, tL, tK⟩ := HBo4.out
            obtain ⟨gL1, eL1, cL⟩ := tL i hil
            obtain rfl : gL = gL1 := by simpa using eL1
            rw [HLA.out] at cL
            obtain ⟨gK1, eK1, cK⟩ := tK k hkl
            obtain rfl : gK = gK1 := by simpa using eK1
            rw [HKA.out] at cK
            clear tL tK
            go_upto_region 11 with fail
            go_region_held3 (fun w' => w'.cell? ⟨w.heap.size, 0, none⟩ = some (.int .i64 M) ∧ w'.cell? ⟨w.heap.size, 1, none⟩ = some (.slice (some ⟨gL, 0, none⟩) L.length c) ∧ w'.cell? ⟨w.heap.size, 2, none⟩ = some (.slice B tr.length b) ∧ w'.cell? ⟨w.heap.size + 1, 0, none⟩ = some (.int .i64 M) ∧ w'.cell? ⟨w.heap.size + 1, 1, none⟩ = some (.slice (some ⟨gK, 0, none⟩) K.length c') ∧ w'.cell? ⟨w.heap.size + 1, 2, none⟩ = some (.slice B' tr'.length b') ∧ Kept w4 w')
              (first | assumption | exact HR4)
              (first | (go_at_call 43; with_reducible refine (word_reg SL4 (by omega) (by assumption) _).mono ?_; rw [HX.out]; rintro e w5 ⟨rfl, hH5⟩) | (go_at_call 43; with_reducible refine (word_reg SK4 (by omega) (by assumption) _).mono ?_; rw [HY.out]; rintro e w5 ⟨rfl, hH5⟩))
            have HB5 := Lib.hid (show Below w4.heap.size w4 w5 from hH5.2.2.2.2.2.2)
            have HBo5 := Lib.hid (HBo4.out.below HB5.out)
            have HW5 := Lib.hid (HW4.out.trans (HB5.out.mono HW4.out.size))
            have HS5 := Lib.hid (Lst.keptL HS4.out (show Kept w4 w5 from HB5.out))
            clear hH5 HR4 p0 p1 p2 q0 q1 q2 cL cK
            by_cases hxy : x = y
            · have eb : (x != y) = false := by simpa using hxy
              have HN := Lib.hid (HOn.out ds (HSk.out.pass hK8 (by rw [HXY.out.1, HXY.out.2]; exact hxy)))
              clear hxy
              obtain ⟨⟨p0, p1, p2, _, _, _⟩, ⟨q0, q1, q2, _, _, _⟩, _, _, tL, tK⟩ := HBo5.out
              obtain ⟨gL1, eL1, cL⟩ := tL i hil
              obtain rfl : gL = gL1 := (by simpa using eL1)
              rw [HLA.out] at cL
              obtain ⟨gK1, eK1, cK⟩ := tK k hkl
              obtain rfl : gK = gK1 := (by simpa using eK1)
              rw [HKA.out] at cK
              clear tL tK
              go_wp2
              go_roundw
              case rel => exact ⟨i, k + 1, ds, _, A5, c5, rfl, by go_num, rfl, by omega, by omega, by omega, HS5, HN, HW5⟩
              case measure => simp [intOf]; omega
            · have eb : (x != y) = true := by simpa using hxy
              have HN := Lib.hid (HOn.out (ds ++ [ka]) (HSk.out.add hK8 (by rw [HXY.out.1, HXY.out.2]; exact hxy)))
              clear hxy
              go_wp2_with (at_builtin; refine wpList_append_own _ rfl _ _ 27 rfl wB.heap.size 30 i0 (.int .u64 0) 1 8 Try.underlying27 hi hz0 hz1 hz2 rfl (by decide) _ ds.length (ds.map (Value.int .u64)) rfl (World.ownsRow.alloc HS5.out _) ⟨w5.heap.size, 0, none⟩ 1 1 [.int .u64 ka] rfl rfl (cell_one_new _ _ _) (ints_oneCell .u64 [_]) (by unfold maxLen; omega) (by omega) (by have := HW5.out.size; simp; omega) ?_; intro v7 w7 hown7 hgrow7 hnil7; have HS7 := Lib.hid (lst_more hown7); have HB7 := Lib.hid (HW5.out.trans (app_below HS5.out HW5.out.size hgrow7)); have HBo7 := Lib.hid (HBo.out.below HB7.out); clear hown7 hgrow7 hnil7; obtain ⟨A7, c7, rfl⟩ := HS7.out.len; obtain ⟨⟨p0, p1, p2, _, _, _⟩, ⟨q0, q1, q2, _, _, _⟩, _, _, tL, tK⟩ := HBo7.out; obtain ⟨gL1, eL1, cL⟩ := tL i hil; obtain rfl : gL = gL1 := (by simpa using eL1); rw [HLA.out] at cL; obtain ⟨gK1, eK1, cK⟩ := tK k hkl; obtain rfl : gK = gK1 := (by simpa using eK1); rw [HKA.out] at cK; clear tL tK)
              go_roundw
              case rel => exact ⟨i, k + 1, ds ++ [ka], _, A7, c7, rfl, by go_num, by simp, by omega, by omega, by simp; omega, HS7, HN, HB7⟩
              case measure => simp [intOf]; omega
      · have gkF : decide ((k : Int) < (K.length : Int)) = false := by simp; omega
        have gkN : decide (K.length ≤ k) = true := by simp; omega
        have gkM : decide (k < K.length) = false := by simp; omega
        have hkG : (k : Int) ≥ (K.length : Int) := by omega
        have HSk := Lib.hid (HM.out.skip (p := la) hHR.out.1 hHR.out.2.1 hHR.out.2.2.1 hHR.out.2.2.2 hLX (fun _ => by rw [HLA.out]; exact Int.le_refl _) (fun h => absurd h hkl))
        have HOn := Lib.hid (fun ds' hd => HM.out.on (p := la) (ds' := ds') hHR.out.1 hHR.out.2.1 hLX hL8 (fun _ => by rw [HLA.out]; exact Int.le_refl _) (fun h => absurd h hkl) hd (Or.inl ⟨hil, HLA.out, rfl⟩) (Or.inr ⟨fun h => absurd h hkl, rfl⟩))
        obtain ⟨x, hx⟩ : ∃ x, wordL L la = x := ⟨_, rfl⟩
        obtain ⟨y, hy⟩ : ∃ y, wordL K la = y := ⟨_, rfl⟩
        have HXY := Lib.hid (And.intro ((word_at hHR.out.2.2.1 hL8).trans hx) ((word_at hHR.out.2.2.2 hL8).trans hy))
        have HX := Lib.hid hx
        have HY := Lib.hid hy
        clear hx hy
        go_wp2
        go_quiet (fail)
        obtain ⟨w4, hw4, HB4⟩ : ∃ w4, wr.drewN nq = w4 ∧ Hid (Below wr.heap.size wr w4) := ⟨_, rfl, Lib.hid (drewN_below _ _)⟩
        rw [hw4]
        have HBo4 := Lib.hid (HBo1.out.below HB4.out)
        have HW4 := Lib.hid (HW.out.trans (HB4.out.mono HW.out.size))
        have HS4 := Lib.hid (Lst.keptL HS.out (show Kept wr w4 from HB4.out))
        have SL4 := Lib.hid HBo4.out.sL
        have SK4 := Lib.hid HBo4.out.sK
        have HR4 := regd_start HBo4.out.t2 HBo4.out.t3
        clear hw4 p0 p1 p2 q0 q1 q2 HB4 cL
        obtain ⟨⟨p0, p1, p2, _, _, _⟩, ⟨q0, q1, q2, _, _, _⟩, _, _, tL, tK⟩ := HBo4.out
        obtain ⟨gL1, eL1, cL⟩ := tL i hil
        obtain rfl : gL = gL1 := by simpa using eL1
        rw [HLA.out] at cL
        clear tL tK
        go_upto_region 11 with fail
        go_region_held3 (fun w' => w'.cell? ⟨w.heap.size, 0, none⟩ = some (.int .i64 M) ∧ w'.cell? ⟨w.heap.size, 1, none⟩ = some (.slice (some ⟨gL, 0, none⟩) L.length c) ∧ w'.cell? ⟨w.heap.size, 2, none⟩ = some (.slice B tr.length b) ∧ w'.cell? ⟨w.heap.size + 1, 0, none⟩ = some (.int .i64 M) ∧ w'.cell? ⟨w.heap.size + 1, 1, none⟩ = some (.slice A' K.length c') ∧ w'.cell? ⟨w.heap.size + 1, 2, none⟩ = some (.slice B' tr'.length b') ∧ Kept w4 w')
          (first | assumption | exact HR4)
          (first | (go_at_call 43; with_reducible refine (word_reg SL4 (by omega) (by assumption) _).mono ?_; rw [HX.out]; rintro e w5 ⟨rfl, hH5⟩) | (go_at_call 43; with_reducible refine (word_reg SK4 (by omega) (by assumption) _).mono ?_; rw [HY.out]; rintro e w5 ⟨rfl, hH5⟩))
        have HB5 := Lib.hid (show Below w4.heap.size w4 w5 from hH5.2.2.2.2.2.2)
        have HBo5 := Lib.hid (HBo4.out.below HB5.out)
        have HW5 := Lib.hid (HW4.out.trans (HB5.out.mono HW4.out.size))
        have HS5 := Lib.hid (Lst.keptL HS4.out (show Kept w4 w5 from HB5.out))
        clear hH5 HR4 p0 p1 p2 q0 q1 q2 cL
        by_cases hxy : x = y
        · have eb : (x != y) = false := by simpa using hxy
          have HN := Lib.hid (HOn.out ds (HSk.out.pass hL8 (by rw [HXY.out.1, HXY.out.2]; exact hxy)))
          clear hxy
          obtain ⟨⟨p0, p1, p2, _, _, _⟩, ⟨q0, q1, q2, _, _, _⟩, _, _, tL, tK⟩ := HBo5.out
          obtain ⟨gL1, eL1, cL⟩ := tL i hil
          obtain rfl : gL = gL1 := (by simpa using eL1)
          rw [HLA.out] at cL
          clear tL tK
          go_wp2
          go_roundw
          case rel => exact ⟨i + 1, k, ds, _, A5, c5, by go_num, rfl, rfl, by omega, by omega, by omega, HS5, HN, HW5⟩
          case measure => simp [intOf]; omega
        · have eb : (x != y) = true := by simpa using hxy
          have HN := Lib.hid (HOn.out (ds ++ [la]) (HSk.out.add hL8 (by rw [HXY.out.1, HXY.out.2]; exact hxy)))
          clear hxy
          go_wp2_with (at_builtin; refine wpList_append_own _ rfl _ _ 27 rfl wB.heap.size 30 i0 (.int .u64 0) 1 8 Try.underlying27 hi hz0 hz1 hz2 rfl (by decide) _ ds.length (ds.map (Value.int .u64)) rfl (World.ownsRow.alloc HS5.out _) ⟨w5.heap.size, 0, none⟩ 1 1 [.int .u64 la] rfl rfl (cell_one_new _ _ _) (ints_oneCell .u64 [_]) (by unfold maxLen; omega) (by omega) (by have := HW5.out.size; simp; omega) ?_; intro v7 w7 hown7 hgrow7 hnil7; have HS7 := Lib.hid (lst_more hown7); have HB7 := Lib.hid (HW5.out.trans (app_below HS5.out HW5.out.size hgrow7)); have HBo7 := Lib.hid (HBo.out.below HB7.out); clear hown7 hgrow7 hnil7; obtain ⟨A7, c7, rfl⟩ := HS7.out.len; obtain ⟨⟨p0, p1, p2, _, _, _⟩, ⟨q0, q1, q2, _, _, _⟩, _, _, tL, tK⟩ := HBo7.out; obtain ⟨gL1, eL1, cL⟩ := tL i hil; obtain rfl : gL = gL1 := (by simpa using eL1); rw [HLA.out] at cL; clear tL tK)
          go_roundw
          case rel => exact ⟨i + 1, k, ds ++ [la], _, A7, c7, by go_num, rfl, by simp, by omega, by omega, by simp; omega, HS7, HN, HB7⟩
          case measure => simp [intOf]; omega
    · have giF : decide ((i : Int) < (L.length : Int)) = false := by simp; omega
      have giM : decide (i < L.length) = false := by simp; omega
      by_cases hkl : k < K.length
      · obtain ⟨gK, rfl, cK⟩ := TK.out k hkl
        obtain ⟨ka, hka⟩ : ∃ ka, atL K k = ka := ⟨_, rfl⟩
        have hKX : X ≤ ka := by rw [← hka]; exact HM.out.hiK k (Nat.le_refl _) hkl
        have hK8 : ka % 8 = 0 := by rw [← hka]; exact (hHR.out.2.1.eight hkl).1
        rw [hka] at cK
        have HKA := Lib.hid hka
        have hkI : (k : Int) < (K.length : Int) := by omega
        have gkG : decide ((k : Int) ≥ (K.length : Int)) = false := by simp; omega
        have gkN : decide (K.length ≤ k) = false := by simp; omega
        have gkM : decide (k < K.length) = true := by simp; omega
        clear hka
        have HSk := Lib.hid (HM.out.skip (p := ka) hHR.out.1 hHR.out.2.1 hHR.out.2.2.1 hHR.out.2.2.2 hKX (fun h => absurd h hil) (fun _ => by rw [HKA.out]; exact Int.le_refl _))
        have HOn := Lib.hid (fun ds' hd => HM.out.on (p := ka) (ds' := ds') hHR.out.1 hHR.out.2.1 hKX hK8 (fun h => absurd h hil) (fun _ => by rw [HKA.out]; exact Int.le_refl _) hd (Or.inr ⟨fun h => absurd h hil, rfl⟩) (Or.inl ⟨hkl, HKA.out, rfl⟩))
        obtain ⟨x, hx⟩ : ∃ x, wordL L ka = x := ⟨_, rfl⟩
        obtain ⟨y, hy⟩ : ∃ y, wordL K ka = y := ⟨_, rfl⟩
        have HXY := Lib.hid (And.intro ((word_at hHR.out.2.2.1 hK8).trans hx) ((word_at hHR.out.2.2.2 hK8).trans hy))
        have HX := Lib.hid hx
        have HY := Lib.hid hy
        clear hx hy
        go_wp2
        go_quiet (fail)
        obtain ⟨w4, hw4, HB4⟩ : ∃ w4, wr.drewN nq = w4 ∧ Hid (Below wr.heap.size wr w4) := ⟨_, rfl, Lib.hid (drewN_below _ _)⟩
        rw [hw4]
        have HBo4 := Lib.hid (HBo1.out.below HB4.out)
        have HW4 := Lib.hid (HW.out.trans (HB4.out.mono HW.out.size))
        have HS4 := Lib.hid (Lst.keptL HS.out (show Kept wr w4 from HB4.out))
        have SL4 := Lib.hid HBo4.out.sL
        have SK4 := Lib.hid HBo4.out.sK
        have HR4 := regd_start HBo4.out.t2 HBo4.out.t3
        clear hw4 p0 p1 p2 q0 q1 q2 HB4 cK
        obtain ⟨⟨p0, p1, p2, _, _, _⟩, ⟨q0, q1, q2, _, _, _⟩, _, _, tL, tK⟩ := HBo4.out
        obtain ⟨gK1, eK1, cK⟩ := tK k hkl
        obtain rfl : gK = gK1 := by simpa using eK1
        rw [HKA.out] at cK
        clear tL tK
        go_upto_region 11 with fail
        go_region_held3 (fun w' => w'.cell? ⟨w.heap.size, 0, none⟩ = some (.int .i64 M) ∧ w'.cell? ⟨w.heap.size, 1, none⟩ = some (.slice A L.length c) ∧ w'.cell? ⟨w.heap.size, 2, none⟩ = some (.slice B tr.length b) ∧ w'.cell? ⟨w.heap.size + 1, 0, none⟩ = some (.int .i64 M) ∧ w'.cell? ⟨w.heap.size + 1, 1, none⟩ = some (.slice (some ⟨gK, 0, none⟩) K.length c') ∧ w'.cell? ⟨w.heap.size + 1, 2, none⟩ = some (.slice B' tr'.length b') ∧ Kept w4 w')
          (first | assumption | exact HR4)
          (first | (go_at_call 43; with_reducible refine (word_reg SL4 (by omega) (by assumption) _).mono ?_; rw [HX.out]; rintro e w5 ⟨rfl, hH5⟩) | (go_at_call 43; with_reducible refine (word_reg SK4 (by omega) (by assumption) _).mono ?_; rw [HY.out]; rintro e w5 ⟨rfl, hH5⟩))
        have HB5 := Lib.hid (show Below w4.heap.size w4 w5 from hH5.2.2.2.2.2.2)
        have HBo5 := Lib.hid (HBo4.out.below HB5.out)
        have HW5 := Lib.hid (HW4.out.trans (HB5.out.mono HW4.out.size))
        have HS5 := Lib.hid (Lst.keptL HS4.out (show Kept w4 w5 from HB5.out))
        clear hH5 HR4 p0 p1 p2 q0 q1 q2 cK
        by_cases hxy : x = y
        · have eb : (x != y) = false := by simpa using hxy
          have HN := Lib.hid (HOn.out ds (HSk.out.pass hK8 (by rw [HXY.out.1, HXY.out.2]; exact hxy)))
          clear hxy
          obtain ⟨⟨p0, p1, p2, _, _, _⟩, ⟨q0, q1, q2, _, _, _⟩, _, _, tL, tK⟩ := HBo5.out
          obtain ⟨gK1, eK1, cK⟩ := tK k hkl
          obtain rfl : gK = gK1 := (by simpa using eK1)
          rw [HKA.out] at cK
          clear tL tK
          go_wp2
          go_roundw
          case rel => exact ⟨i, k + 1, ds, _, A5, c5, rfl, by go_num, rfl, by omega, by omega, by omega, HS5, HN, HW5⟩
          case measure => simp [intOf]; omega
        · have eb : (x != y) = true := by simpa using hxy
          have HN := Lib.hid (HOn.out (ds ++ [ka]) (HSk.out.add hK8 (by rw [HXY.out.1, HXY.out.2]; exact hxy)))
          clear hxy
          go_wp2_with (at_builtin; refine wpList_append_own _ rfl _ _ 27 rfl wB.heap.size 30 i0 (.int .u64 0) 1 8 Try.underlying27 hi hz0 hz1 hz2 rfl (by decide) _ ds.length (ds.map (Value.int .u64)) rfl (World.ownsRow.alloc HS5.out _) ⟨w5.heap.size, 0, none⟩ 1 1 [.int .u64 ka] rfl rfl (cell_one_new _ _ _) (ints_oneCell .u64 [_]) (by unfold maxLen; omega) (by omega) (by have := HW5.out.size; simp; omega) ?_; intro v7 w7 hown7 hgrow7 hnil7; have HS7 := Lib.hid (lst_more hown7); have HB7 := Lib.hid (HW5.out.trans (app_below HS5.out HW5.out.size hgrow7)); have HBo7 := Lib.hid (HBo.out.below HB7.out); clear hown7 hgrow7 hnil7; obtain ⟨A7, c7, rfl⟩ := HS7.out.len; obtain ⟨⟨p0, p1, p2, _, _, _⟩, ⟨q0, q1, q2, _, _, _⟩, _, _, tL, tK⟩ := HBo7.out; obtain ⟨gK1, eK1, cK⟩ := tK k hkl; obtain rfl : gK = gK1 := (by simpa using eK1); rw [HKA.out] at cK; clear tL tK)
          go_roundw
          case rel => exact ⟨i, k + 1, ds ++ [ka], _, A7, c7, rfl, by go_num, by simp, by omega, by omega, by simp; omega, HS7, HN, HB7⟩
          case measure => simp [intOf]; omega
      · have gkF : decide ((k : Int) < (K.length : Int)) = false := by simp; omega
        have hie : i = L.length := by omega
        have hke : k = K.length := by omega
        have HE := Lib.hid (show IsDif f g ds by have h := HM.out; rw [hie, hke] at h; exact h.done hHR.out.2.2.1 hHR.out.2.2.2)
        clear hie hke
        go_wp2
        go_ret
        exact ⟨A5, c5, ds, rfl, Lst.down HS.out HW0.out.size, HE.out, HW0.out.trans (HW.out.mono HW0.out.size)⟩

end Go.Proofs.Ytfakfmefjfemhaa
