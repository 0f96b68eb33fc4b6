/- Several texts of ours in one: Ol, L12l, L12m. -/
import Derived.Test.YtmglikmphddicaaDoorGNnL12rOu
import Derived.Test.YtmglikmphddicaaDoorGNbTpVr
import Derived.Test.YtmglikmphddicaaDoorGNaVaFr
import Derived.ProofKit
import Derived.OpenShut
import Derived.ChangeArms
import Derived.Test.YtmglikmphddicaaDoorGNhNkNm
/- A line, and what was seen of a group, by value, as arguments. -/
namespace Go.Proofs.YtmglikmphddicaaDoor
set_option linter.unusedVariables false
set_option linter.unusedSimpArgs false
open Go.ChangeShapes Go.WideShapes Go.ChangeAt Go.RowKit Go.Joins

theorem listN5 {α : Type} {zs : List α} (h : zs.length = 5) : ∃ x0 x1 x2 x3 x4, zs = [x0, x1, x2, x3, x4] := by
  match zs, h with
  | [x0, x1, x2, x3, x4], _ => exact ⟨x0, x1, x2, x3, x4, rfl⟩
theorem listN6 {α : Type} {zs : List α} (h : zs.length = 6) : ∃ x0 x1 x2 x3 x4 x5, zs = [x0, x1, x2, x3, x4, x5] := by
  match zs, h with
  | [x0, x1, x2, x3, x4, x5], _ => exact ⟨x0, x1, x2, x3, x4, x5, rfl⟩
theorem listN14 {α : Type} {zs : List α} (h : zs.length = 14) : ∃ x0 x1 x2 x3 x4 x5 x6 x7 x8 x9 x10 x11 x12 x13, zs = [x0, x1, x2, x3, x4, x5, x6, x7, x8, x9, x10, x11, x12, x13] := by
  match zs, h with
  | [x0, x1, x2, x3, x4, x5, x6, x7, x8, x9, x10, x11, x12, x13], _ => exact ⟨x0, x1, x2, x3, x4, x5, x6, x7, x8, x9, x10, x11, x12, x13, rfl⟩
theorem ol_bool : Tryd.prog.cellsOf 4 = 1 := by kernel_rfl
theorem ol_int : Tryd.prog.cellsOf 3 = 1 := by kernel_rfl
theorem ol_u64 : Tryd.prog.cellsOf 22 = 1 := by kernel_rfl
theorem ol_u8 : Tryd.prog.cellsOf 5 = 1 := by kernel_rfl
theorem ol_rgt : Tryd.prog.cellsOf 25 = 3 := by kernel_rfl
theorem ol_arr : Tryd.prog.cellsOf 23 = 8 := by kernel_rfl
theorem ol_line : Tryd.prog.cellsOf 34 = 6 := by kernel_rfl
theorem ol_seen : Tryd.prog.cellsOf 27 = 14 := by kernel_rfl
theorem u8_of {a : Int} (h : (Lit.int .u8 a).wf = true) : U8 a := by obtain ⟨h0, h1⟩ := bounds_u8 h; unfold U8; omega

section
variable {H : Type} {enc : TypeId × Value → H} {w : World} {base : Nat} {spare : Nat → Bool} {held : Bool}
theorem ol_right {fuel : Nat} {c0 c1 c2 : Value} {x : DataW H × List MemPlace} (hf : DataW.trod enc Tryd.prog w base spare held fuel 25 [c0, c1, c2] = some x) :
    ∃ a b c : Bool, c0 = .bool a ∧ c1 = .bool b ∧ c2 = .bool c := by
  obtain ⟨xs, m, _, _, hl, hxl, hel⟩ := DataW.trod_struct Tryd.underlying25 hf
  obtain ⟨y0, y1, y2, rfl⟩ := listN3 (zs := xs) (by simpa using hxl)
  have e0 := hel 0 _ rfl
  have e1 := hel 1 _ rfl
  have e2 := hel 2 _ rfl
  simp [ol_bool] at e0 e1 e2
  obtain ⟨a, h0, _⟩ := DataW.trod_bool Tryd.underlying4 e0
  obtain ⟨b, h1, _⟩ := DataW.trod_bool Tryd.underlying4 e1
  obtain ⟨c, h2, _⟩ := DataW.trod_bool Tryd.underlying4 e2
  simp at h0 h1 h2
  exact ⟨a, b, c, h0, h1, h2⟩

set_option maxRecDepth 100000 in
theorem open_line {r : Reach} {b0 : Nat} {v : Value} {d : DataW H} {p : List MemPlace} (hv : Value.okWide Tryd.prog w r b0 34 v) (h : DataW.Trod enc Tryd.prog w base spare held 34 v d p) :
    ∃ l : Ln, v = lineV l ∧ OkL l := by
  obtain ⟨cs, rfl, hsz, _⟩ : ∃ cs, v = .agg cs ∧ cs.size = Tryd.prog.cellsOf 34 ∧ Row.okWide Tryd.prog w r b0 34 cs := by
    simpa [Value.okWide, Tryd.underlying34] using hv
  obtain ⟨fuel, hf⟩ := h
  obtain ⟨cs⟩ := cs
  obtain ⟨c0, c1, c2, c3, c4, c5, rfl⟩ := listN6 (zs := cs) (by simpa using hsz.trans ol_line)
  obtain ⟨xs, m, _, _, hl, hxl, hel⟩ := DataW.trod_struct Tryd.underlying34 hf
  obtain ⟨y0, y1, y2, y3, rfl⟩ := listN4 (zs := xs) (by simpa using hxl)
  have e0 := hel 0 _ rfl
  have e1 := hel 1 _ rfl
  have e2 := hel 2 _ rfl
  have e3 := hel 3 _ rfl
  simp [Value.cells, ol_bool, ol_u64, ol_u8, ol_rgt] at e0 e1 e2 e3
  obtain ⟨f, g0, _, _⟩ := DataW.trod_int Tryd.underlying22 e0
  obtain ⟨a, b, c, rfl, rfl, rfl⟩ := ol_right e1
  obtain ⟨dd, g4, _⟩ := DataW.trod_bool Tryd.underlying4 e2
  obtain ⟨mm, g5, _, w5⟩ := DataW.trod_int Tryd.underlying5 e3
  simp at g0 g4 g5
  subst g0 g4 g5
  exact ⟨(f, a, b, c, dd, mm), rfl, u8_of w5⟩

set_option maxRecDepth 100000 in
theorem open_seen {r : Reach} {b0 : Nat} {v : Value} {d : DataW H} {p : List MemPlace} (hv : Value.okWide Tryd.prog w r b0 27 v) (h : DataW.Trod enc Tryd.prog w base spare held 27 v d p) :
    ∃ s : Sn, v = seenV s ∧ OkS s := by
  obtain ⟨cs, rfl, hsz, _⟩ : ∃ cs, v = .agg cs ∧ cs.size = Tryd.prog.cellsOf 27 ∧ Row.okWide Tryd.prog w r b0 27 cs := by
    simpa [Value.okWide, Tryd.underlying27] using hv
  obtain ⟨fuel, hf⟩ := h
  obtain ⟨cs⟩ := cs
  obtain ⟨c0, c1, c2, c3, c4, c5, c6, c7, c8, c9, c10, c11, c12, c13, rfl⟩ := listN14 (zs := cs) (by simpa using hsz.trans ol_seen)
  obtain ⟨xs, m, _, _, hl, hxl, hel⟩ := DataW.trod_struct Tryd.underlying27 hf
  obtain ⟨y0, y1, y2, y3, y4, rfl⟩ := listN5 (zs := xs) (by simpa using hxl)
  have e0 := hel 0 _ rfl
  have e1 := hel 1 _ rfl
  have e2 := hel 2 _ rfl
  have e3 := hel 3 _ rfl
  have e4 := hel 4 _ rfl
  simp [Value.cells, ol_bool, ol_int, ol_arr, ol_rgt] at e0 e1 e2 e3 e4
  obtain ⟨ys, m1, _, _, hl1, hyl, hye⟩ := DataW.trod_array Tryd.underlying23 e0
  rw [ol_u64] at hye
  obtain ⟨zs, z1, z2, z3⟩ := ints_of Tryd.underlying22 8 [c0, c1, c2, c3, c4, c5, c6, c7] ys rfl hyl (fun i hi => by simpa [Value.cells] using hye i hi)
  obtain ⟨x0, x1, x2, x3, x4, x5, x6, x7, rfl⟩ := listN8 z1
  simp at z2
  obtain ⟨rfl, rfl, rfl, rfl, rfl, rfl, rfl, rfl⟩ := z2
  obtain ⟨a, g8, _, w8⟩ := DataW.trod_int Tryd.underlying3 e1
  obtain ⟨W, U, Y, rfl, rfl, rfl⟩ := ol_right e2
  obtain ⟨b, g12, _, w12⟩ := DataW.trod_int Tryd.underlying3 e3
  obtain ⟨n, g13, _⟩ := DataW.trod_bool Tryd.underlying4 e4
  simp at g8 g12 g13
  subst g8 g12 g13
  exact ⟨⟨x0, x1, x2, x3, x4, x5, x6, x7, a, W, U, Y, b, n⟩, rfl, w64_of (z3 x0 (by simp)), w64_of (z3 x1 (by simp)), w64_of (z3 x2 (by simp)), w64_of (z3 x3 (by simp)), w64_of (z3 x4 (by simp)), w64_of (z3 x5 (by simp)), w64_of (z3 x6 (by simp)), w64_of (z3 x7 (by simp)), i64_of w12, i64_of w8⟩
end
end Go.Proofs.YtmglikmphddicaaDoor
/- The walk of GroupLines. (Laid by tools/gen_l12.py.) -/
namespace Go.Proofs.YtmglikmphddicaaDoor
set_option linter.unusedVariables false
set_option linter.unusedSimpArgs false
open Go.ChangeShapes Go.WideShapes Go.ChangeAt Go.RowKit Go.Joins

set_option maxRecDepth 100000 in
set_option maxHeartbeats 3200000 in
theorem groupLines_walk (l : Ln) (i s : Int) (w : World) (hl : OkL l) (hs : W64 s) (hp : PagesT w) :
    Calls Tryd.prog 4 #[lineV l, .int .i64 i, .int .u64 s] w fun e w' => e = .returned (.bool true) ∧ Below w.heap.size w w' := by
  obtain ⟨f, hf⟩ : ∃ f, atG l i = f := ⟨_, rfl⟩
  obtain ⟨p, hpp⟩ : ∃ p, hasG l i = p := ⟨_, rfl⟩
  obtain ⟨m, hm⟩ : ∃ m, wthG l i = m := ⟨_, rfl⟩
  have CH : ∀ w', PagesT w' → Calls Tryd.prog 14 #[lineV l, .int .i64 i] w' fun e w'' => e = .returned (.tuple #[.int .u64 f, .bool p]) ∧ Below w'.heap.size w' w'' := fun w' hp' => by
    have h := ghas_any l i w' hp' hl; rwa [hf, hpp] at h
  have CD : ∀ w', Calls Tryd.prog 15 #[lineV l, .int .i64 i] w' fun e w'' => e = .returned (.tuple #[.int .u64 f, .bool p]) ∧ Below w'.heap.size w' w'' := fun w' => by
    have h := rhas_any l i w' hl; rwa [hf, hpp] at h
  have CW : ∀ w', PagesT w' → Calls Tryd.prog 16 #[lineV l, .int .i64 i] w' fun e w'' => e = .returned (lineV m) ∧ Below w'.heap.size w' w'' := fun w' hp' => by
    have h := gwith_any l i w' hp' hl; rwa [hm] at h
  have CX : ∀ w', Calls Tryd.prog 17 #[lineV l, .int .i64 i] w' fun e w'' => e = .returned (lineV m) ∧ Below w'.heap.size w' w'' := fun w' => by
    have h := rwith12_any l i w' hl; rwa [hm] at h
  have hq := eqlD m
  have hq2 := eqlS s
  have HS := Lib.hid hs
  have HT := Lib.hid hp
  have H0 := Lib.hid ((Mine.start w).new (b := w.heap.size) rfl (lineC l) 34)
  clear hp hs hl hf hpp hm
  go_enter Tryd.func4, Tryd.ntmps4
  go_upto_region 1 with fail
  generalize hw0 : w.alloc _ = w0
  have H1 := Lib.hid (H0.out.world hw0)
  clear hw0 H0
  go_upto_region 2 with (go_at_call 9; refine (awake12_any _ (pages_keep HT.out H1.out.below (Nat.le_refl _))).mono ?_; rintro e w2 ⟨rfl, hb⟩; have H2 := Lib.hid (H1.out.quiet hb); clear hb H1)
  obtain ⟨l0, l1, l2, l3, l4, l5⟩ := (H2.out.at_ 0 rfl).line6
  go_upto_region 3 with (go_at_call 14; refine (CH _ (pages_keep HT.out H2.out.below (Nat.le_refl _))).mono ?_; rintro e w3 ⟨rfl, hb⟩; have H3 := Lib.hid (H2.out.quiet hb); clear hb H2 l0 l1 l2 l3 l4 l5)
  obtain ⟨l0, l1, l2, l3, l4, l5⟩ := (H3.out.at_ 0 rfl).line6
  go_upto_region 4 with (first | (go_at_call 10; refine (lined12_any l _).mono ?_; rintro e w4 ⟨rfl, hb⟩; have H4 := Lib.hid (H3.out.quiet hb); clear hb H3 l0 l1 l2 l3 l4 l5) | (go_at_call 15; refine (CD _).mono ?_; rintro e w5 ⟨rfl, hb⟩; have H5 := Lib.hid (H4.out.quiet hb); clear hb H4))
  refine wp_region_held_drew (S := fun w' => Mine w w' [⟨w.heap.size, lineC l, 34⟩] []) (by kernel_rfl) ((H5.out.quiet (Kept.drew0 _))) (fun hHeld => ?_)
  have H20 := Lib.hid ((H5.out.quiet (Kept.drew0 _)))
  clear H5
  generalize w5.drew = w20 at *
  refine tk (v := ?_) 0 ?_ ?_
  rotate_left
  · intro w hSw
    go_simp
    (try with_reducible rfl)
  (try simp only [Act.put, List.setIfInBounds_toArray, List.set_cons_zero, List.set_cons_succ])
  refine tk (v := ?_) 1 ?_ ?_
  rotate_left
  · intro w hSw
    go_simp
    (try with_reducible rfl)
  (try simp only [Act.put, List.setIfInBounds_toArray, List.set_cons_zero, List.set_cons_succ])
  refine tk (v := ?_) 2 ?_ ?_
  rotate_left
  · intro w hSw
    go_simp
    (try with_reducible rfl)
  (try simp only [Act.put, List.setIfInBounds_toArray, List.set_cons_zero, List.set_cons_succ])
  refine tk (v := ?_) 3 ?_ ?_
  rotate_left
  · intro w hSw
    go_simp
    (try with_reducible rfl)
  (try simp only [Act.put, List.setIfInBounds_toArray, List.set_cons_zero, List.set_cons_succ])
  refine tk (v := ?_) 4 ?_ ?_
  rotate_left
  · intro w hSw
    go_simp
    (try with_reducible rfl)
  (try simp only [Act.put, List.setIfInBounds_toArray, List.set_cons_zero, List.set_cons_succ])
  refine tk (v := ?_) 5 ?_ ?_
  rotate_left
  · intro w hSw
    go_simp
    (try with_reducible rfl)
  (try simp only [Act.put, List.setIfInBounds_toArray, List.set_cons_zero, List.set_cons_succ])
  refine tk (v := ?_) 6 ?_ ?_
  rotate_left
  · intro w hSw
    go_simp
    (try with_reducible rfl)
  (try simp only [Act.put, List.setIfInBounds_toArray, List.set_cons_zero, List.set_cons_succ])
  refine tk (v := ?_) 7 ?_ ?_
  rotate_left
  · intro w hSw
    go_simp
    (try with_reducible rfl)
  (try simp only [Act.put, List.setIfInBounds_toArray, List.set_cons_zero, List.set_cons_succ])
  refine tk (v := ?_) 8 ?_ ?_
  rotate_left
  · intro w hSw
    go_simp
    (try with_reducible rfl)
  (try simp only [Act.put, List.setIfInBounds_toArray, List.set_cons_zero, List.set_cons_succ])
  refine tk (v := ?_) 9 ?_ ?_
  rotate_left
  · intro w hSw
    go_simp
    (try with_reducible rfl)
  (try simp only [Act.put, List.setIfInBounds_toArray, List.set_cons_zero, List.set_cons_succ])
  refine tk (v := ?_) 10 ?_ ?_
  rotate_left
  · intro w hSw
    go_simp
    (try with_reducible rfl)
  (try simp only [Act.put, List.setIfInBounds_toArray, List.set_cons_zero, List.set_cons_succ])
  refine tk (v := ?_) 11 ?_ ?_
  rotate_left
  · intro w hSw
    go_simp
    (try with_reducible rfl)
  (try simp only [Act.put, List.setIfInBounds_toArray, List.set_cons_zero, List.set_cons_succ])
  refine tk (v := ?_) 12 ?_ ?_
  rotate_left
  · intro w hSw
    obtain ⟨l0, l1, l2, l3, l4, l5⟩ := (hSw.at_ 0 rfl).line6
    go_simp
    (try with_reducible rfl)
  (try simp only [Act.put, List.setIfInBounds_toArray, List.set_cons_zero, List.set_cons_succ])
  refine tk (v := ?_) 13 ?_ ?_
  rotate_left
  · intro w hSw
    go_simp
    (try with_reducible rfl)
  (try simp only [Act.put, List.setIfInBounds_toArray, List.set_cons_zero, List.set_cons_succ])
  refine tk (v := ?_) 16 ?_ ?_
  rotate_left
  · intro w hSw
    obtain ⟨l0, l1, l2, l3, l4, l5⟩ := (hSw.at_ 0 rfl).line6
    go_simp
    (try with_reducible rfl)
  (try simp only [Act.put, List.setIfInBounds_toArray, List.set_cons_zero, List.set_cons_succ])
  refine tk (v := ?_) 18 ?_ ?_
  rotate_left
  · intro w hSw
    go_simp
    (try with_reducible rfl)
  (try simp only [Act.put, List.setIfInBounds_toArray, List.set_cons_zero, List.set_cons_succ])
  refine wpAnyH_ready (rs := [14]) (by kernel_rfl) (by simp) ?_
  refine anyH_one rfl (fun K hK => ?_) ?_
  · go_simp
    refine (CW _ (pages_keep HT.out H20.out.below (Nat.le_refl _))).mono ?_
    rintro e w21 ⟨rfl, hB21⟩
    have H21 := Lib.hid (H20.out.quiet hB21)
    clear H20
    refine hK.out _ _ (H21.out.pick [0] []) (fun hHeld => ?_)
    clear hK K
    (try simp only [Act.put, List.setIfInBounds_toArray, List.set_cons_zero, List.set_cons_succ])
    refine wpAnyH_ready (rs := [15]) (by kernel_rfl) (by simp) ?_
    refine anyH_one rfl (fun K hK => ?_) ?_
    · go_simp
      refine (lined12_any m _).mono ?_
      rintro e w22 ⟨rfl, hB22⟩
      have H22 := Lib.hid (H21.out.quiet hB22)
      clear H21
      refine hK.out _ _ (H22.out.pick [0] []) (fun hHeld => ?_)
      clear hK K
      (try simp only [Act.put, List.setIfInBounds_toArray, List.set_cons_zero, List.set_cons_succ])
      refine wpAnyH_ready (rs := [17]) (by kernel_rfl) (by simp) ?_
      refine anyH_one rfl (fun K hK => ?_) ?_
      · go_simp
        refine (lined12_any l _).mono ?_
        rintro e w23 ⟨rfl, hB23⟩
        have H23 := Lib.hid (H22.out.quiet hB23)
        clear H22
        refine hK.out _ _ (H23.out.pick [0] []) (fun hHeld => ?_)
        clear hK K
        (try simp only [Act.put, List.setIfInBounds_toArray, List.set_cons_zero, List.set_cons_succ])
        refine wpAnyH_ready (rs := [19]) (by kernel_rfl) (by simp) ?_
        refine anyH_one rfl (fun K hK => ?_) ?_
        · go_simp
          refine (CX _).mono ?_
          rintro e w24 ⟨rfl, hB24⟩
          have H24 := Lib.hid (H23.out.quiet hB24)
          clear H23
          refine hK.out _ _ (H24.out.pick [0] []) (fun hHeld => ?_)
          clear hK K
          (try simp only [Act.put, List.setIfInBounds_toArray, List.set_cons_zero, List.set_cons_succ])
          refine tk (v := ?_) 20 ?_ ?_
          rotate_left
          · intro w hSw
            go_simp
            (try with_reducible rfl)
          (try simp only [Act.put, List.setIfInBounds_toArray, List.set_cons_zero, List.set_cons_succ])
          refine tk (v := ?_) 21 ?_ ?_
          rotate_left
          · intro w hSw
            go_simp
            (try with_reducible rfl)
          (try simp only [Act.put, List.setIfInBounds_toArray, List.set_cons_zero, List.set_cons_succ])
          refine tk (v := ?_) 22 ?_ ?_
          rotate_left
          · intro w hSw
            go_simp
            (try with_reducible rfl)
          (try simp only [Act.put, List.setIfInBounds_toArray, List.set_cons_zero, List.set_cons_succ])
          refine tk (v := ?_) 23 ?_ ?_
          rotate_left
          · intro w hSw
            go_simp
            (try with_reducible rfl)
          (try simp only [Act.put, List.setIfInBounds_toArray, List.set_cons_zero, List.set_cons_succ])
          refine tk (v := ?_) 25 ?_ ?_
          rotate_left
          · intro w hSw
            go_simp
            (try with_reducible rfl)
          (try simp only [Act.put, List.setIfInBounds_toArray, List.set_cons_zero, List.set_cons_succ])
          refine wpAnyH_ready (rs := [24]) (by kernel_rfl) (by simp) ?_
          refine anyH_one rfl (fun K hK => ?_) ?_
          · go_simp
            refine (slots_any s _ HS.out).mono ?_
            rintro e w25 ⟨rfl, hB25⟩
            have H25 := Lib.hid (H24.out.quiet hB25)
            clear H24
            refine hK.out _ _ (H25.out.pick [0] []) (fun hHeld => ?_)
            clear hK K
            (try simp only [Act.put, List.setIfInBounds_toArray, List.set_cons_zero, List.set_cons_succ])
            refine wpAnyH_ready (rs := [26]) (by kernel_rfl) (by simp) ?_
            refine anyH_one rfl (fun K hK => ?_) ?_
            · go_simp
              refine (rslots_any s _ HS.out).mono ?_
              rintro e w26 ⟨rfl, hB26⟩
              have H26 := Lib.hid (H25.out.quiet hB26)
              clear H25
              refine hK.out _ _ (H26.out.pick [0] []) (fun hHeld => ?_)
              clear hK K
              (try simp only [Act.put, List.setIfInBounds_toArray, List.set_cons_zero, List.set_cons_succ])
              refine tk (v := ?_) 27 ?_ ?_
              rotate_left
              · intro w hSw
                go_simp
                (try with_reducible rfl)
              (try simp only [Act.put, List.setIfInBounds_toArray, List.set_cons_zero, List.set_cons_succ])
              refine tk (v := ?_) 28 ?_ ?_
              rotate_left
              · intro w hSw
                go_simp
                (try with_reducible rfl)
              (try simp only [Act.put, List.setIfInBounds_toArray, List.set_cons_zero, List.set_cons_succ])
              refine tk (v := ?_) 29 ?_ ?_
              rotate_left
              · intro w hSw
                go_simp
                (try with_reducible rfl)
              (try simp only [Act.put, List.setIfInBounds_toArray, List.set_cons_zero, List.set_cons_succ])
              refine wpAnyH_done (by kernel_rfl) ?_ _
              clear hHeld
              go_wp2
              go_ret
              exact ⟨rfl, H26.out.below⟩
            exact AllReadyH.nil
          exact AllReadyH.nil
        exact AllReadyH.nil
      exact AllReadyH.nil
    exact AllReadyH.nil
  exact AllReadyH.nil
end Go.Proofs.YtmglikmphddicaaDoor
/- The walk of GroupMeets. (Laid by tools/gen_l12.py.) -/
namespace Go.Proofs.YtmglikmphddicaaDoor
set_option linter.unusedVariables false
set_option linter.unusedSimpArgs false
open Go.ChangeShapes Go.WideShapes Go.ChangeAt Go.RowKit Go.Joins

theorem mod_bd (z : Int) : -7 ≤ z.tmod 8 ∧ z.tmod 8 ≤ 7 := by
  have h1 := Int.lt_tmod_of_pos z (show (0 : Int) < 8 by decide)
  have h2 := Int.tmod_lt_of_pos z (show (0 : Int) < 8 by decide)
  omega
theorem mod_up {r : Int} (h0 : -7 ≤ r) (h7 : r ≤ 7) : (r + 8).tmod 8 = (r + 8) % 8 := Int.tmod_eq_emod_of_nonneg (by omega)
theorem Mine.putA {w wr w3 : World} {bs : List BoxD} {rs : List RowD} {b : Nat} {t : TypeId} {s : Sn} {a : Int} (h : Mine w wr bs rs) (k : Nat) (hk : bs[k]? = some ⟨b, seenC s, t⟩) (hq : wr.setCell ⟨b, 8, none⟩ (.int .i64 a) = w3) (hr : rs.all (fun r => r.e != t) = true := by rfl) : Mine w w3 (bs.set k ⟨b, seenC { s with a := a }, t⟩) rs := by
  subst hq
  exact h.put k hk (turn1 _ _ _ _) ((h.at_ k hk).set1 8 _) hr
theorem OkS.with_ {s : Sn} (h : OkS s) {a : Int} (ha : I64 a) : OkS { s with a := a } := ⟨h.h0, h.h1, h.h2, h.h3, h.h4, h.h5, h.h6, h.h7, h.hb, ha⟩
theorem tdiv_pos {x n : Int} (h : W64 x) : x.tdiv n = x / n := Int.tdiv_eq_ediv_of_nonneg h.1
theorem wrap_quo {x n : Int} (h : W64 x) (hn : 1 ≤ n) : IntKind.u64.wrap (x / n) = x / n := by
  obtain ⟨a, b⟩ := h
  have h1 : 0 ≤ x / n := Int.ediv_nonneg a (by omega)
  have h2 : x / n ≤ x := Int.ediv_le_self n a
  rw [IntKind.wrap_u64]; omega
theorem tmod_pos {x n : Int} (h : 0 ≤ x) : x.tmod n = x % n := Int.tmod_eq_emod_of_nonneg h

set_option maxRecDepth 100000 in
set_option maxHeartbeats 3200000 in
theorem groupMeets_walk (s : Sn) (o : Int) (w : World) (hs : OkS s) (hp : PagesT w) (ho : U8 o) :
    Calls Tryd.prog 6 #[seenV s, .int .u8 o] w fun e w' => e = .returned (.bool true) ∧ Below w.heap.size w w' := by
  obtain ⟨r, hr⟩ : ∃ r, s.a.tmod 8 = r := ⟨_, rfl⟩
  have hrb := mod_bd s.a
  rw [hr] at hrb
  obtain ⟨r0, r7⟩ := hrb
  obtain ⟨a, ha⟩ : ∃ a, (r + 8) % 8 = a := ⟨_, rfl⟩
  have e2 : (r + 8).tmod 8 = a := (mod_up r0 r7).trans ha
  have a0 : 0 ≤ a := by omega
  have a7 : a ≤ 7 := by omega
  obtain ⟨s1, hs1⟩ : ∃ s1, ({ s with a := a } : Sn) = s1 := ⟨_, rfl⟩
  have ok1 : OkS s1 := by rw [← hs1]; exact hs.with_ ⟨by omega, by omega⟩
  have ea : s1.a = a := by rw [← hs1]
  have g0 : 0 ≤ s1.a := by omega
  have g7 : s1.a ≤ 7 := by omega
  have g8 : s1.a < 8 := by omega
  obtain ⟨xa, hxa⟩ : ∃ x, thW s1.X s1.a = x := ⟨_, rfl⟩
  have hx : W64 xa := by rw [← hxa]; exact ok1.at_ s1.a
  obtain ⟨k, hk⟩ : ∃ k, o % 8 = k := ⟨_, rfl⟩
  have ek : o.tmod 8 = k := (tmod_pos ho.1).trans hk
  have k0 : 0 ≤ k := by omega
  have k7 : k ≤ 7 := by omega
  obtain ⟨s2, hs2⟩ : ∃ s2, ({ s1 with a := k } : Sn) = s2 := ⟨_, rfl⟩
  have ok2 : OkS s2 := by rw [← hs2]; exact ok1.with_ ⟨by omega, by omega⟩
  obtain ⟨l, hl⟩ : ∃ l, runF s1.X s1.a s1.b s1.n s1.W s1.U s1.Y = l := ⟨_, rfl⟩
  obtain ⟨l', hl'⟩ : ∃ l', runF s2.X s2.a s2.b s2.n s2.W s2.U s2.Y = l' := ⟨_, rfl⟩
  obtain ⟨f, hf⟩ : ∃ f, atG l k = f := ⟨_, rfl⟩
  obtain ⟨p, hpp⟩ : ∃ p, hasG l k = p := ⟨_, rfl⟩
  obtain ⟨b5, hb5⟩ : ∃ b, bitF xa 5 = b := ⟨_, rfl⟩
  have hok : OkL l := by rw [← hl]; exact ok_run _ _ _ _ _ _ _
  have HME : Hid (p = true → b5 = true → l' = l) := Lib.hid fun h1 h2 => by
    rw [← hl', ← hl, ← hs2]
    rw [← hpp, ← hl] at h1
    cases hr : okRun s1.X s1.a s1.b s1.n
    · rw [run_no hr] at h1
      exact absurd h1 (by rw [show hasG zL k = false from has_zero k]; simp)
    · rw [has_run hr _ _ _ k0 k7] at h1
      exact run_meets hr _ _ _ k0 k7 h1 (by rw [hxa, hb5]; exact h2)
  have CR : ∀ w', PagesT w' → Calls Tryd.prog 11 #[seenV s1] w' fun e w'' => e = .returned (lineV l) ∧ Below w'.heap.size w' w'' := fun w' hp' => by
    have h := grun_any s1 w' ok1 hp'; unfold RunPost at h; rwa [hl] at h
  have CR2 : ∀ w', PagesT w' → Calls Tryd.prog 11 #[seenV s2] w' fun e w'' => e = .returned (lineV l') ∧ Below w'.heap.size w' w'' := fun w' hp' => by
    have h := grun_any s2 w' ok2 hp'; unfold RunPost at h; rwa [hl'] at h
  have CH : ∀ w', PagesT w' → Calls Tryd.prog 14 #[lineV l, .int .i64 k] w' fun e w'' => e = .returned (.tuple #[.int .u64 f, .bool p]) ∧ Below w'.heap.size w' w'' := fun w' hp' => by
    have h := ghas_any l k w' hp' hok; rwa [hf, hpp] at h
  have q1 : xa.tdiv 32 = xa / 32 := tdiv_pos hx
  have q1w : IntKind.u64.wrap (xa / 32) = xa / 32 := wrap_quo hx (by decide)
  have q2 : (xa / 32).tmod 2 = xa / 32 % 2 := tmod_pos (by have := hx.1; omega)
  have q3 : (xa / 32 % 2 == 0) = !b5 := by rw [bit5_even hx, hb5]
  have hq := eqlC l
  have HXA := Lib.hid hxa
  have HS1 := Lib.hid hs1
  have HS2 := Lib.hid hs2
  have HT := Lib.hid hp
  have H0 := Lib.hid ((Mine.start w).new (b := w.heap.size) rfl (seenC s) 27)
  clear hp hs ok1 ok2 ha hk hl hl' hf hpp hb5 hok hxa hs1 hs2 ea ho hx
  go_enter Tryd.func6, Tryd.ntmps6
  go_upto_region 1 with fail
  generalize hw0 : w.alloc _ = w0
  have H1 := Lib.hid (H0.out.world hw0)
  clear hw0 H0
  go_upto_region 2 with (go_at_call 9; refine (awake12_any _ (pages_keep HT.out H1.out.below (Nat.le_refl _))).mono ?_; rintro e w2 ⟨rfl, hb⟩; have H2 := Lib.hid (H1.out.quiet hb); clear hb H1)
  have r8 := (cell_of_block (H2.out.at_ 0 rfl) 8).trans (show (seenC s)[8]? = some (.int .i64 s.a) from rfl)
  have f8 := (H2.out.at_ 0 rfl).fz 8
  go_upto_region 3 with fail
  generalize hw3 : w2.setCell _ _ = w3
  have H3 := Lib.hid (H2.out.putA 0 rfl hw3)
  clear hw3 H2 r8 f8
  rw [HS1.out] at H3
  have H4 : Hid (Mine w w3 [⟨w.heap.size, seenC s1, 27⟩] []) := H3
  clear H3 hr e2 r0 r7
  obtain ⟨c0, c1, c2, c3, c4, c5, c6, c7, c8, c9, c10, c11, c12, c13⟩ := (H4.out.at_ 0 rfl).seen
  go_upto_region 4 with (go_at_call 11; refine (CR _ (pages_keep HT.out H4.out.below (Nat.le_refl _))).mono ?_; rintro e w5 ⟨rfl, hb⟩; have H5 := Lib.hid (H4.out.quiet hb); clear hb H4 c0 c1 c2 c3 c4 c5 c6 c7 c8 c9 c10 c11 c12 c13)
  generalize hw6 : w5.alloc _ = w6
  have H6 := Lib.hid ((H5.out.new (b := w5.heap.size) rfl (lineC l) 34).world hw6)
  clear hw6 H5
  generalize w5.heap.size = bl at *
  obtain ⟨l0, l1, l2, l3, l4, l5⟩ := (H6.out.at_ 0 rfl).line6
  go_upto_region 6 with (go_at_call 14; refine (CH _ (pages_keep HT.out H6.out.below (Nat.le_refl _))).mono ?_; rintro e w7 ⟨rfl, hb⟩; have H7 := Lib.hid (H6.out.quiet hb); clear hb H6)
  clear l0 l1 l2 l3 l4 l5
  obtain ⟨c0, c1, c2, c3, c4, c5, c6, c7, c8, c9, c10, c11, c12, c13⟩ := (H7.out.at_ 1 rfl).seen
  go_upto_region 7 with fail
  generalize hw8 : w7.alloc _ = w8
  have H8 := Lib.hid ((H7.out.new (b := w7.heap.size) rfl (seenC s1) 27).world hw8)
  clear hw8 H7 c0 c1 c2 c3 c4 c5 c6 c7 c8 c9 c10 c11 c12 c13
  generalize w7.heap.size = bt at *
  have f8 := (H8.out.at_ 0 rfl).fz 8
  have r8 := (cell_of_block (H8.out.at_ 0 rfl) 8).trans (show (seenC s1)[8]? = some (.int .i64 s1.a) from rfl)
  go_upto_region 8 with fail
  generalize hw9 : w8.setCell _ _ = w9
  have H9 := Lib.hid (H8.out.putA 0 rfl hw9)
  clear hw9 H8 f8 r8
  rw [HS2.out] at H9
  obtain ⟨c0, c1, c2, c3, c4, c5, c6, c7, c8, c9, c10, c11, c12, c13⟩ := (H9.out.at_ 0 rfl).seen
  go_upto_region 9 with (go_at_call 11; refine (CR2 _ (pages_keep HT.out H9.out.below (Nat.le_refl _))).mono ?_; rintro e w10 ⟨rfl, hb⟩; have H10 := Lib.hid (H9.out.quiet hb); clear hb H9 c0 c1 c2 c3 c4 c5 c6 c7 c8 c9 c10 c11 c12 c13)
  generalize hw11 : w10.alloc _ = w11
  have H11 := Lib.hid ((H10.out.new (b := w10.heap.size) rfl (lineC l') 34).world hw11)
  clear hw11 H10
  generalize w10.heap.size = bn at *
  have r8 := (cell_of_block (H11.out.at_ 3 rfl) 8).trans (show (seenC s1)[8]? = some (.int .i64 s1.a) from rfl)
  have ra := seen_word (H11.out.at_ 3 rfl) g0 g7
  rw [HXA.out] at ra
  cases p
  · go_wp2
    go_ret
    exact ⟨rfl, H11.out.below⟩
  · cases b5
    · go_wp2
      go_ret
      exact ⟨rfl, H11.out.below⟩
    · have he : l' = l := by first | exact HME.out rfl rfl | exact HME.out trivial trivial | exact HME.out
      subst he
      obtain ⟨l0, l1, l2, l3, l4, l5⟩ := (H11.out.at_ 0 rfl).line6
      obtain ⟨m0, m1, m2, m3, m4, m5⟩ := (H11.out.at_ 2 rfl).line6
      go_wp2
      go_ret
      exact ⟨rfl, H11.out.below⟩
end Go.Proofs.YtmglikmphddicaaDoor
