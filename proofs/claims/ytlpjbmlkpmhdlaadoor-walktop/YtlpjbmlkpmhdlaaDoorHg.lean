/- awake of layer 8. -/
import Derived.Test.YtlpjbmlkpmhdlaaDoorHe
import Derived.Test.YtlpjbmlkpmhdlaaDoorHf
namespace Go.Proofs.YtlpjbmlkpmhdlaaDoor
set_option linter.unusedVariables false
set_option linter.unusedSimpArgs false
open Go.ChangeShapes Go.WideShapes Go.ChangeAt Go.RowKit Go.Joins

theorem aw8a : walkZ 16 (fun _ => 0) 0 true 4 (tableF 4096) true true true = ⟨[(4, 4096, 0)], 1, false, false, false, 0, 0⟩ := by kernel_rfl
theorem aw8b : walkZ 16 (putSt tinyP 4) 0 true 4 (tableF 0) true true true = ⟨[(4, 0, 4103), (3, 4096, 8199), (2, 8192, 12295), (1, 12288, 16391)], 0, true, true, true, 1, 16384⟩ := by kernel_rfl

theorem w4096 : W64 4096 := ⟨by decide, by decide⟩
theorem w0 : W64 0 := ⟨by decide, by decide⟩

theorem from_not0 {B : Nat} (h : 0 < B) : ¬ From B 0 := fun h' => by have : B ≤ 0 := h'; omega

theorem wk_below {w wr : World} {B m : Nat} {M : Int} {f : Int → Int} {tr : List Int} {n : Nat} {G : Nat → Prop} (h : Wk w wr (From B) m M f tr n G) (hB : B ≤ w.heap.size) : Below B w wr := h.turn.below (fun _ hi => hi) hB

theorem shifts_under {w w' : World} {B : Nat} (hs : Shifts w) (hb : Below B w w') (hB : 0 < B) : Shifts w' :=
  shifts_turn hs (Turn.of_below hb) (by omega)
theorem size_shifts {w : World} (hs : Shifts w) : 0 < w.heap.size := World.block_lt_of_cell? _ _ hs.1

theorem Wk.below {w wr w3 : World} {F G : Nat → Prop} {m : Nat} {M : Int} {f : Int → Int} {tr : List Int} {n B : Nat} (h : Wk w wr F m M f tr n G) (hb : Below B wr w3) (hB : wr.heap.size ≤ B) : Wk w w3 F m M f tr n G :=
  h.quiet (hb.mono hB)

set_option maxRecDepth 100000 in
set_option maxHeartbeats 3200000 in
theorem awake8_any (w : World) (hs : Shifts w) :
    Calls Tryd.prog 9 #[] w fun e w' => e = .returned (.bool true) ∧ Below w.heap.size w w' := by
  have HS := Lib.hid hs
  have hz := size_shifts hs
  clear hs
  go_enter Tryd.func9, Tryd.ntmps9
  go_upto_region 5 with (first | (go_at_call 32; refine (newMem_any 16 _ ⟨by decide, by decide⟩).mono ?_; rintro e w1 ⟨rfl, hM1, hB1⟩; have HM1 := Lib.hid hM1; have HB1 := Lib.hid hB1; clear hM1 hB1) | (go_at_call 19; refine (top_any 4096 _ w4096).mono ?_; rintro e w2 ⟨rfl, hB2⟩; have HM2 := Lib.hid (HM1.out.kept hB2); have HB2 := Lib.hid (HB1.out.trans (hB2.mono HB1.out.size)); have HS2 := Lib.hid (shifts_under HS.out HB2.out hz); clear hB2) | (go_at_call 12; refine (from_any HM2.out (by decide) (from_not0 hz) HS2.out 4 (tableF 4096) 0 true true true true (w64_table _) w0).mono ?_; rw [aw8a]; rintro e w3 ⟨v, G, rfl, hW3, hS3, hn3, hsh3⟩; obtain ⟨A, c, rfl⟩ := hS3.form; have HW3 := Lib.hid hW3; have HS3 := Lib.hid hS3; have HN3 := Lib.hid hn3; have HSh3 := Lib.hid hsh3; clear hW3 hS3 hn3 hsh3))
  generalize hw4 : w3.alloc _ = w4
  have HP4 : Hid (Blk w4 w3.heap.size #[.slice A 1 c, .int .i64 1, .bool false, .bool false, .bool false, .int .i64 0, .int .u64 0] 38) := Lib.hid (by rw [← hw4]; exact Blk.new _ _ _)
  have hk4 : Below w3.heap.size w3 w4 := by rw [← hw4]; exact below_alloc1 _ _
  have HB4 := Lib.hid ((HB2.out.trans (wk_below HW3.out HB2.out.size)).trans (hk4.mono (Nat.le_trans HB2.out.size HW3.out.turn.size)))
  have HW4 := Lib.hid (HW3.out.quiet hk4)
  have HS4 := Lib.hid (HS3.out.below hk4)
  have HSh4 := Lib.hid (shifts_under HSh3.out hk4 (size_shifts HSh3.out))
  clear hw4 hk4 HW3 HS3 HSh3 HM1 HM2 HS2 HB1 HB2
  go_upto_region 6 with (first | (go_at_call 33; refine (tiny_any _).mono ?_; rintro e w5 ⟨rfl, hT5, hB5⟩; have HT5 := Lib.hid hT5; have HB5 := Lib.hid hB5; clear hT5 hB5) | (go_at_call 10; refine (built_any _ _ 4 tinyP (by decide) HT5.out tiny_ok).mono ?_; rintro e w6 ⟨rfl, hM6, hB6⟩; have HM6 := Lib.hid hM6; have HB6 := Lib.hid hB6; clear hM6 hB6))
  have hz5 : 0 < w5.heap.size := Nat.lt_of_lt_of_le HP4.out.lt HB5.out.size |> Nat.lt_of_le_of_lt (Nat.zero_le _)
  have HK6 := Lib.hid (HB5.out.trans (HB6.out.mono HB5.out.size))
  have HW6 := Lib.hid (HW4.out.quiet HK6.out)
  have HS6 := Lib.hid (HS4.out.below HK6.out)
  have HP6 := Lib.hid (HP4.out.below HK6.out)
  have HSh6 := Lib.hid (shifts_under HSh4.out HK6.out (size_shifts HSh4.out))
  have HB6' := Lib.hid (HB4.out.trans (HK6.out.mono HB4.out.size))
  have HP4l : Hid (w3.heap.size < w4.heap.size) := Lib.hid HP4.out.lt
  have HB4l : Hid (w.heap.size ≤ w4.heap.size) := Lib.hid HB4.out.size
  have HS4l : Hid (∀ i, (Value.slice A 1 c).ownBlock = some i → i < w4.heap.size) := Lib.hid (fun i hi => (HS4.out.lt hi).2)
  have HG4 : Hid (∀ i, G i → i < w4.heap.size) := Lib.hid (fun i hi => (HW4.out.foot i hi).1)
  clear HW4 HS4 HP4 HSh4 HB4
  go_upto_region 7 with (first | (go_at_call 19; refine (top_any 0 _ w0).mono ?_; rintro e w7 ⟨rfl, hB7⟩; have HK7 := Lib.hid hB7; have HM7 := Lib.hid (HM6.out.kept hB7); have HSh7 := Lib.hid (shifts_under HSh6.out hB7 (size_shifts HSh6.out)); clear hB7) | (go_at_call 12; refine (from_any HM7.out (by decide) (from_not0 hz5) HSh7.out 4 (tableF 0) 0 true true true true (w64_table _) w0).mono ?_; rw [show mostP tinyP = 4 from rfl, aw8b]; rintro e w8 ⟨v, G8, rfl, hW8, hS8, hn8, hsh8⟩; obtain ⟨A8, c8, rfl⟩ := hS8.form; have HW8 := Lib.hid hW8; have HS8 := Lib.hid hS8; have HSh8 := Lib.hid hsh8; clear hW8 hS8 hn8 hsh8))
  generalize hw9 : w8.alloc _ = w9
  have HQ9 : Hid (Blk w9 w8.heap.size #[.slice A8 4 c8, .int .i64 0, .bool true, .bool true, .bool true, .int .i64 1, .int .u64 16384] 38) := Lib.hid (by rw [← hw9]; exact Blk.new _ _ _)
  have hk9 : Below w8.heap.size w8 w9 := by rw [← hw9]; exact below_alloc1 _ _
  have hk8 : Below w5.heap.size w7 w8 := wk_below HW8.out (Nat.le_trans HB6.out.size HK7.out.size)
  have hk79 : Below w4.heap.size w6 w9 := ((HK7.out.mono HK6.out.size).trans (hk8.mono HB5.out.size)).trans (hk9.mono (Nat.le_trans HK6.out.size (Nat.le_trans HK7.out.size HW8.out.turn.size)))
  have hl3 : w3.heap.size < w4.heap.size := HP4l.out
  have HT9 : Turn (From w4.heap.size) w6 w9 := Turn.of_below hk79
  have HP9 := Lib.hid (HP6.out.turn HT9 (fun h => by have : w4.heap.size ≤ w3.heap.size := h; omega))
  have HS9 := Lib.hid (HS6.out.turn HT9 (fun i hi h => by have h1 := HS4l.out i hi; have h2 : w4.heap.size ≤ i := h; omega))
  have HW9 := Lib.hid (HW6.out.other HT9 (fun i hl h hg => by have h1 := HG4.out i hg; have h2 : w4.heap.size ≤ i := h; omega) (fun i h => Or.inl (Nat.le_trans HB4l.out h)))
  have HB9 := Lib.hid (HB6'.out.trans (hk79.mono HB4l.out))
  clear hw9 hk9 hk8 hk79 HT9 HP6 HS6 HW6 HB6'
  obtain ⟨p0, p1, p2, p3, p4, p5, p6⟩ := HP9.out.seven
  obtain ⟨r0, r1, r2, r3, r4, r5, r6⟩ := HQ9.out.seven
  obtain ⟨A', c', hv, hc⟩ := HS9.out.into
  obtain ⟨ad, hA, d0, d1, d2⟩ := hc 0 (by decide)
  obtain ⟨rfl, _, rfl⟩ : A = A' ∧ True ∧ c = c' := by simpa using hv
  subst hA
  have e0 : w9.cell? ⟨ad.block, ad.off + 1, none⟩ = some (.int .u64 4096) := by simpa [Addr.add] using d1
  clear hv hc d0 d1 d2
  go_wp2_with (first | (go_at_call 29; refine (mtrace_any HW9.out.mem (by decide)).mono ?_; rintro e wa ⟨v', rfl, hO', hB'⟩; obtain ⟨A'', c'', rfl⟩ := own_len hO'; have HBa := Lib.hid hB'; have HQa := Lib.hid (HQ9.out.below hB'); clear hB' hO' p0 p1 p2 p3 p4 p5 p6 r0 r1 r2 r3 r4 r5 r6; obtain ⟨r0, r1, r2, r3, r4, r5, r6⟩ := HQa.out.seven))
  go_ret
  exact ⟨rfl, HB9.out.trans (HBa.out.mono HB9.out.size)⟩
end Go.Proofs.YtlpjbmlkpmhdlaaDoor
