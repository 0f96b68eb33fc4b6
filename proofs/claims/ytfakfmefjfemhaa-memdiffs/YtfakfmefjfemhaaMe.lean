/- Contracts of package mem: of a memory that is nil; of one whose blocks lie from B on; awake. -/
import Derived.Test.YtfakfmefjfemhaaMd
namespace Go.Proofs.Ytfakfmefjfemhaa
set_option linter.unusedVariables false
set_option linter.unusedSimpArgs false
open Go.ChangeShapes Go.WideShapes Go.ChangeAt Go.RowKit Go.Joins

theorem mget_nil (a : Int) (w : World) (ha : 0 ≤ a) : Calls Try.prog 20 #[.pointer none, .int .u64 a] w fun e w' => e = .returned (.tuple #[.int .u8 0, .int .i64 2]) ∧ w = w' := by
  go_enter Try.func20, Try.ntmps20
  go_wp2_with (go_at_call 37; refine (msize_nil _).mono ?_; rintro e w' ⟨rfl, rfl⟩)
  go_ret2
  exact ⟨rfl, rfl⟩

theorem mput_nil (a b : Int) (w : World) (ha : 0 ≤ a) : Calls Try.prog 22 #[.pointer none, .int .u64 a, .int .u8 b] w fun e w' => e = .returned (.int .i64 2) ∧ w = w' := by
  go_enter Try.func22, Try.ntmps22
  go_wp2_with (go_at_call 37; refine (msize_nil _).mono ?_; rintro e w' ⟨rfl, rfl⟩)
  go_ret
  exact ⟨rfl, rfl⟩

theorem mpeek_nil (a : Int) (w : World) (ha : 0 ≤ a) : Calls Try.prog 17 #[.pointer none, .int .u64 a] w fun e w' => e = .returned (.tuple #[.int .u64 0, .int .i64 2]) ∧ w = w' := by
  go_enter Try.func17, Try.ntmps17
  go_wp2_with (go_at_call 34; refine (slotError_nil _ _ ha).mono ?_; rintro e w' ⟨rfl, rfl⟩)
  go_ret2
  exact ⟨rfl, rfl⟩

theorem mload_nil (a : Int) (w : World) (ha : 0 ≤ a) : Calls Try.prog 19 #[.pointer none, .int .u64 a] w fun e w' => e = .returned (.tuple #[.int .u64 0, .int .i64 2]) ∧ w = w' := by
  go_enter Try.func19, Try.ntmps19
  go_wp2_with (go_at_call 17; refine (mpeek_nil _ _ ha).mono ?_; rintro e w' ⟨rfl, rfl⟩)
  go_ret2
  exact ⟨rfl, rfl⟩

theorem mstore_nil (a x : Int) (w : World) (ha : 0 ≤ a) : Calls Try.prog 18 #[.pointer none, .int .u64 a, .int .u64 x] w fun e w' => e = .returned (.int .i64 2) ∧ w = w' := by
  go_enter Try.func18, Try.ntmps18
  go_wp2_with (go_at_call 34; refine (slotError_nil _ _ ha).mono ?_; rintro e w' ⟨rfl, rfl⟩)
  go_ret
  exact ⟨rfl, rfl⟩

theorem mforget_nil (w : World) : Calls Try.prog 27 #[.pointer none] w fun e w' => e = .returned (.tuple #[]) ∧ w = w' := by
  go_enter Try.func27, Try.ntmps27
  go_wp2
  go_end0
  exact ⟨rfl, rfl⟩

theorem mbits_nil (w : World) : Calls Try.prog 15 #[.pointer none] w fun e w' => e = .returned (.int .i64 0) ∧ w = w' := by
  go_enter Try.func15, Try.ntmps15
  go_wp2
  go_ret
  exact ⟨rfl, rfl⟩

theorem mtrace_nil (w : World) : Calls Try.prog 14 #[.pointer none] w fun e w' => e = .returned (.slice none 0 0) ∧ w = w' := by
  go_enter Try.func14, Try.ntmps14
  go_wp2
  go_ret
  exact ⟨rfl, rfl⟩

theorem mcopy_nil (w : World) : Calls Try.prog 26 #[.pointer none] w fun e w' => e = .returned (.pointer none) ∧ w = w' := by
  go_enter Try.func26, Try.ntmps26
  go_wp2
  go_ret
  exact ⟨rfl, rfl⟩

section
variable {w : World} {B m : Nat} {M : Int} {f : Int → Int} {tr : List Int} {n : Nat}

theorem Mem.base (h : Mem w (From B) m M f tr n) : B ≤ w.heap.size := by
  obtain ⟨mb, v, D, h, hF⟩ := h
  have h1 : B ≤ m := hF m (Or.inl rfl)
  have h2 := h.own_lt (i := m) (Or.inl rfl)
  omega
theorem Mem.since {w' : World} (h : Mem w (From B) m M f tr n) {f' : Int → Int} {tr' : List Int} {n' : Nat} (h' : Mem w' (Since (From B) w) m M f' tr' n') : Mem w' (From B) m M f' tr' n' :=
  h'.mono (fun i hi => by rcases hi with hi | hi; exact hi; exact Nat.le_trans h.base hi)
theorem Mem.belowOf {w' : World} (h : Mem w (From B) m M f tr n) (ht : Turn (From B) w w') : Below B w w' := ht.below (fun _ hi => hi) h.base

theorem bput (h : Mem w (From B) m M f tr n) (hn : n < 1000000) (a b : Int) (ha : W64 a) (b0 : 0 ≤ b) (b1 : b < 256) :
    Calls Try.prog 22 #[.pointer (some ⟨m, 0, none⟩), .int .u64 a, .int .u8 b] w fun e w' => e = .returned (.int .i64 (getE M a)) ∧ Mem w' (From B) m M (putS M f a b) tr (n + 1) ∧ Below B w w' :=
  (mput_any h hn a b ha b0 b1).mono fun _ _ ⟨e, k, t⟩ => ⟨e, h.since k, h.belowOf t⟩
theorem bstore (h : Mem w (From B) m M f tr n) (hn : n < 1000000) (a x : Int) (ha : W64 a) (hx : W64 x) :
    Calls Try.prog 18 #[.pointer (some ⟨m, 0, none⟩), .int .u64 a, .int .u64 x] w fun e w' => e = .returned (.int .i64 (errS M a)) ∧ Mem w' (From B) m M (storeS M f a x) tr (n + 1) ∧ Below B w w' :=
  (mstore_any h hn a x ha hx).mono fun _ _ ⟨e, k, t⟩ => ⟨e, h.since k, h.belowOf t⟩
theorem bload (h : Mem w (From B) m M f tr n) (hn : n < 1000000) (a : Int) (ha : W64 a) :
    Calls Try.prog 19 #[.pointer (some ⟨m, 0, none⟩), .int .u64 a] w fun e w' => e = .returned (.tuple #[.int .u64 (peekV M f a), .int .i64 (errS M a)]) ∧ Mem w' (From B) m M f (loadT M tr a) (n + 1) ∧ Below B w w' :=
  (mload_any h hn a ha).mono fun _ _ ⟨e, k, t⟩ => ⟨e, h.since k, h.belowOf t⟩
theorem bforget (h : Mem w (From B) m M f tr n) :
    Calls Try.prog 27 #[.pointer (some ⟨m, 0, none⟩)] w fun e w' => e = .returned (.tuple #[]) ∧ Mem w' (From B) m M f [] n ∧ Below B w w' :=
  (mforget_any h).mono fun _ _ ⟨e, k, t⟩ => ⟨e, k, h.belowOf t⟩
end

theorem awm4 : errS 16 8 = 0 ∧ getE 16 8 = 0 ∧ getE 16 9 = 0 ∧ getV 16 (storeS 16 (fun _ => 0) 8 258) 8 = 2 ∧ getV 16 (storeS 16 (fun _ => 0) 8 258) 9 = 1 ∧ peekV 16 (storeS 16 (fun _ => 0) 8 258) 8 = 258 ∧ loadT 16 [] 8 = [8] := by decide +kernel

theorem w8 : W64 8 := ⟨by decide, by decide⟩
theorem w9 : W64 9 := ⟨by decide, by decide⟩
theorem w258 : W64 258 := ⟨by decide, by decide⟩

/-- a slice of the call's own has just so many -/
theorem own_len {w : World} {base : Nat} {v : Value} {xs : List Int} (h : w.ownsRow base 30 1 v xs.length (xs.map (Value.int .u64))) : ∃ A c, v = .slice A xs.length c := by
  rcases h.2 with ⟨rfl, hn⟩ | ⟨g, cap, cur, rfl, _⟩
  · exact ⟨none, 0, by rw [hn]⟩
  · exact ⟨_, _, rfl⟩

theorem awake4_any (w : World) :
    Calls Try.prog 9 #[] w fun e w' => e = .returned (.bool true) ∧ Below w.heap.size w w' := by
  obtain ⟨h1, h2, h3, h4, h5, h6, h7⟩ := awm4
  go_enter Try.func9, Try.ntmps9
  go_wp2_with (first | (go_at_call 10; refine (newMem_any 16 _ ⟨by decide, by decide⟩).mono ?_; rintro e w1 ⟨rfl, hM1, hB1⟩) | (go_at_call 18; refine (bstore hM1 (by decide) 8 258 w8 w258).mono ?_; rintro e w2 ⟨rfl, hM2, hB2⟩) | (go_at_call 20; refine (mget_any hM2 _ (by first | exact w8 | exact w9)).mono ?_; rintro e w' ⟨rfl, rfl⟩) | (go_at_call 19; refine (bload hM2 (by decide) 8 w8).mono ?_; rintro e w3 ⟨rfl, hM3, hB3⟩; rw [h7] at hM3) | (go_at_call 14; refine (mtrace_any hM3 (by decide)).mono ?_; rintro e w4 ⟨v4, rfl, hO4, hB4⟩; have hM4 := hM3.kept hB4; obtain ⟨A4, c4, rfl⟩ := own_len hO4) | (go_at_call 15; refine (mbits_any hM4).mono ?_; rintro e w' ⟨rfl, rfl⟩))
  go_ret
  exact ⟨rfl, ((hB1.trans hB2).trans hB3).trans (hB4.mono hM3.base)⟩

end Go.Proofs.Ytfakfmefjfemhaa
