/- Contracts of package mem: of a memory that is nil; of one whose blocks lie from B on; awake. -/
import Derived.Test.YtlpjbmlkpmhdlaaDoorMd
namespace Go.Proofs.YtlpjbmlkpmhdlaaDoor
set_option linter.unusedVariables false
set_option linter.unusedSimpArgs false
open Go.ChangeShapes Go.WideShapes Go.ChangeAt Go.RowKit Go.Joins

theorem mpeek_nil (a : Int) (w : World) (ha : 0 ≤ a) : Calls Tryd.prog 24 #[.pointer none, .int .u64 a] w fun e w' => e = .returned (.tuple #[.int .u64 0, .int .i64 2]) ∧ w = w' := by
  go_enter Tryd.func24, Tryd.ntmps24
  go_wp2_with (go_at_call 57; refine (slotError_nil _ _ ha).mono ?_; rintro e w' ⟨rfl, rfl⟩)
  go_ret2
  exact ⟨rfl, rfl⟩

theorem mload_nil (a : Int) (w : World) (ha : 0 ≤ a) : Calls Tryd.prog 37 #[.pointer none, .int .u64 a] w fun e w' => e = .returned (.tuple #[.int .u64 0, .int .i64 2]) ∧ w = w' := by
  go_enter Tryd.func37, Tryd.ntmps37
  go_wp2_with (go_at_call 24; refine (mpeek_nil _ _ ha).mono ?_; rintro e w' ⟨rfl, rfl⟩)
  go_ret2
  exact ⟨rfl, rfl⟩

theorem mstore_nil (a x : Int) (w : World) (ha : 0 ≤ a) : Calls Tryd.prog 25 #[.pointer none, .int .u64 a, .int .u64 x] w fun e w' => e = .returned (.int .i64 2) ∧ w = w' := by
  go_enter Tryd.func25, Tryd.ntmps25
  go_wp2_with (go_at_call 57; refine (slotError_nil _ _ ha).mono ?_; rintro e w' ⟨rfl, rfl⟩)
  go_ret
  exact ⟨rfl, rfl⟩

theorem mbits_nil (w : World) : Calls Tryd.prog 39 #[.pointer none] w fun e w' => e = .returned (.int .i64 0) ∧ w = w' := by
  go_enter Tryd.func39, Tryd.ntmps39
  go_wp2
  go_ret
  exact ⟨rfl, rfl⟩

theorem mtrace_nil (w : World) : Calls Tryd.prog 29 #[.pointer none] w fun e w' => e = .returned (.slice none 0 0) ∧ w = w' := by
  go_enter Tryd.func29, Tryd.ntmps29
  go_wp2
  go_ret
  exact ⟨rfl, rfl⟩

theorem mcopy_nil (w : World) : Calls Tryd.prog 30 #[.pointer none] w fun e w' => e = .returned (.pointer none) ∧ w = w' := by
  go_enter Tryd.func30, Tryd.ntmps30
  go_wp2
  go_ret
  exact ⟨rfl, rfl⟩

section
variable {w : World} {B m : Nat} {M : Int} {f : Int → Int} {tr : List Int} {n : Nat}

theorem Mem.base (h : Mem w (From B) m M f tr n) : B ≤ w.heap.size := by
  obtain ⟨mb, v, D, h, hF⟩ := h
  have h1 : B ≤ m := hF m (Or.inl rfl)
  have h2 := h.own_lt (i := m) (Or.inl rfl)
  omega
theorem Mem.since {w' : World} (h : Mem w (From B) m M f tr n) {f' : Int → Int} {tr' : List Int} {n' : Nat} (h' : Mem w' (Since (From B) w) m M f' tr' n') : Mem w' (From B) m M f' tr' n' :=
  h'.mono (fun i hi => by rcases hi with hi | hi; exact hi; exact Nat.le_trans h.base hi)
theorem Mem.belowOf {w' : World} (h : Mem w (From B) m M f tr n) (ht : Turn (From B) w w') : Below B w w' := ht.below (fun _ hi => hi) h.base

theorem bstore (h : Mem w (From B) m M f tr n) (hn : n < 1000000) (a x : Int) (ha : W64 a) (hx : W64 x) :
    Calls Tryd.prog 25 #[.pointer (some ⟨m, 0, none⟩), .int .u64 a, .int .u64 x] w fun e w' => e = .returned (.int .i64 (errS M a)) ∧ Mem w' (From B) m M (storeS M f a x) tr (n + 1) ∧ Below B w w' :=
  (mstore_any h hn a x ha hx).mono fun _ _ ⟨e, k, t⟩ => ⟨e, h.since k, h.belowOf t⟩
theorem bload (h : Mem w (From B) m M f tr n) (hn : n < 1000000) (a : Int) (ha : W64 a) :
    Calls Tryd.prog 37 #[.pointer (some ⟨m, 0, none⟩), .int .u64 a] w fun e w' => e = .returned (.tuple #[.int .u64 (peekV M f a), .int .i64 (errS M a)]) ∧ Mem w' (From B) m M f (loadT M tr a) (n + 1) ∧ Below B w w' :=
  (mload_any h hn a ha).mono fun _ _ ⟨e, k, t⟩ => ⟨e, h.since k, h.belowOf t⟩
end

theorem awm4 : errS 16 8 = 0 ∧ getE 16 8 = 0 ∧ getE 16 9 = 0 ∧ getV 16 (storeS 16 (fun _ => 0) 8 258) 8 = 2 ∧ getV 16 (storeS 16 (fun _ => 0) 8 258) 9 = 1 ∧ peekV 16 (storeS 16 (fun _ => 0) 8 258) 8 = 258 ∧ loadT 16 [] 8 = [8] := by decide +kernel

theorem w8 : W64 8 := ⟨by decide, by decide⟩
theorem w9 : W64 9 := ⟨by decide, by decide⟩
theorem w258 : W64 258 := ⟨by decide, by decide⟩

/-- a slice of the call's own has just so many -/
theorem own_len {w : World} {base : Nat} {v : Value} {xs : List Int} (h : w.ownsRow base 23 1 v xs.length (xs.map (Value.int .u64))) : ∃ A c, v = .slice A xs.length c := by
  rcases h.2 with ⟨rfl, hn⟩ | ⟨g, cap, cur, rfl, _⟩
  · exact ⟨none, 0, by rw [hn]⟩
  · exact ⟨_, _, rfl⟩

end Go.Proofs.YtlpjbmlkpmhdlaaDoor
