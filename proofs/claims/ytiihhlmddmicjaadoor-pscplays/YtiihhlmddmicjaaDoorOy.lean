/- Layer 11: a deed, a slice of deeds, as arguments; a path inside of a struct, by the form's own reach. -/
import Derived.Test.YtiihhlmddmicjaaDoorGJmJnJu
import Derived.Test.YtiihhlmddmicjaaDoorGL11pOqOp
import Derived.Test.YtiihhlmddmicjaaDoorGVaVrFr
import Derived.Deep.Slices
import Derived.Deep.Strs
import Derived.Deep.FieldsWide
import Derived.ProofKit
import Derived.OpenShut
import Derived.ChangeArms
namespace Go.Proofs.YtiihhlmddmicjaaDoor
set_option linter.unusedVariables false
set_option linter.unusedSimpArgs false
open Go.ChangeShapes Go.WideShapes Go.ChangeAt Go.RowKit Go.Joins

theorem list19 {α : Type} {zs : List α} (h : zs.length = 19) : ∃ c0 c1 c2 c3 c4 c5 c6 c7 c8 c9 c10 c11 c12 c13 c14 c15 c16 c17 c18, zs = [c0, c1, c2, c3, c4, c5, c6, c7, c8, c9, c10, c11, c12, c13, c14, c15, c16, c17, c18] := by
  match zs, h with
  | [c0, c1, c2, c3, c4, c5, c6, c7, c8, c9, c10, c11, c12, c13, c14, c15, c16, c17, c18], _ => exact ⟨c0, c1, c2, c3, c4, c5, c6, c7, c8, c9, c10, c11, c12, c13, c14, c15, c16, c17, c18, rfl⟩
theorem cy_place : Tryd.prog.cellsOf 41 = 5 := by kernel_rfl
theorem cy_picks : Tryd.prog.cellsOf 42 = 3 := by kernel_rfl
theorem cy_deed : Tryd.prog.cellsOf 44 = 19 := by kernel_rfl

theorem weights_all {H : Type} {P : Program} {e : TypeId} {d : DataW H} {m : Nat} : {ds : List (DataW H)} → d ∈ ds → m ∈ d.weights P e → m ∈ DataW.weightsAll P e ds
  | [], h, _ => by cases h
  | x :: xs, h, hm => by
    simp only [DataW.weightsAll, List.mem_append]
    rcases List.mem_cons.1 h with rfl | h
    · exact Or.inl hm
    · exact Or.inr (weights_all h hm)

section
variable {H : Type} {enc : TypeId × Value → H} {w : World} {base : Nat} {spare : Nat → Bool} {held : Bool}

theorem rgtY_of {fuel : Nat} {c0 c1 c2 : Value} {x : DataW H × List MemPlace} (hf : DataW.trod enc Tryd.prog w base spare held fuel 37 [c0, c1, c2] = some x) :
    ∃ a b c : Bool, c0 = .bool a ∧ c1 = .bool b ∧ c2 = .bool c := by
  obtain ⟨xs, m, _, _, hl, hxl, hel⟩ := DataW.trod_struct Tryd.underlying37 hf
  obtain ⟨y0, y1, y2, rfl⟩ := list3p (zs := xs) (by simpa using hxl)
  have e0 := hel 0 _ rfl
  have e1 := hel 1 _ rfl
  have e2 := hel 2 _ rfl
  simp [cp_bool] at e0 e1 e2
  obtain ⟨a, h0, _⟩ := DataW.trod_bool Tryd.underlying4 e0
  obtain ⟨b, h1, _⟩ := DataW.trod_bool Tryd.underlying4 e1
  obtain ⟨c, h2, _⟩ := DataW.trod_bool Tryd.underlying4 e2
  simp at h0 h1 h2
  exact ⟨a, b, c, h0, h1, h2⟩
theorem placeY_of {fuel : Nat} {c0 c1 c2 c3 c4 : Value} {x : DataW H × List MemPlace} (hf : DataW.trod enc Tryd.prog w base spare held fuel 41 [c0, c1, c2, c3, c4] = some x) :
    ∃ (l t : Int) (a b c : Bool), c0 = .int .i64 l ∧ c1 = .int .u64 t ∧ c2 = .bool a ∧ c3 = .bool b ∧ c4 = .bool c := by
  obtain ⟨xs, m, _, _, hl, hxl, hel⟩ := DataW.trod_struct Tryd.underlying41 hf
  obtain ⟨y0, y1, y2, rfl⟩ := list3p (zs := xs) (by simpa using hxl)
  have e0 := hel 0 _ rfl
  have e1 := hel 1 _ rfl
  have e2 := hel 2 _ rfl
  simp [cp_int, cp_u64, cp_right] at e0 e1 e2
  obtain ⟨l, h0, _, _⟩ := DataW.trod_int Tryd.underlying3 e0
  obtain ⟨t, h1, _, _⟩ := DataW.trod_int Tryd.underlying34 e1
  obtain ⟨a, b, c, h2, h3, h4⟩ := rgtY_of e2
  simp at h0 h1
  exact ⟨l, t, a, b, c, h0, h1, h2, h3, h4⟩
theorem picksY_of {fuel : Nat} {c0 c1 c2 : Value} {x : DataW H × List MemPlace} (hf : DataW.trod enc Tryd.prog w base spare held fuel 42 [c0, c1, c2] = some x) :
    ∃ a b c : Int, c0 = .int .i64 a ∧ c1 = .int .i64 b ∧ c2 = .int .i64 c ∧ I64 a ∧ I64 b ∧ I64 c := by
  obtain ⟨xs, m, _, _, hl, hxl, hel⟩ := DataW.trod_array Tryd.underlying42 hf
  obtain ⟨y0, y1, y2, rfl⟩ := list3p (zs := xs) (by simpa using hxl)
  have e0 := hel 0 (by decide)
  have e1 := hel 1 (by decide)
  have e2 := hel 2 (by decide)
  simp [cp_int] at e0 e1 e2
  obtain ⟨a, h0, _, w0⟩ := DataW.trod_int Tryd.underlying3 e0
  obtain ⟨b, h1, _, w1⟩ := DataW.trod_int Tryd.underlying3 e1
  obtain ⟨c, h2, _, w2⟩ := DataW.trod_int Tryd.underlying3 e2
  simp at h0 h1 h2
  exact ⟨a, b, c, h0, h1, h2, i64_of w0, i64_of w1, i64_of w2⟩
theorem pathY_of {fuel : Nat} {c0 c1 c2 c3 c4 c5 c6 : Value} {x : DataW H × List MemPlace} (hf : DataW.trod enc Tryd.prog w base spare held fuel 39 [c0, c1, c2, c3, c4, c5, c6] = some x) :
    ∃ (A : Option Addr) (T : List Stp) (c : Nat) (why : Int) (a b d : Bool) (l f : Int), c0 = .slice A T.length c ∧ c1 = .int .i64 why ∧ c2 = .bool a ∧ c3 = .bool b ∧ c4 = .bool d ∧ c5 = .int .i64 l ∧ c6 = .int .u64 f ∧
      StepsIn w (.slice A T.length c) T ∧ (∀ k, k < T.length → W64 (stepAt T k).2.2) ∧ ((∀ m ∈ x.1.weights Tryd.prog 39, m ≤ reachBytes) → T.length * 24 ≤ 140737488351232) := by
  obtain ⟨xs, m, _, hx, hl, hxl, hel⟩ := DataW.trod_struct Tryd.underlying39 hf
  obtain ⟨y0, y1, y2, y3, y4, rfl⟩ := list5p (zs := xs) (by simpa using hxl)
  have e0 := hel 0 _ rfl
  have e1 := hel 1 _ rfl
  have e2 := hel 2 _ rfl
  have e3 := hel 3 _ rfl
  have e4 := hel 4 _ rfl
  simp [cp_int, cp_u64, cp_steps, cp_right] at e0 e1 e2 e3 e4
  obtain ⟨A, S, c, h0, hS, hW, hZ⟩ := open_steps e0
  obtain ⟨k1, h1, _, w1⟩ := DataW.trod_int Tryd.underlying3 e1
  obtain ⟨k3, h3, _, w3⟩ := DataW.trod_int Tryd.underlying3 e3
  obtain ⟨k4, h4, _, w4⟩ := DataW.trod_int Tryd.underlying34 e4
  obtain ⟨a, b, d, g0, g1, g2⟩ := rgtY_of e2
  simp at h0 h1 h3 h4
  refine ⟨A, S, c, k1, a, b, d, k3, k4, h0, h1, g0, g1, g2, h3, h4, hS, hW, fun hh => hZ (fun z hz => hh z ?_)⟩
  rw [hx]
  simp only [DataW.weights, Tryd.underlying39, List.map_cons, List.map_nil, DataW.weightsEach, List.mem_append]
  exact Or.inl hz

set_option maxRecDepth 100000 in
theorem deedY_of {fuel : Nat} {cs : List Value} {x : DataW H × List MemPlace} (hf : DataW.trod enc Tryd.prog w base spare held fuel 44 cs = some x) :
    ∃ y : De, cs = [.int .i64 y.kd, .int .i64 y.p, .int .i64 y.lv, .int .u64 y.a, .slice y.A y.n y.c, .int .i64 y.why, .bool y.W1, .bool y.U1, .bool y.X1, .int .i64 y.lw, .int .u64 y.fr, .int .i64 y.lev, .int .u64 y.t, .bool y.W, .bool y.U, .bool y.X, .int .i64 y.k0, .int .i64 y.k1, .int .i64 y.k2] ∧
      ((∀ m ∈ x.1.weights Tryd.prog 44, m ≤ reachBytes) → DeOk w y) := by
  obtain ⟨xs, m, _, hx, hl, hxl, hel⟩ := DataW.trod_struct Tryd.underlying44 hf
  obtain ⟨y0, y1, y2, y3, y4, y5, y6, rfl⟩ := list7p (zs := xs) (by simpa using hxl)
  rw [cy_deed] at hl
  obtain ⟨c0, c1, c2, c3, c4, c5, c6, c7, c8, c9, c10, c11, c12, c13, c14, c15, c16, c17, c18, rfl⟩ := list19 hl
  have e0 := hel 0 _ rfl
  have e1 := hel 1 _ rfl
  have e2 := hel 2 _ rfl
  have e3 := hel 3 _ rfl
  have e4 := hel 4 _ rfl
  have e5 := hel 5 _ rfl
  have e6 := hel 6 _ rfl
  simp [cp_int, cp_u64, cp_path, cy_place, cy_picks] at e0 e1 e2 e3 e4 e5 e6
  obtain ⟨kd, h0, _, _⟩ := DataW.trod_int Tryd.underlying3 e0
  obtain ⟨p, h1, _, w1⟩ := DataW.trod_int Tryd.underlying3 e1
  obtain ⟨lv, h2, _, _⟩ := DataW.trod_int Tryd.underlying3 e2
  obtain ⟨a, h3, _, w3⟩ := DataW.trod_int Tryd.underlying34 e3
  obtain ⟨A, T, c, why, W1, U1, X1, lw, fr, h4, h5, h6, h7, h8, h9, h10, hS, hW, hZ⟩ := pathY_of e4
  obtain ⟨lev, t, W, U, X, h11, h12, h13, h14, h15⟩ := placeY_of e5
  obtain ⟨k0, k1, k2, h16, h17, h18, b0, b1, b2⟩ := picksY_of e6
  simp at h0 h1 h2 h3
  subst h0 h1 h2 h3 h4 h5 h6 h7 h8 h9 h10 h11 h12 h13 h14 h15 h16 h17 h18
  refine ⟨⟨kd, p, lv, a, A, T.length, c, T, why, W1, U1, X1, lw, fr, lev, t, W, U, X, k0, k1, k2⟩, rfl, fun hh => ⟨i64_of w1, w64_of w3, rfl, Nat.le_trans (hZ (fun z hz => hh z ?_)) (by decide), hS, hW, b0, b1, b2⟩⟩
  rw [hx]
  simp only [DataW.weights, Tryd.underlying44, List.map_cons, List.map_nil, DataW.weightsEach, List.mem_append]
  exact Or.inr (Or.inr (Or.inr (Or.inr (Or.inl hz))))

set_option maxRecDepth 100000 in
theorem open_des {r : Reach} {b0 : Nat} {v : Value} {d : DataW H} {p : List MemPlace} (hv : Value.okWide Tryd.prog w r b0 22 v) (h : DataW.Trod enc Tryd.prog w base spare held 22 v d p) :
    ∃ A ds c, v = .slice A ds.length c ∧ ds.length ≤ maxLen ∧ DesIn w A ds ∧ ((∀ m ∈ d.weights Tryd.prog 22, m ≤ reachBytes) → DesOk w ds) := by
  obtain ⟨a, len, cap, rfl⟩ := okWide_slice Tryd.underlying22 hv
  obtain ⟨fuel, hf⟩ := h
  rcases Deep.open_slice Tryd.underlying22 hf with ⟨hcs, _⟩ | ⟨ad, len', cap', m, n, D, Pl, hcs, _, hl, hm, hmm, hx, hel⟩
  · have e : Value.slice a len cap = .slice none 0 0 := by simpa [Value.cells] using hcs
    rw [e]
    exact ⟨none, [], 0, rfl, by simp [maxLen], fun k hk => absurd hk (by simp), fun _ k hk => absurd hk (by simp)⟩
  · have e : Value.slice a len cap = .slice (some ad) len' cap' := by simpa [Value.cells] using hcs
    rw [e]
    rw [cy_deed] at hel
    have hle : len' ≤ m := by rw [hmm]; split <;> omega
    have hI : Inhabited De := ⟨zDe⟩
    obtain ⟨g, hg⟩ := Deep.choose_lt (α := De) (n := len') (p := fun k y => DeIs w (ad.add (k * 19)) y ∧ ((∀ m ∈ (D k).weights Tryd.prog 44, m ≤ reachBytes) → DeOk w y)) (fun k hk => by
      obtain ⟨cs', h1, h2⟩ := hel k (by omega)
      obtain ⟨y, rfl, w1⟩ := deedY_of h2
      obtain ⟨_, _, hc⟩ := World.cells?_some h1
      exact ⟨y, ⟨by simpa [Addr.add] using hc 0 (by omega), hc 1 (by omega), hc 2 (by omega), hc 3 (by omega), hc 4 (by omega), hc 5 (by omega), hc 6 (by omega), hc 7 (by omega), hc 8 (by omega), hc 9 (by omega), hc 10 (by omega), hc 11 (by omega), hc 12 (by omega), hc 13 (by omega), hc 14 (by omega), hc 15 (by omega), hc 16 (by omega), hc 17 (by omega), hc 18 (by omega)⟩, w1⟩)
    have hget : ∀ k, k < len' → ((List.range len').map g).getD k zDe = g k := fun k hk => by simp [List.getD, hk]
    refine ⟨some ad, (List.range len').map g, cap', by simp, by simp; omega, fun k hk => ⟨ad, rfl, ?_⟩, fun hw k hk => ?_⟩
    · have hk' : k < len' := by simpa using hk
      rw [hget k hk']; exact (hg k hk').1
    · have hk' : k < len' := by simpa using hk
      rw [hget k hk']
      refine (hg k hk').2 (fun z hz => hw z ?_)
      have ed : d = _ := congrArg Prod.fst hx
      rw [ed]
      simp only [DataW.weights, Tryd.underlying22, List.mem_cons, List.mem_append]
      exact Or.inr (Or.inl (weights_all (List.mem_map.2 ⟨k, List.mem_range.2 hk', rfl⟩) hz))
end
end Go.Proofs.YtiihhlmddmicjaaDoor
