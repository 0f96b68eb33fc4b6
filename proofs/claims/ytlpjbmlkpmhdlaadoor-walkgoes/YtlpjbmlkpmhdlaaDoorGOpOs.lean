/- Several texts of ours in one: Op, Os. -/
import Derived.Test.YtlpjbmlkpmhdlaaDoorGL8sHsIb
import Derived.Test.YtlpjbmlkpmhdlaaDoorGL8tL8gOq
import Derived.Test.YtlpjbmlkpmhdlaaDoorGVmRN
import Derived.SizedLaws
/- A path, by value, as an argument: its steps lie in a slice of any length. -/
namespace Go.Proofs.YtlpjbmlkpmhdlaaDoor
set_option linter.unusedVariables false
set_option linter.unusedSimpArgs false
open Go.ChangeShapes Go.WideShapes Go.ChangeAt Go.RowKit Go.Joins

theorem list5p {α : Type} {zs : List α} (h : zs.length = 5) : ∃ a b c d e, zs = [a, b, c, d, e] := by
  match zs, h with
  | [a, b, c, d, e], _ => exact ⟨a, b, c, d, e, rfl⟩
theorem list7p {α : Type} {zs : List α} (h : zs.length = 7) : ∃ a b c d e f g, zs = [a, b, c, d, e, f, g] := by
  match zs, h with
  | [a, b, c, d, e, f, g], _ => exact ⟨a, b, c, d, e, f, g, rfl⟩
theorem list3p {α : Type} {zs : List α} (h : zs.length = 3) : ∃ a b c, zs = [a, b, c] := by
  match zs, h with
  | [a, b, c], _ => exact ⟨a, b, c, rfl⟩

section
variable {H : Type} {enc : TypeId × Value → H} {w : World} {base : Nat} {spare : Nat → Bool} {held : Bool}

theorem cp_step : Tryd.prog.cellsOf 77 = 3 := by kernel_rfl
theorem cp_bool : Tryd.prog.cellsOf 4 = 1 := by kernel_rfl
theorem cp_int : Tryd.prog.cellsOf 3 = 1 := by kernel_rfl
theorem cp_u64 : Tryd.prog.cellsOf 23 = 1 := by kernel_rfl
theorem cp_steps : Tryd.prog.cellsOf 36 = 1 := by kernel_rfl
theorem cp_right : Tryd.prog.cellsOf 25 = 3 := by kernel_rfl
theorem cp_path : Tryd.prog.cellsOf 38 = 7 := by kernel_rfl
theorem by_step : Tryd.prog.bytesOf 77 = 24 := by kernel_rfl

set_option maxRecDepth 100000 in
theorem open_step {n : Nat} {cs : List Value} {x : DataW H × List MemPlace} (h : DataW.trod enc Tryd.prog w base spare held n 77 cs = some x) :
    ∃ y : Int × Int × Int, cs = [.int .i64 y.1, .int .u64 y.2.1, .int .u64 y.2.2] ∧ W64 y.2.2 := by
  obtain ⟨xs, m, _, _, hl, hxl, hel⟩ := DataW.trod_struct Tryd.underlying77 h
  rw [cp_step] at hl
  obtain ⟨a, b, c, rfl⟩ := list3p hl
  obtain ⟨y0, y1, y2, rfl⟩ := list3p (zs := xs) (by simpa using hxl)
  have e0 := hel 0 _ rfl
  have e1 := hel 1 _ rfl
  have e2 := hel 2 _ rfl
  simp [cp_int, cp_u64] at e0 e1 e2
  obtain ⟨k, h0, _, w0⟩ := DataW.trod_int Tryd.underlying3 e0
  obtain ⟨p, h1, _, w1⟩ := DataW.trod_int Tryd.underlying23 e1
  obtain ⟨q, h2, _, w2⟩ := DataW.trod_int Tryd.underlying23 e2
  simp at h0 h1 h2
  subst h0 h1 h2
  exact ⟨(k, p, q), rfl, w64_of w2⟩

set_option maxRecDepth 100000 in
theorem open_steps {n : Nat} {cs : List Value} {x : DataW H × List MemPlace} (h : DataW.trod enc Tryd.prog w base spare held n 36 cs = some x) :
    ∃ A S c, cs = [.slice A S.length c] ∧ StepsIn w (.slice A S.length c) S ∧ (∀ k, k < S.length → W64 (stepAt S k).2.2) ∧ ((∀ m ∈ x.1.weights Tryd.prog 36, m ≤ reachBytes) → S.length * 24 ≤ 140737488351232) := by
  rcases Deep.open_slice Tryd.underlying36 h with ⟨hcs, _⟩ | ⟨ad, len', cap', m, n, D, Pl, hcs, _, hl, hm, hmm, hx, hel⟩
  · exact ⟨none, [], 0, hcs, ⟨none, 0, rfl, fun k hk => absurd hk (by simp)⟩, fun k hk => absurd hk (by simp), fun _ => by simp⟩
  · rw [cp_step] at hel
    have hle : len' ≤ m := by rw [hmm]; split <;> omega
    obtain ⟨g, hg⟩ := Deep.choose_lt (α := Int × Int × Int) (n := len') (p := fun k y => (w.cell? (ad.add (k * 3)) = some (.int .i64 y.1) ∧ w.cell? ((ad.add (k * 3)).add 1) = some (.int .u64 y.2.1) ∧ w.cell? ((ad.add (k * 3)).add 2) = some (.int .u64 y.2.2)) ∧ W64 y.2.2) (fun k hk => by
      obtain ⟨cs', h1, h2⟩ := hel k (by omega)
      obtain ⟨y, rfl, w1⟩ := open_step h2
      obtain ⟨_, _, hc⟩ := World.cells?_some h1
      exact ⟨y, ⟨by simpa [Addr.add] using hc 0 (by omega), hc 1 (by omega), hc 2 (by omega)⟩, w1⟩)
    have hget : ∀ k, k < len' → ((List.range len').map g).getD k (0, 0, 0) = g k := fun k hk => by simp [List.getD, hk]
    refine ⟨some ad, (List.range len').map g, cap', by simpa using hcs, ⟨some ad, cap', by simp, fun k hk => ⟨ad, rfl, ?_⟩⟩, fun k hk => ?_, fun hw => ?_⟩
    · have hk' : k < len' := by simpa using hk
      rw [hget k hk']; exact (hg k hk').1
    · have hk' : k < len' := by simpa using hk
      show W64 (((List.range len').map g).getD k (0, 0, 0)).2.2
      rw [hget k hk']; exact (hg k hk').2
    · have := hw (((List.range len').length + (List.range (m - len')).length) * 24) (by rw [hx]; simp [DataW.weights, Tryd.underlying36, by_step])
      simp [reachBytes] at this ⊢
      omega

set_option maxRecDepth 100000 in
theorem open_path {r : Reach} {b0 : Nat} {v : Value} {d : DataW H} {p : List MemPlace} (hv : Value.okWide Tryd.prog w r b0 38 v) (h : DataW.Trod enc Tryd.prog w base spare held 38 v d p) :
    ∃ (P : Pth) (A : Option Addr) (c : Nat), v = pathV (.slice A P.steps.length c) P.why P.W P.U P.X P.lev P.fr ∧ StepsIn w (.slice A P.steps.length c) P.steps ∧ (∀ k, k < P.steps.length → W64 (stepAt P.steps k).2.2) ∧ ((∀ m ∈ d.weights Tryd.prog 38, m ≤ reachBytes) → P.steps.length * 24 ≤ 140737488351232) := by
  obtain ⟨cs, rfl, hsz, _⟩ : ∃ cs, v = .agg cs ∧ cs.size = Tryd.prog.cellsOf 38 ∧ Row.okWide Tryd.prog w r b0 38 cs := by
    simpa [Value.okWide, Tryd.underlying38] using hv
  obtain ⟨fuel, hf⟩ := h
  obtain ⟨xs, m, _, hx, hl, hxl, hel⟩ := DataW.trod_struct Tryd.underlying38 hf
  obtain ⟨cs⟩ := cs
  obtain ⟨c0, c1, c2, c3, c4, c5, c6, rfl⟩ := list7p (zs := cs) (by simpa using hsz.trans cp_path)
  obtain ⟨y0, y1, y2, y3, y4, rfl⟩ := list5p (zs := xs) (by simpa using hxl)
  have e0 := hel 0 _ rfl
  have e1 := hel 1 _ rfl
  have e2 := hel 2 _ rfl
  have e3 := hel 3 _ rfl
  have e4 := hel 4 _ rfl
  simp [Value.cells, cp_int, cp_u64, cp_steps, cp_right] at e0 e1 e2 e3 e4
  obtain ⟨A, S, c, h0, hS, hW, hZ⟩ := open_steps e0
  obtain ⟨k1, h1, _, w1⟩ := DataW.trod_int Tryd.underlying3 e1
  obtain ⟨k3, h3, _, w3⟩ := DataW.trod_int Tryd.underlying3 e3
  obtain ⟨k4, h4, _, w4⟩ := DataW.trod_int Tryd.underlying23 e4
  obtain ⟨zs, m2, _, _, hl2, hzl, hel2⟩ := DataW.trod_struct Tryd.underlying25 e2
  obtain ⟨z0, z1, z2, rfl⟩ := list3p (zs := zs) (by simpa using hzl)
  have f0 := hel2 0 _ rfl
  have f1 := hel2 1 _ rfl
  have f2 := hel2 2 _ rfl
  simp [cp_bool] at f0 f1 f2
  obtain ⟨b0, g0, _⟩ := DataW.trod_bool Tryd.underlying4 f0
  obtain ⟨b1, g1, _⟩ := DataW.trod_bool Tryd.underlying4 f1
  obtain ⟨b2, g2, _⟩ := DataW.trod_bool Tryd.underlying4 f2
  simp at h0 h1 h3 h4 g0 g1 g2
  subst h0 h1 h3 h4 g0 g1 g2
  refine ⟨⟨S, k1, b0, b1, b2, k3, k4⟩, A, c, rfl, hS, hW, fun hh => hZ (fun z hz => hh z ?_)⟩
  have ed : d = DataW.agg [y0.1, y1.1, y2.1, y3.1, y4.1] := by have := congrArg Prod.fst hx; simpa using this
  rw [ed]
  simp only [DataW.weights, Tryd.underlying38, List.map_cons, List.map_nil, DataW.weightsEach, List.mem_append]
  exact Or.inl hz
end

theorem weights_of {H : Type} {ts : List TypeId} {ds : List (DataW H)} (h : (DataW.weightsEach Tryd.prog ts ds).all (· ≤ reachBytes) = true) {j : Nat} {t : TypeId} {d : DataW H} (ht : ts[j]? = some t) (hd : ds[j]? = some d) : ∀ m ∈ d.weights Tryd.prog t, m ≤ reachBytes := fun m hm => by
  simpa using List.all_eq_true.1 h _ (DataW.weights_mem_each ht hd m hm)
end Go.Proofs.YtlpjbmlkpmhdlaaDoor
/- A start, by value, as an argument. -/
namespace Go.Proofs.YtlpjbmlkpmhdlaaDoor
set_option linter.unusedVariables false
set_option linter.unusedSimpArgs false
open Go.ChangeShapes Go.WideShapes Go.ChangeAt Go.RowKit Go.Joins

theorem list4s {α : Type} {zs : List α} (h : zs.length = 4) : ∃ a b c d, zs = [a, b, c, d] := by
  match zs, h with
  | [a, b, c, d], _ => exact ⟨a, b, c, d, rfl⟩
theorem list6s {α : Type} {zs : List α} (h : zs.length = 6) : ∃ a b c d e f, zs = [a, b, c, d, e, f] := by
  match zs, h with
  | [a, b, c, d, e, f], _ => exact ⟨a, b, c, d, e, f, rfl⟩

section
variable {H : Type} {enc : TypeId × Value → H} {w : World} {base : Nat} {spare : Nat → Bool} {held : Bool}
theorem cp_start : Tryd.prog.cellsOf 27 = 6 := by kernel_rfl

set_option maxRecDepth 100000 in
theorem open_start {r : Reach} {b0 : Nat} {v : Value} {d : DataW H} {p : List MemPlace} (hv : Value.okWide Tryd.prog w r b0 27 v) (h : DataW.Trod enc Tryd.prog w base spare held 27 v d p) :
    ∃ (lev t : Int) (W U X nxe : Bool), v = .agg #[.int .i64 lev, .int .u64 t, .bool W, .bool U, .bool X, .bool nxe] ∧ W64 t := by
  obtain ⟨cs, rfl, hsz, _⟩ : ∃ cs, v = .agg cs ∧ cs.size = Tryd.prog.cellsOf 27 ∧ Row.okWide Tryd.prog w r b0 27 cs := by
    simpa [Value.okWide, Tryd.underlying27] using hv
  obtain ⟨fuel, hf⟩ := h
  obtain ⟨xs, m, _, hx, hl, hxl, hel⟩ := DataW.trod_struct Tryd.underlying27 hf
  obtain ⟨cs⟩ := cs
  obtain ⟨c0, c1, c2, c3, c4, c5, rfl⟩ := list6s (zs := cs) (by simpa using hsz.trans cp_start)
  obtain ⟨y0, y1, y2, y3, rfl⟩ := list4s (zs := xs) (by simpa using hxl)
  have e0 := hel 0 _ rfl
  have e1 := hel 1 _ rfl
  have e2 := hel 2 _ rfl
  have e3 := hel 3 _ rfl
  simp [Value.cells, cp_int, cp_u64, cp_right, cp_bool] at e0 e1 e2 e3
  obtain ⟨k0, h0, _, w0⟩ := DataW.trod_int Tryd.underlying3 e0
  obtain ⟨k1, h1, _, w1⟩ := DataW.trod_int Tryd.underlying23 e1
  obtain ⟨b3, h3, _⟩ := DataW.trod_bool Tryd.underlying4 e3
  obtain ⟨zs, m2, _, _, hl2, hzl, hel2⟩ := DataW.trod_struct Tryd.underlying25 e2
  obtain ⟨z0, z1, z2, rfl⟩ := list3p (zs := zs) (by simpa using hzl)
  have f0 := hel2 0 _ rfl
  have f1 := hel2 1 _ rfl
  have f2 := hel2 2 _ rfl
  simp [cp_bool] at f0 f1 f2
  obtain ⟨b0, g0, _⟩ := DataW.trod_bool Tryd.underlying4 f0
  obtain ⟨b1, g1, _⟩ := DataW.trod_bool Tryd.underlying4 f1
  obtain ⟨b2, g2, _⟩ := DataW.trod_bool Tryd.underlying4 f2
  simp at h0 h1 h3 g0 g1 g2
  subst h0 h1 h3 g0 g1 g2
  exact ⟨k0, k1, b0, b1, b2, b3, rfl, w64_of w1⟩
end
end Go.Proofs.YtlpjbmlkpmhdlaaDoor
