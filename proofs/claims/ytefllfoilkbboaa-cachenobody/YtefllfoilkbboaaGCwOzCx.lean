/- Several texts of ours in one: Cw, Oz, Cx. -/
import Derived.Test.YtefllfoilkbboaaGCtCuCv
import Derived.Test.YtefllfoilkbboaaGEmVaFr
import Derived.Deep.Slices
import Derived.Deep.Strs
import Derived.Deep.FieldsWide
import Derived.ProofKit
import Derived.OpenShut
import Derived.ChangeArms
import Derived.Deep.CutRange
/- Layer 10: do, whatever the deed; deeds that came in; what deeds make of lines. -/
namespace Go.Proofs.Ytefllfoilkbboaa
set_option linter.unusedVariables false
set_option linter.unusedSimpArgs false
open Go.ChangeShapes Go.WideShapes Go.ChangeAt Go.RowKit Go.Joins

def doA (L M : List Pr) (kd : Int) (k : Ky) : Bool := if kd = 1 then true else if kd = 2 then true else if kd = 3 then true else if kd = 4 then true else if kd = 5 then true else ansK L M k
theorem do_any {w : World} {F : Nat → Prop} {c R : Nat} {L : List Pr} {v : Value} {M : List Pr} (h : Cac w F c R L) (hx : PairsOwn w 0 v M) (hoff : ∀ i, v.ownBlock = some i → ¬ F i) (hM : M.length ≤ 900) (S : Nat) (kd pk p q t f m : Int) (x1 x2 x3 x4 : Bool) (hk : OkK (p, q, t)) (hpk : I64 pk) :
    Calls Try.prog 12 #[.pointer (some ⟨c, 0, none⟩), .agg #[v, .int .i64 S], .agg #[.int .i64 kd, .int .i64 pk, .int .i64 p, .int .i64 q, .int .u64 t, .int .u64 f, .bool x1, .bool x2, .bool x3, .bool x4, .int .u8 m]] w fun e w' =>
      ∃ A d, e = .returned (.tuple #[.agg #[.slice A (doK S M kd pk (p, q, t) (f, x1, x2, x3, x4, m)).length d, .int .i64 S], .bool (doA L M kd (p, q, t))]) ∧ DoE w w' F c R (doK R L kd pk (p, q, t) (f, x1, x2, x3, x4, m)) (.slice A (doK S M kd pk (p, q, t) (f, x1, x2, x3, x4, m)).length d) (doK S M kd pk (p, q, t) (f, x1, x2, x3, x4, m)) := by
  unfold doK doA
  by_cases h1 : kd = 1
  · subst h1; exact do_put h hx hoff hM S pk p q t f m x1 x2 x3 x4 hk hpk
  rw [if_neg h1, if_neg h1, if_neg h1]
  by_cases h2 : kd = 2
  · subst h2; exact do_drop h hx hoff hM S pk p q t f m x1 x2 x3 x4
  rw [if_neg h2, if_neg h2, if_neg h2]
  by_cases h3 : kd = 3
  · subst h3; exact do_dropOf h hx hoff hM S pk p q t f m x1 x2 x3 x4
  rw [if_neg h3, if_neg h3, if_neg h3]
  by_cases h4 : kd = 4
  · subst h4; exact do_clear h hx hoff hM S pk p q t f m x1 x2 x3 x4
  rw [if_neg h4, if_neg h4, if_neg h4]
  by_cases h5 : kd = 5
  · subst h5; exact do_evict h hx hoff hM S pk p q t f m x1 x2 x3 x4 hpk
  rw [if_neg h5, if_neg h5, if_neg h5]
  exact do_get h hx hoff hM S kd pk p q t f m x1 x2 x3 x4 hk h1 h2 h3 h4 h5

/-- a deed: kind, pick, key, line -/
abbrev Dd := Int × Int × Ky × Ln
def zD : Dd := (0, 0, zK, zL)
/-- the cells of a deed at an address -/
structure DeedAt (w : World) (ad : Addr) (kd pk p q t f : Int) (x1 x2 x3 x4 : Bool) (m : Int) : Prop where
  c0 : w.cell? ad = some (.int .i64 kd)
  c1 : w.cell? ⟨ad.block, ad.off + 1, none⟩ = some (.int .i64 pk) ∧ w.cell? ⟨ad.block, ad.off + 2, none⟩ = some (.int .i64 p) ∧ w.cell? ⟨ad.block, ad.off + 3, none⟩ = some (.int .i64 q) ∧ w.cell? ⟨ad.block, ad.off + 4, none⟩ = some (.int .u64 t) ∧ w.cell? ⟨ad.block, ad.off + 5, none⟩ = some (.int .u64 f) ∧ w.cell? ⟨ad.block, ad.off + 6, none⟩ = some (.bool x1) ∧ w.cell? ⟨ad.block, ad.off + 7, none⟩ = some (.bool x2) ∧ w.cell? ⟨ad.block, ad.off + 8, none⟩ = some (.bool x3) ∧ w.cell? ⟨ad.block, ad.off + 9, none⟩ = some (.bool x4) ∧ w.cell? ⟨ad.block, ad.off + 10, none⟩ = some (.int .u8 m)
def DeedIs (w : World) (ad : Addr) (y : Dd) : Prop := DeedAt w ad y.1 y.2.1 y.2.2.1.1 y.2.2.1.2.1 y.2.2.1.2.2 y.2.2.2.1 y.2.2.2.2.1 y.2.2.2.2.2.1 y.2.2.2.2.2.2.1 y.2.2.2.2.2.2.2.1 y.2.2.2.2.2.2.2.2
def DeedsC (w : World) (A : Option Addr) (ds : List Dd) : Prop := ∀ k, k < ds.length → ∃ ad, A = some ad ∧ DeedIs w (ad.add (k * 11)) (ds.getD k zD)
def DeedsOkC (ds : List Dd) : Prop := ∀ k, k < ds.length → OkK (ds.getD k zD).2.2.1 ∧ I64 (ds.getD k zD).2.1
theorem DeedAt.below {w w' : World} {B : Nat} {ad : Addr} {kd pk p q t f m : Int} {x1 x2 x3 x4 : Bool} (h : DeedAt w ad kd pk p q t f x1 x2 x3 x4 m) (hb : Below B w w') (hB : w.heap.size ≤ B) : DeedAt w' ad kd pk p q t f x1 x2 x3 x4 m := by
  have l0 := World.block_lt_of_cell? _ _ h.c0
  have e : w'.heap[ad.block]? = w.heap[ad.block]? := hb.block ad.block (by omega)
  have c : ∀ o, w'.cell? ⟨ad.block, o, none⟩ = w.cell? ⟨ad.block, o, none⟩ := fun o => World.cell?_of_block (a := ⟨ad.block, o, none⟩) e
  exact ⟨(World.cell?_of_block (a := ad) e).trans h.c0, by simpa only [c] using h.c1⟩
theorem deedsC_at {w w' : World} {A : Option Addr} {ds : List Dd} (h : DeedsC w A ds) (hb : Below w.heap.size w w') {k : Nat} (hk : k < ds.length) {kd pk p q t f m : Int} {x1 x2 x3 x4 : Bool} (he : ds.getD k zD = (kd, pk, (p, q, t), (f, x1, x2, x3, x4, m))) :
    ∃ ad, A = some ad ∧ DeedAt w' (ad.add (k * 11)) kd pk p q t f x1 x2 x3 x4 m := by
  obtain ⟨ad, hA, hd⟩ := h k hk
  rw [he] at hd
  exact ⟨ad, hA, DeedAt.below hd hb (Nat.le_refl _)⟩

/-- the lines behind the first k deeds -/
def playC (R : Nat) (ds : List Dd) : Nat → List Pr
  | 0 => []
  | k + 1 => doK R (playC R ds k) (ds.getD k zD).1 (ds.getD k zD).2.1 (ds.getD k zD).2.2.1 (ds.getD k zD).2.2.2
theorem playC_len (R : Nat) (ds : List Dd) : ∀ k, (playC R ds k).length ≤ R
  | 0 => by simp [playC]
  | k + 1 => doK_len (playC_len R ds k) _ _ _ _
theorem playC_step {R : Nat} {ds : List Dd} {k : Nat} {kd pk p q t f m : Int} {x1 x2 x3 x4 : Bool} (he : ds.getD k zD = (kd, pk, (p, q, t), (f, x1, x2, x3, x4, m))) : doK R (playC R ds k) kd pk (p, q, t) (f, x1, x2, x3, x4, m) = playC R ds (k + 1) := by
  show _ = doK R (playC R ds k) _ _ _ _
  rw [he]

/-- the law's hold behind a deed -/
theorem LawC.didDo {w w1 w2 : World} {F G : Nat → Prop} {c R : Nat} {L L' : List Pr} {bs : List BoxD} {rs : List RowD} {v' : Value} {M' : List Pr} (h : LawC w w1 F c R L G bs rs) (hE : DoE w1 w2 G c R L' v' M') : ∃ G', LawC w w2 F c R L' G' bs [doRow v' M'] := by
  obtain ⟨ho, G', hk, hoff⟩ := hE
  have h2 := h.step hk
  exact ⟨G', LawC.got ⟨h2.wk, h2.hold.less (List.Sublist.refl _) (rs' := []) (by simp), h2.low⟩ ho hoff⟩
end Go.Proofs.Ytefllfoilkbboaa
/- A key, a deed, a slice of deeds of layer 10, as arguments. -/
namespace Go.Proofs.Ytefllfoilkbboaa
set_option linter.unusedVariables false
set_option linter.unusedSimpArgs false
open Go.ChangeShapes Go.WideShapes Go.ChangeAt Go.RowKit Go.Joins

theorem listZ3 {α : Type} {zs : List α} (h : zs.length = 3) : ∃ a b c, zs = [a, b, c] := by
  match zs, h with
  | [a, b, c], _ => exact ⟨a, b, c, rfl⟩
theorem listZ4 {α : Type} {zs : List α} (h : zs.length = 4) : ∃ a b c d, zs = [a, b, c, d] := by
  match zs, h with
  | [a, b, c, d], _ => exact ⟨a, b, c, d, rfl⟩
theorem listZ11 {α : Type} {zs : List α} (h : zs.length = 11) : ∃ c0 c1 c2 c3 c4 c5 c6 c7 c8 c9 c10, zs = [c0, c1, c2, c3, c4, c5, c6, c7, c8, c9, c10] := by
  match zs, h with
  | [c0, c1, c2, c3, c4, c5, c6, c7, c8, c9, c10], _ => exact ⟨c0, c1, c2, c3, c4, c5, c6, c7, c8, c9, c10, rfl⟩

theorem zq0 : Try.prog.cellsOf 3 = 1 := by kernel_rfl
theorem zq1 : Try.prog.cellsOf 32 = 1 := by kernel_rfl
theorem zq2 : Try.prog.cellsOf 4 = 1 := by kernel_rfl
theorem zq3 : Try.prog.cellsOf 5 = 1 := by kernel_rfl
theorem zq4 : Try.prog.cellsOf 36 = 3 := by kernel_rfl
theorem zq5 : Try.prog.cellsOf 34 = 3 := by kernel_rfl
theorem zq6 : Try.prog.cellsOf 38 = 6 := by kernel_rfl
theorem zq7 : Try.prog.cellsOf 40 = 11 := by kernel_rfl

section
variable {H : Type} {enc : TypeId × Value → H} {w : World} {base : Nat} {spare : Nat → Bool} {held : Bool}

theorem key_of {fuel : Nat} {c0 c1 c2 : Value} {x : DataW H × List MemPlace} (hf : DataW.trod enc Try.prog w base spare held fuel 34 [c0, c1, c2] = some x) :
    ∃ k : Ky, c0 = .int .i64 k.1 ∧ c1 = .int .i64 k.2.1 ∧ c2 = .int .u64 k.2.2 ∧ OkK k := by
  obtain ⟨xs, m, _, _, hl, hxl, hel⟩ := DataW.trod_struct Try.underlying34 hf
  obtain ⟨y0, y1, y2, rfl⟩ := listZ3 (zs := xs) (by simpa using hxl)
  have e0 := hel 0 _ rfl
  have e1 := hel 1 _ rfl
  have e2 := hel 2 _ rfl
  simp [zq0, zq1] at e0 e1 e2
  obtain ⟨p, h0, _, w0⟩ := DataW.trod_int Try.underlying3 e0
  obtain ⟨q, h1, _, w1⟩ := DataW.trod_int Try.underlying3 e1
  obtain ⟨t, h2, _, w2⟩ := DataW.trod_int Try.underlying32 e2
  simp at h0 h1 h2
  exact ⟨(p, q, t), h0, h1, h2, i64_of w0, i64_of w1, w64_of w2⟩
theorem rgt3_of {fuel : Nat} {c0 c1 c2 : Value} {x : DataW H × List MemPlace} (hf : DataW.trod enc Try.prog w base spare held fuel 36 [c0, c1, c2] = some x) :
    ∃ a b c : Bool, c0 = .bool a ∧ c1 = .bool b ∧ c2 = .bool c := by
  obtain ⟨xs, m, _, _, hl, hxl, hel⟩ := DataW.trod_struct Try.underlying36 hf
  obtain ⟨y0, y1, y2, rfl⟩ := listZ3 (zs := xs) (by simpa using hxl)
  have e0 := hel 0 _ rfl
  have e1 := hel 1 _ rfl
  have e2 := hel 2 _ rfl
  simp [zq2] at e0 e1 e2
  obtain ⟨a, h0, _⟩ := DataW.trod_bool Try.underlying4 e0
  obtain ⟨b, h1, _⟩ := DataW.trod_bool Try.underlying4 e1
  obtain ⟨c, h2, _⟩ := DataW.trod_bool Try.underlying4 e2
  simp at h0 h1 h2
  exact ⟨a, b, c, h0, h1, h2⟩
theorem line_of {fuel : Nat} {c0 c1 c2 c3 c4 c5 : Value} {x : DataW H × List MemPlace} (hf : DataW.trod enc Try.prog w base spare held fuel 38 [c0, c1, c2, c3, c4, c5] = some x) :
    ∃ l : Ln, c0 = .int .u64 l.1 ∧ c1 = .bool l.2.1 ∧ c2 = .bool l.2.2.1 ∧ c3 = .bool l.2.2.2.1 ∧ c4 = .bool l.2.2.2.2.1 ∧ c5 = .int .u8 l.2.2.2.2.2 := by
  obtain ⟨xs, m, _, _, hl, hxl, hel⟩ := DataW.trod_struct Try.underlying38 hf
  obtain ⟨y0, y1, y2, y3, rfl⟩ := listZ4 (zs := xs) (by simpa using hxl)
  have e0 := hel 0 _ rfl
  have e1 := hel 1 _ rfl
  have e2 := hel 2 _ rfl
  have e3 := hel 3 _ rfl
  simp [zq1, zq2, zq3, zq4] at e0 e1 e2 e3
  obtain ⟨f, h0, _, _⟩ := DataW.trod_int Try.underlying32 e0
  obtain ⟨a, b, c, h1, h2, h3⟩ := rgt3_of e1
  obtain ⟨d, h4, _⟩ := DataW.trod_bool Try.underlying4 e2
  obtain ⟨n, h5, _, _⟩ := DataW.trod_int Try.underlying5 e3
  simp at h0 h4 h5
  exact ⟨(f, a, b, c, d, n), h0, h1, h2, h3, h4, h5⟩

theorem deed_of {fuel : Nat} {cs : List Value} {x : DataW H × List MemPlace} (hf : DataW.trod enc Try.prog w base spare held fuel 40 cs = some x) :
    ∃ y : Dd, cs = [.int .i64 y.1, .int .i64 y.2.1, .int .i64 y.2.2.1.1, .int .i64 y.2.2.1.2.1, .int .u64 y.2.2.1.2.2, .int .u64 y.2.2.2.1, .bool y.2.2.2.2.1, .bool y.2.2.2.2.2.1, .bool y.2.2.2.2.2.2.1, .bool y.2.2.2.2.2.2.2.1, .int .u8 y.2.2.2.2.2.2.2.2] ∧ OkK y.2.2.1 ∧ I64 y.2.1 := by
  obtain ⟨xs, m, _, _, hl, hxl, hel⟩ := DataW.trod_struct Try.underlying40 hf
  obtain ⟨y0, y1, y2, y3, rfl⟩ := listZ4 (zs := xs) (by simpa using hxl)
  rw [zq7] at hl
  obtain ⟨c0, c1, c2, c3, c4, c5, c6, c7, c8, c9, c10, rfl⟩ := listZ11 hl
  have e0 := hel 0 _ rfl
  have e1 := hel 1 _ rfl
  have e2 := hel 2 _ rfl
  have e3 := hel 3 _ rfl
  simp [zq0, zq5, zq6] at e0 e1 e2 e3
  obtain ⟨kd, h0, _, _⟩ := DataW.trod_int Try.underlying3 e0
  obtain ⟨pk, h1, _, w1⟩ := DataW.trod_int Try.underlying3 e1
  obtain ⟨k, h2, h3, h4, hk⟩ := key_of e2
  obtain ⟨l, h5, h6, h7, h8, h9, h10⟩ := line_of e3
  simp at h0 h1
  subst h0 h1 h2 h3 h4 h5 h6 h7 h8 h9 h10
  exact ⟨(kd, pk, k, l), rfl, hk, i64_of w1⟩

theorem open_deedC {r : Reach} {b0 : Nat} {v : Value} {d : DataW H} {p : List MemPlace} (hv : Value.okWide Try.prog w r b0 40 v) (h : DataW.Trod enc Try.prog w base spare held 40 v d p) :
    ∃ (kd pk p q t f : Int) (x1 x2 x3 x4 : Bool) (m : Int), v = .agg #[.int .i64 kd, .int .i64 pk, .int .i64 p, .int .i64 q, .int .u64 t, .int .u64 f, .bool x1, .bool x2, .bool x3, .bool x4, .int .u8 m] ∧ OkK (p, q, t) ∧ I64 pk := by
  obtain ⟨cs, rfl, hsz, _⟩ : ∃ cs, v = .agg cs ∧ cs.size = Try.prog.cellsOf 40 ∧ Row.okWide Try.prog w r b0 40 cs := by
    simpa [Value.okWide, Try.underlying40] using hv
  obtain ⟨fuel, hf⟩ := h
  obtain ⟨cs⟩ := cs
  obtain ⟨⟨kd, pk, ⟨p, q, t⟩, ⟨f, x1, x2, x3, x4, m⟩⟩, e, hk, hp⟩ := deed_of hf
  have e' : cs = _ := e
  subst e'
  exact ⟨kd, pk, p, q, t, f, x1, x2, x3, x4, m, rfl, hk, hp⟩

set_option maxRecDepth 100000 in
theorem open_deedsC {r : Reach} {b0 : Nat} {v : Value} {d : DataW H} {p : List MemPlace} (hv : Value.okWide Try.prog w r b0 22 v) (h : DataW.Trod enc Try.prog w base spare held 22 v d p) :
    ∃ A ds c, v = .slice A ds.length c ∧ ds.length ≤ maxLen ∧ DeedsC w A ds ∧ DeedsOkC ds := by
  obtain ⟨a, len, cap, rfl⟩ := okWide_slice Try.underlying22 hv
  obtain ⟨fuel, hf⟩ := h
  rcases Deep.open_slice Try.underlying22 hf with ⟨hcs, _⟩ | ⟨ad, len', cap', m, n, D, Pl, hcs, _, hl, hm, hmm, _, hel⟩
  · have e : Value.slice a len cap = .slice none 0 0 := by simpa [Value.cells] using hcs
    rw [e]
    exact ⟨none, [], 0, rfl, by simp [maxLen], fun k hk => absurd hk (by simp), fun k hk => absurd hk (by simp)⟩
  · have e : Value.slice a len cap = .slice (some ad) len' cap' := by simpa [Value.cells] using hcs
    rw [e]
    rw [zq7] at hel
    have hle : len' ≤ m := by rw [hmm]; split <;> omega
    obtain ⟨g, hg⟩ := Deep.choose_lt (α := Dd) (n := len') (p := fun k y => DeedIs w (ad.add (k * 11)) y ∧ OkK y.2.2.1 ∧ I64 y.2.1) (fun k hk => by
      obtain ⟨cs', h1, h2⟩ := hel k (by omega)
      obtain ⟨y, rfl, w1, w2⟩ := deed_of h2
      obtain ⟨_, _, hc⟩ := World.cells?_some h1
      exact ⟨y, ⟨by simpa [Addr.add] using hc 0 (by omega), hc 1 (by omega), hc 2 (by omega), hc 3 (by omega), hc 4 (by omega), hc 5 (by omega), hc 6 (by omega), hc 7 (by omega), hc 8 (by omega), hc 9 (by omega), hc 10 (by omega)⟩, w1, w2⟩)
    have hget : ∀ k, k < len' → ((List.range len').map g).getD k zD = g k := fun k hk => by simp [List.getD, hk]
    refine ⟨some ad, (List.range len').map g, cap', by simp, by simp; omega, fun k hk => ⟨ad, rfl, ?_⟩, fun k hk => ?_⟩
    · have hk' : k < len' := by simpa using hk
      rw [hget k hk']; exact (hg k hk').1
    · have hk' : k < len' := by simpa using hk
      rw [hget k hk']; exact (hg k hk').2
end
end Go.Proofs.Ytefllfoilkbboaa
/- Layer 10: run, a cache behind deeds. -/
namespace Go.Proofs.Ytefllfoilkbboaa
set_option linter.unusedVariables false
set_option linter.unusedSimpArgs false
open Go.ChangeShapes Go.WideShapes Go.ChangeAt Go.RowKit Go.Joins

def roomR (a : Int) : Nat := 1 + (a % 8).toNat
theorem roomR_bd {a : Int} (h : 0 ≤ a) : 1 ≤ roomR a ∧ roomR a ≤ 8 := by unfold roomR; omega
def manyC (ds : List Dd) : Nat := min ds.length 120

set_option maxRecDepth 100000 in
set_option maxHeartbeats 8000000 in
theorem runC_any (A : Option Addr) (cp : Nat) (ds : List Dd) (a : Int) (w : World) (hl : ds.length ≤ maxLen) (hd : DeedsC w A ds) (hok : DeedsOkC ds) (h0 : 0 ≤ a) (h1 : a ≤ 255) :
    Calls Try.prog 18 #[.int .u8 a, .slice A ds.length cp] w fun e w' => ∃ (c : Nat) (G : Nat → Prop), e = .returned (.pointer (some ⟨c, 0, none⟩)) ∧ LawC w w' (From w.heap.size) c (roomR a) (playC (roomR a) ds (manyC ds)) G [] [] := by
  unfold maxLen at hl
  have HD := Lib.hid hd
  have HOK := Lib.hid hok
  obtain ⟨R, hR⟩ : ∃ R, roomR a = R := ⟨_, rfl⟩
  have hbd := roomR_bd h0
  rw [hR] at hbd ⊢
  have HR := Lib.hid hR
  obtain ⟨N, hN⟩ : ∃ N, ds.length = N := ⟨_, rfl⟩
  have HN := Lib.hid hN
  rw [hN] at hl ⊢
  have hm : manyC ds ≤ 120 ∧ manyC ds ≤ N ∧ (manyC ds = 120 ∨ manyC ds = N) := by unfold manyC; omega
  obtain ⟨mn, hmn⟩ : ∃ m, manyC ds = m := ⟨_, rfl⟩
  rw [hmn] at hm ⊢
  obtain ⟨hm0, hm1, hm2⟩ := hm
  have t0 : a.tmod 8 = a % 8 := Int.tmod_eq_emod_of_nonneg h0
  have t1 : (R : Int) = 1 + a % 8 := by rw [← hR]; unfold roomR; omega
  have hz0 : 0 ≤ a % 8 := by omega
  have hz1 : a % 8 < 8 := by omega
  clear hd hok hN hmn hR
  generalize a % 8 = z at t0 t1 hz0 hz1
  have t2 : IntKind.i64.wrap z = z := by rw [IntKind.wrap_i64]; omega
  have t3 : IntKind.i64.wrap (1 + z) = 1 + z := by rw [IntKind.wrap_i64]; omega
  have t4 : IntKind.u8.wrap z = z := by show z % 256 = z; omega
  have HF : Hid (roomF (1 + z) = R) := Lib.hid (by unfold roomF; rw [if_neg (by omega), if_pos (by omega)]; omega)
  have M0 := Lib.hid (Mine.start w)
  clear t1
  go_enter Try.func18, Try.ntmps18
  go_upto_region 3 with (first | (go_at_call 10; refine (newC_any _ _).mono ?_; rw [HF.out]; rintro e w1 ⟨rfl, hc1, hb1⟩; have H1 := Lib.hid (LawC.first M0.out hc1 hb1); clear hc1 hb1) | (go_at_call 11; refine (rnewC_any _ _).mono ?_; rw [show ((roomF 1 : Nat) : Int) = 1 from rfl]; rintro e w2 ⟨rfl, hb2⟩; have H2 := Lib.hid (H1.out.quiet hb2); clear hb2 H1))
  obtain ⟨c, hc⟩ : ∃ c, w.heap.size + 1 = c := ⟨_, rfl⟩
  rw [hc] at H2 ⊢
  generalize hw3 : w2.alloc _ = w3
  have H3 := Lib.hid (((H2.out.new (b := w2.heap.size) rfl #[.slice none 0 0, .int .i64 1] 28).got (PairsOwn.nil _ 0) (by simp [Value.ownBlock])).world hw3)
  clear hc hw3 H2 M0 HF t0 t2 t3 t4 hz0 hz1 h0 h1
  generalize w2.heap.size = bx at *
  go_wp2
  go_loopw [7] (fun i wr => ∃ (k nx : Nat) (Ax : Option Addr) (cx : Nat) (G : Nat → Prop), k ≤ mn ∧ i = .int .i64 k ∧ Hid (LawC w wr (From w.heap.size) c R (playC R ds k) G [⟨bx, #[.slice Ax nx cx, .int .i64 1], 28⟩] [⟨51, 9, .slice Ax nx cx, (playC 1 ds k).length, pcs (playC 1 ds k)⟩])) (fun i _ => (120 - intOf i).toNat)
  case atStart => exact ⟨0, 0, none, 0, _, by omega, rfl, H3⟩
  case round =>
    obtain ⟨k, nx, Ax, cx, G, hk, rfl, HL⟩ := hrel
    clear H3
    by_cases hlt : k < mn
    · have hlt2 := hlt
      have hks0 : k < N := by omega
      have h120 : (k : Int) < 120 := by omega
      have hks : k < ds.length := by rw [HN.out]; exact hks0
      obtain ⟨⟨kd, pk, ⟨p, q, t⟩, ⟨f, x1, x2, x3, x4, m⟩⟩, hkk⟩ : ∃ y : Dd, ds.getD k zD = y := ⟨_, rfl⟩
      have hk2 := HOK.out k hks
      rw [hkk] at hk2
      have HKK := Lib.hid hkk
      obtain ⟨L1, hL1⟩ : ∃ L1, playC R ds (k + 1) = L1 := ⟨_, rfl⟩
      obtain ⟨M1, hM1⟩ : ∃ M1, playC 1 ds (k + 1) = M1 := ⟨_, rfl⟩
      obtain ⟨n2, hn2⟩ : ∃ n2, M1.length = n2 := ⟨_, rfl⟩
      obtain ⟨ans, hans⟩ : ∃ b, doA (playC R ds k) (playC 1 ds k) kd (p, q, t) = b := ⟨_, rfl⟩
      have HDO : Hid (∀ (w1 : World) (G : Nat → Prop), Cac w1 G c R (playC R ds k) → PairsOwn w1 0 (.slice Ax nx cx) (playC 1 ds k) → (∀ i, (Value.slice Ax nx cx).ownBlock = some i → ¬ G i) →
          Calls Try.prog 12 #[.pointer (some ⟨c, 0, none⟩), .agg #[.slice Ax nx cx, .int .i64 1], .agg #[.int .i64 kd, .int .i64 pk, .int .i64 p, .int .i64 q, .int .u64 t, .int .u64 f, .bool x1, .bool x2, .bool x3, .bool x4, .int .u8 m]] w1 fun e w' => ∃ A2 d2, e = .returned (.tuple #[.agg #[.slice A2 n2 d2, .int .i64 1], .bool ans]) ∧ DoE w1 w' G c R L1 (.slice A2 n2 d2) M1) := Lib.hid fun w1 G hc hx hoff => by
        have h9 := do_any hc hx hoff (Nat.le_trans (playC_len 1 ds k) (by omega)) 1 kd pk p q t f m x1 x2 x3 x4 hk2.1 hk2.2
        rw [playC_step hkk, playC_step hkk, hL1, hM1, hn2, hans] at h9
        exact h9
      have HL1 := Lib.hid hL1
      have HM1 := Lib.hid hM1
      have HN2 := Lib.hid hn2
      have HAN := Lib.hid hans
      clear hkk hk2 hL1 hM1 hn2 hans
      obtain ⟨ad, e', _⟩ := deedsC_at HD.out HL.out.below hks HKK.out
      subst e'
      go_upto_region 6 with fail
      go_cut [8, 9] from 16 to 36 (fun s9 s10 wc => ∃ (n9 : Nat) (A2 : Option Addr) (d2 : Nat) (G2 : Nat → Prop), s9 = .pointer (some ⟨n9, 0, none⟩) ∧ s10 = .bool ans ∧ Hid (LawC w wc (From w.heap.size) c R L1 G2 [⟨n9, #[.slice A2 n2 d2, .int .i64 1], 28⟩, ⟨bx, #[.slice Ax nx cx, .int .i64 1], 28⟩] [⟨51, 9, .slice A2 n2 d2, M1.length, pcs M1⟩]))
      case first =>
        refine wp_region_held_drew (S := fun w' => Below w.heap.size w w' ∧ Blk w' bx #[.slice Ax nx cx, .int .i64 1] 28) (by kernel_rfl) ⟨(HL.out.quiet (Kept.drew0 _)).below, (HL.out.quiet (Kept.drew0 _)).at_ 0 rfl⟩ (fun hHeld => ?_)
        have H0 := Lib.hid (HL.out.quiet (Kept.drew0 _))
        clear HL
        generalize wr.drew = v0 at *
        refine tk (v := ?_) 0 ?_ ?_
        rotate_left
        · intro w hSw
          go_simp
          (try with_reducible rfl)
        (try simp only [Act.put, List.setIfInBounds_toArray, List.set_cons_zero, List.set_cons_succ])
        refine tk (v := ?_) 1 ?_ ?_
        rotate_left
        · intro w hSw
          obtain ⟨a0, a1⟩ := hSw.2.c2
          go_simp
          (try with_reducible rfl)
        (try simp only [Act.put, List.setIfInBounds_toArray, List.set_cons_zero, List.set_cons_succ])
        refine tk (v := ?_) 2 ?_ ?_
        rotate_left
        · intro w hSw
          go_simp
          (try with_reducible rfl)
        (try simp only [Act.put, List.setIfInBounds_toArray, List.set_cons_zero, List.set_cons_succ])
        refine tk (v := ?_) 3 ?_ ?_
        rotate_left
        · intro w hSw
          go_simp
          (try with_reducible rfl)
        (try simp only [Act.put, List.setIfInBounds_toArray, List.set_cons_zero, List.set_cons_succ])
        refine tk (v := ?_) 4 ?_ ?_
        rotate_left
        · intro w hSw
          go_simp
          (try with_reducible rfl)
        (try simp only [Act.put, List.setIfInBounds_toArray, List.set_cons_zero, List.set_cons_succ])
        refine tk (v := ?_) 5 ?_ ?_
        rotate_left
        · intro w hSw
          obtain ⟨ad', e', hd⟩ := deedsC_at HD.out hSw.1 hks HKK.out
          obtain rfl : ad = ad' := Option.some.inj e'
          have c0 := hd.c0
          obtain ⟨c1, c2, c3, c4, c5, c6, c7, c8, c9, c10⟩ := hd.c1
          go_simp
          (try with_reducible rfl)
        (try simp only [Act.put, List.setIfInBounds_toArray, List.set_cons_zero, List.set_cons_succ])
        refine wpAnyH_ready (rs := [6, 10]) (by kernel_rfl) (by simp) ?_
        refine anyH_one rfl (fun K hK => ?_) ?_
        · go_simp
          refine (HDO.out _ _ H0.out.wk.cac (H0.out.of_ 0 rfl) (H0.out.off 0 rfl)).mono ?_
          rintro e v1 ⟨A2, d2, rfl, hE⟩
          obtain ⟨G1, hH⟩ := H0.out.didDo hE
          have H1 := Lib.hid hH
          clear hE hH H0
          refine hK.out _ _ (⟨H1.out.below, H1.out.at_ 0 rfl⟩) (fun hHeld => ?_)
          clear hK K
          (try simp only [Act.put, List.setIfInBounds_toArray, List.set_cons_zero, List.set_cons_succ])
          refine tk (v := ?_) 7 ?_ ?_
          rotate_left
          · intro w hSw
            go_simp
            (try with_reducible rfl)
          (try simp only [Act.put, List.setIfInBounds_toArray, List.set_cons_zero, List.set_cons_succ])
          refine tk (v := ?_) 8 ?_ ?_
          rotate_left
          · intro w hSw
            go_simp
            (try with_reducible rfl)
          (try simp only [Act.put, List.setIfInBounds_toArray, List.set_cons_zero, List.set_cons_succ])
          refine tk (v := ?_) 9 ?_ ?_
          rotate_left
          · intro w hSw
            go_simp
            (try with_reducible rfl)
          (try simp only [Act.put, List.setIfInBounds_toArray, List.set_cons_zero, List.set_cons_succ])
          refine wpAnyH_ready (rs := [10]) (by kernel_rfl) (by simp) ?_
          refine anyH_one rfl (fun K hK => ?_) ?_
          · go_simp
            generalize hq : v1.alloc _ = v2
            have H2 := Lib.hid ((H1.out.new (b := v1.heap.size) rfl _ _).world hq)
            clear hq H1
            generalize v1.heap.size = n9 at H2 ⊢
            refine hK.out _ _ (⟨H2.out.below, H2.out.at_ 1 rfl⟩) (fun hHeld => ?_)
            clear hK K
            (try simp only [Act.put, List.setIfInBounds_toArray, List.set_cons_zero, List.set_cons_succ])
            refine wpAnyH_ready (rs := [11]) (by kernel_rfl) (by simp) ?_
            refine anyH_one rfl (fun K hK => ?_) ?_
            · obtain ⟨r0, r1⟩ := (H2.out.at_ 0 rfl).c2
              have s0 := (H2.out.at_ 0 rfl).fz 0; have s1 := (H2.out.at_ 0 rfl).fz 1
              go_simp
              generalize hq : (v2.setCell _ _).setCell _ _ = v3
              have H3 := Lib.hid ((H2.out.put 0 rfl (turnB2 _ _ _ _) (setB2 (H2.out.at_ 0 rfl) _ _) (by rfl)).world hq)
              clear hq H2 r0 r1 s0 s1
              refine hK.out _ _ (⟨H3.out.below, H3.out.at_ 1 rfl⟩) (fun hHeld => ?_)
              clear hK K
              (try simp only [Act.put, List.setIfInBounds_toArray, List.set_cons_zero, List.set_cons_succ])
              refine tk (v := ?_) 12 ?_ ?_
              rotate_left
              · intro w hSw
                go_simp
                (try with_reducible rfl)
              (try simp only [Act.put, List.setIfInBounds_toArray, List.set_cons_zero, List.set_cons_succ])
              refine wpAnyH_done (by kernel_rfl) ?_ _
              go_wp2
              go_meet
              case rel => exact ⟨n9, A2, d2, G1, rfl, rfl, H3⟩
            exact AllReadyH.nil
          exact AllReadyH.nil
        refine anyH_one rfl (fun K hK => ?_) ?_
        · go_simp
          generalize hq : v0.alloc _ = v1
          have H1 := Lib.hid ((H0.out.new (b := v0.heap.size) rfl _ _).world hq)
          clear hq H0
          generalize v0.heap.size = n9 at H1 ⊢
          refine hK.out _ _ (⟨H1.out.below, H1.out.at_ 1 rfl⟩) (fun hHeld => ?_)
          clear hK K
          (try simp only [Act.put, List.setIfInBounds_toArray, List.set_cons_zero, List.set_cons_succ])
          refine wpAnyH_ready (rs := [6]) (by kernel_rfl) (by simp) ?_
          refine anyH_one rfl (fun K hK => ?_) ?_
          · go_simp
            refine (HDO.out _ _ H1.out.wk.cac (H1.out.of_ 0 rfl) (H1.out.off 0 rfl)).mono ?_
            rintro e v2 ⟨A2, d2, rfl, hE⟩
            obtain ⟨G2, hH⟩ := H1.out.didDo hE
            have H2 := Lib.hid hH
            clear hE hH H1
            refine hK.out _ _ (⟨H2.out.below, H2.out.at_ 1 rfl⟩) (fun hHeld => ?_)
            clear hK K
            (try simp only [Act.put, List.setIfInBounds_toArray, List.set_cons_zero, List.set_cons_succ])
            refine tk (v := ?_) 7 ?_ ?_
            rotate_left
            · intro w hSw
              go_simp
              (try with_reducible rfl)
            (try simp only [Act.put, List.setIfInBounds_toArray, List.set_cons_zero, List.set_cons_succ])
            refine tk (v := ?_) 8 ?_ ?_
            rotate_left
            · intro w hSw
              go_simp
              (try with_reducible rfl)
            (try simp only [Act.put, List.setIfInBounds_toArray, List.set_cons_zero, List.set_cons_succ])
            refine tk (v := ?_) 9 ?_ ?_
            rotate_left
            · intro w hSw
              go_simp
              (try with_reducible rfl)
            (try simp only [Act.put, List.setIfInBounds_toArray, List.set_cons_zero, List.set_cons_succ])
            refine wpAnyH_ready (rs := [11]) (by kernel_rfl) (by simp) ?_
            refine anyH_one rfl (fun K hK => ?_) ?_
            · obtain ⟨r0, r1⟩ := (H2.out.at_ 0 rfl).c2
              have s0 := (H2.out.at_ 0 rfl).fz 0; have s1 := (H2.out.at_ 0 rfl).fz 1
              go_simp
              generalize hq : (v2.setCell _ _).setCell _ _ = v3
              have H3 := Lib.hid ((H2.out.put 0 rfl (turnB2 _ _ _ _) (setB2 (H2.out.at_ 0 rfl) _ _) (by rfl)).world hq)
              clear hq H2 r0 r1 s0 s1
              refine hK.out _ _ (⟨H3.out.below, H3.out.at_ 1 rfl⟩) (fun hHeld => ?_)
              clear hK K
              (try simp only [Act.put, List.setIfInBounds_toArray, List.set_cons_zero, List.set_cons_succ])
              refine tk (v := ?_) 12 ?_ ?_
              rotate_left
              · intro w hSw
                go_simp
                (try with_reducible rfl)
              (try simp only [Act.put, List.setIfInBounds_toArray, List.set_cons_zero, List.set_cons_succ])
              refine wpAnyH_done (by kernel_rfl) ?_ _
              go_wp2
              go_meet
              case rel => exact ⟨n9, A2, d2, G2, rfl, rfl, H3⟩
            exact AllReadyH.nil
          exact AllReadyH.nil
        exact AllReadyH.nil
      case rest =>
        obtain ⟨n9, A2, d2, G2, rfl, rfl, HC⟩ := hcut
        obtain ⟨a0, a1⟩ := (HC.out.at_ 0 rfl).c2
        obtain ⟨b0, b1⟩ := (HC.out.at_ 1 rfl).c2
        have s0 := (HC.out.at_ 1 rfl).fz 0; have s1 := (HC.out.at_ 1 rfl).fz 1
        go_wp2
        generalize hw9 : (wc.setCell _ _).setCell _ _ = w9
        have H9 := Lib.hid (((HC.out.put 1 rfl (turnB2 _ _ _ _) (setB2 (HC.out.at_ 1 rfl) _ _) (by rfl)).world hw9).pick [1] [0])
        clear hw9 a0 a1 b0 b1 s0 s1 HL
        go_roundw
        case rel => exact ⟨k + 1, n2, A2, d2, G2, by omega, by go_num, by rw [HL1.out, HM1.out]; exact H9⟩
        case measure => simp [intOf]; omega
    · have e : k = mn := by omega
      by_cases h120 : k < N
      · have hk120 : k = 120 := by omega
        subst hk120
        go_wp2
        go_ret
        exact ⟨c, G, rfl, by rw [← e]; exact HL.out.pick [] []⟩
      · have hN : N ≤ k := by omega
        go_wp2
        go_ret
        exact ⟨c, G, rfl, by rw [← e]; exact HL.out.pick [] []⟩
end Go.Proofs.Ytefllfoilkbboaa
