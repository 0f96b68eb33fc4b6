/- Several texts of ours in one: Jm, Jn, Ju. -/
import Derived.Test.YtiihhlmddmicjaaDoorGJtJqJl
/- Layer 11: facts of laws over a warm psc. -/
namespace Go.Proofs.YtiihhlmddmicjaaDoor
set_option linter.unusedVariables false
set_option linter.unusedSimpArgs false
open Go.ChangeShapes Go.WideShapes Go.ChangeAt Go.RowKit Go.Joins

theorem Has.late {w wr : World} {os : List ObjT} {bs : List BoxD} {rs : List RowD} {P : Thing} {G : Nat → Prop} (h : Has w wr (fun _ => False) os bs rs) (k : Nat) (hk : os[k]? = some ⟨P, G⟩) : ∀ i, G i → w.heap.size ≤ i := fun i hi => by
  rcases (h.foot k hk i hi).2 with h1 | h1
  · exact h1.elim
  · exact h1
/-- what Deepest answers, as letters -/
def deepZ (o : Option (Int × Ln)) : Int × Int × Bool × Bool × Bool × Bool := match o with
  | some (l, t, W, U, X, _, _) => (l, t, W, U, X, true)
  | none => (0, 0, false, false, false, false)
theorem deepV_z {o : Option (Int × Ln)} {l t : Int} {W U X is : Bool} (h : deepZ o = (l, t, W, U, X, is)) : deepV o = .tuple #[placeV l t W U X, .bool is] := by
  cases o with
  | none => simp [deepZ] at h; obtain ⟨rfl, rfl, rfl, rfl, rfl, rfl⟩ := h; rfl
  | some y => obtain ⟨l', t', W', U', X', d, m⟩ := y; simp [deepZ] at h; obtain ⟨rfl, rfl, rfl, rfl, rfl, rfl⟩ := h; rfl

section
variable {f : Int → Int} {ns : List Int} {n : Nat} {L : Ls}
/-- nothing is found for another PCID -/
theorem Warm.other (h : Warm f ns n L) {p a : Int} (hp : p ≠ 1) : deepK L p a = none := by
  cases hd : deepK L p a with
  | none => rfl
  | some y =>
    obtain ⟨l, x⟩ := y
    obtain ⟨k, hk, _, hm⟩ := deep_mem hd
    obtain ⟨j, _, h1, _⟩ := h k hk _ hm
    exact absurd (congrArg (fun y : Ky => y.1) h1) hp
theorem Warm.none (h : Warm f ns n L) (l : Int) : lenF (ofL (ofL L 2) 1) l = 0 := by
  unfold lenF
  split
  · rename_i hl
    have hk := (kOf_lt hl.1 hl.2).1
    generalize kOf l = k at hk
    unfold ofL
    rw [if_pos hk, if_pos hk]
    have : ofK (ofK (L k) 2) 1 = [] := by
      unfold ofK
      rw [List.filter_eq_nil_iff]
      intro x hx
      obtain ⟨j, _, h1, _⟩ := h k hk x (List.mem_filter.1 hx).1
      rw [h1]
      simp [kyF]
    rw [this]; rfl
  · rfl
end
end Go.Proofs.YtiihhlmddmicjaaDoor
/- Layer 11: Fill of a nil psc; one. -/
namespace Go.Proofs.YtiihhlmddmicjaaDoor
set_option linter.unusedVariables false
set_option linter.unusedSimpArgs false
open Go.ChangeShapes Go.WideShapes Go.ChangeAt Go.RowKit Go.Joins

end Go.Proofs.YtiihhlmddmicjaaDoor
/- Layer 11: deeds of both sides, as a list; what they do. -/
namespace Go.Proofs.YtiihhlmddmicjaaDoor
set_option linter.unusedVariables false
set_option linter.unusedSimpArgs false
open Go.ChangeShapes Go.WideShapes Go.ChangeAt Go.RowKit Go.Joins

structure De where
  kd : Int
  p : Int
  lv : Int
  a : Int
  A : Option Addr
  n : Nat
  c : Nat
  T : List Stp
  why : Int
  W1 : Bool
  U1 : Bool
  X1 : Bool
  lw : Int
  fr : Int
  lev : Int
  t : Int
  W : Bool
  U : Bool
  X : Bool
  k0 : Int
  k1 : Int
  k2 : Int
def zDe : De := ⟨0, 0, 0, 0, none, 0, 0, [], 0, false, false, false, 0, 0, 0, 0, false, false, false, 0, 0, 0⟩
/-- a deed's cells at an address -/
def DeC (w : World) (ad : Addr) (kd p lv a : Int) (A : Option Addr) (n c : Nat) (why : Int) (W1 U1 X1 : Bool) (lw fr lev t : Int) (W U X : Bool) (k0 k1 k2 : Int) : Prop :=
  w.cell? ad = some (.int .i64 kd) ∧ w.cell? ⟨ad.block, ad.off + 1, none⟩ = some (.int .i64 p) ∧ w.cell? ⟨ad.block, ad.off + 2, none⟩ = some (.int .i64 lv) ∧ w.cell? ⟨ad.block, ad.off + 3, none⟩ = some (.int .u64 a) ∧ w.cell? ⟨ad.block, ad.off + 4, none⟩ = some (.slice A n c) ∧ w.cell? ⟨ad.block, ad.off + 5, none⟩ = some (.int .i64 why) ∧ w.cell? ⟨ad.block, ad.off + 6, none⟩ = some (.bool W1) ∧ w.cell? ⟨ad.block, ad.off + 7, none⟩ = some (.bool U1) ∧ w.cell? ⟨ad.block, ad.off + 8, none⟩ = some (.bool X1) ∧ w.cell? ⟨ad.block, ad.off + 9, none⟩ = some (.int .i64 lw) ∧ w.cell? ⟨ad.block, ad.off + 10, none⟩ = some (.int .u64 fr) ∧ w.cell? ⟨ad.block, ad.off + 11, none⟩ = some (.int .i64 lev) ∧ w.cell? ⟨ad.block, ad.off + 12, none⟩ = some (.int .u64 t) ∧ w.cell? ⟨ad.block, ad.off + 13, none⟩ = some (.bool W) ∧ w.cell? ⟨ad.block, ad.off + 14, none⟩ = some (.bool U) ∧ w.cell? ⟨ad.block, ad.off + 15, none⟩ = some (.bool X) ∧ w.cell? ⟨ad.block, ad.off + 16, none⟩ = some (.int .i64 k0) ∧ w.cell? ⟨ad.block, ad.off + 17, none⟩ = some (.int .i64 k1) ∧ w.cell? ⟨ad.block, ad.off + 18, none⟩ = some (.int .i64 k2)
def DeIs (w : World) (ad : Addr) (y : De) : Prop := DeC w ad y.kd y.p y.lv y.a y.A y.n y.c y.why y.W1 y.U1 y.X1 y.lw y.fr y.lev y.t y.W y.U y.X y.k0 y.k1 y.k2
set_option maxRecDepth 100000 in
theorem DeC.load {w : World} {ad : Addr} {kd p lv a : Int} {A : Option Addr} {n c : Nat} {why : Int} {W1 U1 X1 : Bool} {lw fr lev t : Int} {W U X : Bool} {k0 k1 k2 : Int} (h : DeC w ad kd p lv a A n c why W1 U1 X1 lw fr lev t W U X k0 k1 k2) : (Instr.loadAt 44 (.pointer (some ad))).run Tryd.prog w = .ok (.agg #[.int .i64 kd, .int .i64 p, .int .i64 lv, .int .u64 a, .slice A n c, .int .i64 why, .bool W1, .bool U1, .bool X1, .int .i64 lw, .int .u64 fr, .int .i64 lev, .int .u64 t, .bool W, .bool U, .bool X, .int .i64 k0, .int .i64 k1, .int .i64 k2]) w := by
  obtain ⟨e0, e1, e2, e3, e4, e5, e6, e7, e8, e9, e10, e11, e12, e13, e14, e15, e16, e17, e18⟩ := h
  have hc : ∀ j v, ([.int .i64 kd, .int .i64 p, .int .i64 lv, .int .u64 a, .slice A n c, .int .i64 why, .bool W1, .bool U1, .bool X1, .int .i64 lw, .int .u64 fr, .int .i64 lev, .int .u64 t, .bool W, .bool U, .bool X, .int .i64 k0, .int .i64 k1, .int .i64 k2] : List Value)[j]? = some v → w.cell? (ad.add j) = some v := fun j v hv => match j, hv with
    | 0, hv => by obtain rfl := Option.some.inj hv; exact e0
    | 1, hv => by obtain rfl := Option.some.inj hv; exact e1
    | 2, hv => by obtain rfl := Option.some.inj hv; exact e2
    | 3, hv => by obtain rfl := Option.some.inj hv; exact e3
    | 4, hv => by obtain rfl := Option.some.inj hv; exact e4
    | 5, hv => by obtain rfl := Option.some.inj hv; exact e5
    | 6, hv => by obtain rfl := Option.some.inj hv; exact e6
    | 7, hv => by obtain rfl := Option.some.inj hv; exact e7
    | 8, hv => by obtain rfl := Option.some.inj hv; exact e8
    | 9, hv => by obtain rfl := Option.some.inj hv; exact e9
    | 10, hv => by obtain rfl := Option.some.inj hv; exact e10
    | 11, hv => by obtain rfl := Option.some.inj hv; exact e11
    | 12, hv => by obtain rfl := Option.some.inj hv; exact e12
    | 13, hv => by obtain rfl := Option.some.inj hv; exact e13
    | 14, hv => by obtain rfl := Option.some.inj hv; exact e14
    | 15, hv => by obtain rfl := Option.some.inj hv; exact e15
    | 16, hv => by obtain rfl := Option.some.inj hv; exact e16
    | 17, hv => by obtain rfl := Option.some.inj hv; exact e17
    | 18, hv => by obtain rfl := Option.some.inj hv; exact e18
    | j + 19, hv => by simp at hv
  have hl : (loadCells ad 19).run Tryd.prog w = .ok #[.int .i64 kd, .int .i64 p, .int .i64 lv, .int .u64 a, .slice A n c, .int .i64 why, .bool W1, .bool U1, .bool X1, .int .i64 lw, .int .u64 fr, .int .i64 lev, .int .u64 t, .bool W, .bool U, .bool X, .int .i64 k0, .int .i64 k1, .int .i64 k2] w := run_loadCells_list (P := Tryd.prog) w ad [.int .i64 kd, .int .i64 p, .int .i64 lv, .int .u64 a, .slice A n c, .int .i64 why, .bool W1, .bool U1, .bool X1, .int .i64 lw, .int .u64 fr, .int .i64 lev, .int .u64 t, .bool W, .bool U, .bool X, .int .i64 k0, .int .i64 k1, .int .i64 k2] hc
  have hi : (Tryd.prog.info? 44).map (·.size) = some 19 := by kernel_rfl
  clear hc e0 e1 e2 e3 e4 e5 e6 e7 e8 e9 e10 e11 e12 e13 e14 e15 e16 e17 e18
  cases hq : Tryd.prog.info? 44 with
  | none => simp [hq] at hi
  | some i =>
    have hs : i.size = 19 := by simpa [hq] using hi
    have hagg : (isAgg 44).run Tryd.prog w = .ok true w := by
      unfold isAgg
      rw [Sem.run_bind, run_underlying Tryd.underlying44 w]
      simp
    have hv : (loadVar 44 ad).run Tryd.prog w = .ok (.agg #[.int .i64 kd, .int .i64 p, .int .i64 lv, .int .u64 a, .slice A n c, .int .i64 why, .bool W1, .bool U1, .bool X1, .int .i64 lw, .int .u64 fr, .int .i64 lev, .int .u64 t, .bool W, .bool U, .bool X, .int .i64 k0, .int .i64 k1, .int .i64 k2]) w := by
      simp [loadVar, Sem.run_bind, hagg, sizeOf, typeInfo, hq, hs, hl]
    simp only [Instr.loadAt, Instr.sureAddr, Sem.run_bind, Sem.run_pure, Result.andThen_ok, hv]
/-- a load in a region, by what is loaded -/
theorem exec_load {P : Program} {o : Oper} {r : Operand → Value} {t : TypeId} {x : Operand} {p v : Value} {w : World} (ho : o.op = .load t x) (hp : r x = p) (h : (Instr.loadAt t p).run P w = .ok v w) : (execOp r o).run P w = .ok (.value v) w := by
  subst hp
  unfold execOp
  rw [ho]
  simp only [Sem.run_bind, Sem.run_pure, Result.andThen_ok, h]
structure DeOk (w : World) (y : De) : Prop where
  p : I64 y.p
  a : W64 y.a
  n : y.T.length = y.n
  z : y.n * 24 ≤ 140737488355328
  s : StepsIn w (.slice y.A y.n y.c) y.T
  w : ∀ k, k < y.T.length → W64 (stepAt y.T k).2.2
  k0 : I64 y.k0
  k1 : I64 y.k1
  k2 : I64 y.k2
def DesIn (w : World) (A : Option Addr) (ds : List De) : Prop := ∀ k, k < ds.length → ∃ ad, A = some ad ∧ DeIs w (ad.add (k * 19)) (ds.getD k zDe)
def DesOk (w : World) (ds : List De) : Prop := ∀ k, k < ds.length → DeOk w (ds.getD k zDe)
theorem cell_same {w w' : World} {ad : Addr} {v : Value} (hb : Below w.heap.size w w') (h : w.cell? ad = some v) : w'.cell? ad = some v := (hb.cell (World.block_lt_of_cell? _ _ h)).trans h
theorem DeC.below {w w' : World} {ad : Addr} {kd p lv a : Int} {A : Option Addr} {n c : Nat} {why : Int} {W1 U1 X1 : Bool} {lw fr lev t : Int} {W U X : Bool} {k0 k1 k2 : Int} (h : DeC w ad kd p lv a A n c why W1 U1 X1 lw fr lev t W U X k0 k1 k2) (hb : Below w.heap.size w w') : DeC w' ad kd p lv a A n c why W1 U1 X1 lw fr lev t W U X k0 k1 k2 := by
  obtain ⟨e0, e1, e2, e3, e4, e5, e6, e7, e8, e9, e10, e11, e12, e13, e14, e15, e16, e17, e18⟩ := h
  exact ⟨cell_same hb e0, cell_same hb e1, cell_same hb e2, cell_same hb e3, cell_same hb e4, cell_same hb e5, cell_same hb e6, cell_same hb e7, cell_same hb e8, cell_same hb e9, cell_same hb e10, cell_same hb e11, cell_same hb e12, cell_same hb e13, cell_same hb e14, cell_same hb e15, cell_same hb e16, cell_same hb e17, cell_same hb e18⟩

def doY (R : Nat) (L : Ls) (y : De) : Ls := doL R L y.kd y.p y.lv y.a y.T y.W y.U y.X y.k0 y.k1 y.k2
def playP (R : Nat) (ds : List De) : Nat → Ls
  | 0 => noL
  | k + 1 => doY R (playP R ds k) (ds.getD k zDe)
def mostD (ds : List De) : Nat := min ds.length 80

theorem steps_off {w : World} {G : Nat → Prop} {A : Option Addr} {n c : Nat} {T : List Stp} (h : StepsIn w (.slice A n c) T) (hG : ∀ i, G i → w.heap.size ≤ i) : ∀ ad, A = some ad → 0 < n → ¬ G ad.block := fun ad hA hn hg => by
  obtain ⟨A', c', hv, hc⟩ := h
  simp at hv
  obtain ⟨ad', hA', c0, _⟩ := hc 0 (by omega)
  rw [← hv.1, hA] at hA'
  obtain rfl : ad = ad' := Option.some.inj hA'
  have hb := World.block_lt_of_cell? _ _ c0
  rw [add_block] at hb
  have := hG _ hg
  omega
theorem neqPlaceR (l t : Int) (W U X : Bool) (w : World) : (binOp .neq 49 (.agg #[.int .i64 l, .int .u64 t, .bool W, .bool U, .bool X]) (.agg #[.int .i64 l, .int .u64 t, .bool W, .bool U, .bool X])).run Tryd.prog w = .ok (.bool false) w := by
  have hs : Tryd.prog.stoodInHeld 49 = false := by kernel_rfl
  have hs2 : Tryd.prog.stoodInHeld 47 = false := by kernel_rfl
  simp only [binOp]
  simp [Op.equal, Op.maxDepth, run_equalIn_struct w 9999 49 _ _ (by simp [Program.fieldsOf, Tryd.underlying49]) hs, Program.fieldsOf, Tryd.underlying49, Op.eqFields, go_sem]

section
variable {w wr w2 : World} {G G' : Nat → Prop} {P P' : Thing} {bs : List BoxD} {rs : List RowD} {v0 v1 v2 : Value} {L : Ls}
/-- do has answered: its object, its rows -/
theorem Has.does (h : Has w wr (fun _ => False) [⟨P, G⟩] bs rs) (g : Has wr w2 G [⟨P', G'⟩] [] [rowP v0 (L 0), rowP v1 (L 1), rowP v2 (L 2)]) : Has w w2 (fun _ => False) [⟨P', G'⟩] bs [rowP v0 (L 0), rowP v1 (L 1), rowP v2 (L 2)] := by
  have k := h.call (P' := P') (G' := G') (ns := []) 0 rfl (g.pick [] [])
  exact ⟨k.obj, k.apart, ⟨k.hold.box, g.hold.row, k.hold.once, k.hold.lt⟩, k.low, k.turn⟩
end
theorem own_len3 {w : World} {M : List Pr} {A : Option Addr} {n c : Nat} (h : PairsOwn w 0 (.slice A n c) M) : n = M.length := by
  obtain ⟨A', c', e⟩ := h.form
  simp at e
  exact e.2.1
theorem len_out (L : Ls) : lenF L 1 = 0 ∧ lenF L 5 = 0 := ⟨rfl, rfl⟩
end Go.Proofs.YtiihhlmddmicjaaDoor
