/- (*Mem).page, and pages that are compared as a whole. -/
import Derived.Test.YtfakfmefjfemhaaMc
import Derived.ChangeKeysEq
import Derived.Laws.Rows
import Derived.Laws.StructEq
import Derived.BigQuiet
namespace Go.Proofs.Ytfakfmefjfemhaa
set_option linter.unusedVariables false
set_option linter.unusedSimpArgs false
open Go.ChangeShapes Go.WideShapes Go.ChangeAt Go.RowKit

set_option maxRecDepth 100000 in
theorem page_any {w : World} {m : Nat} {M : Int} {f : Int → Int} {tr : List Int} {n mb : Nat} {v : Value} {D : Dw} (h : Mm w m M f tr n mb v D) (k : Int) (hk : W64 k) :
    Calls Try.prog 42 #[.pointer (some ⟨m, 0, none⟩), .int .u64 k] w fun e w' => ∃ b : Nat, e = .returned (.pointer (some ⟨b, 0, none⟩)) ∧ w'.rowIs b 84 512 (fun i => .int .u64 (f (k * 512 + i))) ∧ Below w.heap.size w w' := by
  obtain ⟨c0, c1, c2, _⟩ := h.cells
  rcases h.page k with ⟨hn, hz⟩ | ⟨b, hb, hrow⟩
  · have hl := h.look_no hk hn
    have HZ := Lib.hid hz
    clear h c0 c2 hz hk
    go_enter Try.func42, Try.ntmps42
    go_wp2
    go_ret
    refine ⟨_, rfl, ⟨_, Deep.blk_alloc_new _ _, by rw [zeros_eq]; simp, fun i hi => ?_⟩, (Below.refl _ _).alloc (Nat.le_refl _) _⟩
    show _ = some (Value.int .u64 (f (k * 512 + i)))
    rw [zeros_eq, HZ.out i hi]; simp [hi]
  · have hl := h.look_yes hk hb
    have HR := Lib.hid hrow
    clear h c0 c2 hrow hk
    go_enter Try.func42, Try.ntmps42
    go_wp2
    go_ret
    exact ⟨b, rfl, HR.out, Below.refl _ _⟩

theorem pageInfo : (Try.prog.info? 84).map (·.size) = some 512 := by kernel_rfl
theorem cells64 : Try.prog.cellsOf 30 = 1 := by kernel_rfl
theorem plain64 : Try.prog.plainKey 30 = true := by kernel_rfl
theorem pageGuard : Try.prog.eqGuardType Try.prog.depth 84 = false := by kernel_rfl

theorem row_load {w : World} {b : Nat} {p : Nat → Value} (h : w.rowIs b 84 512 p) : ∃ cs : Array Value, cs.size = 512 ∧ (∀ i, i < 512 → cs[i]? = some (p i)) ∧ w.heap[b]? = some (.cells cs 84 (0, 0)) ∧ ∀ k, (loadVar 84 ⟨b, 0, none⟩).run Try.prog (w.drewN k) = .ok (.agg cs) (w.drewN k) := by
  obtain ⟨cs, h1, h2, h3⟩ := h
  exact ⟨cs, h2, h3, h1, fun k => run_loadVar_row (w.drewN k) b _ _ cs _ _ h1 Try.underlying84 rfl (by rw [h2]; exact pageInfo)⟩

theorem eqItems64 (w : World) (d : Nat) (xs ys : Array Value) (p q : Nat → Int) : ∀ is : List Nat, (∀ i ∈ is, xs[i]? = some (.int .u64 (p i)) ∧ ys[i]? = some (.int .u64 (q i))) →
    (Op.eqItems (d + 1) 30 (Try.prog.cellsOf 30) xs ys is).run Try.prog w = .ok (is.all fun i => p i == q i) w
  | [], _ => by simp [Op.eqItems]
  | i :: is, h => by
    obtain ⟨h1, h2⟩ := h i (by simp)
    have ih := eqItems64 w d xs ys p q is (fun j hj => h j (by simp [hj]))
    rw [cells64] at ih ⊢
    have p1 := run_part_plain w (P := Try.prog) (e := 30) plain64 (off := i * 1) (by rw [Nat.mul_one]; exact h1)
    have p2 := run_part_plain w (P := Try.prog) (e := 30) plain64 (off := i * 1) (by rw [Nat.mul_one]; exact h2)
    have p3 := run_equalIn_int (P := Try.prog) w d 30 .u64 .u64 (p i) (q i) Try.underlying30
    simp only [Op.eqItems, Sem.run_bind, p1, p2, p3, Result.andThen_ok]
    cases e : (p i == q i)
    · simp [e]
    · simp only [Bool.not_true, Bool.false_eq_true, if_false, ih, List.all_cons, e, Bool.true_and]

/-- two pages with the same words -/
def sameP (p q : Nat → Int) : Bool := (List.range 512).all fun i => p i == q i

theorem sameP_yes {p q : Nat → Int} (h : sameP p q = true) : ∀ i, i < 512 → p i = q i := fun i hi => by
  have := List.all_eq_true.1 h i (List.mem_range.2 hi)
  simpa using this

theorem page_eql (w : World) (xs ys : Array Value) (p q : Nat → Int) (hx : ∀ i, i < 512 → xs[i]? = some (.int .u64 (p i))) (hy : ∀ i, i < 512 → ys[i]? = some (.int .u64 (q i))) :
    (binOp .eql 84 (.agg xs) (.agg ys)).run Try.prog w = .ok (.bool (sameP p q)) w := by
  obtain ⟨i0, hi⟩ := info_of_underlying Try.underlying30
  rw [run_eql_struct, run_equalIn_array w 9999 xs ys Try.underlying84 hi, eqItems64 w 9998 xs ys p q _ (fun i hi => ⟨hx i (List.mem_range.1 hi), hy i (List.mem_range.1 hi)⟩)]
  rfl

section
variable {P : Program} {C : World → Prop} {o : Oper} {a : Act} {K : Act → Prop}
theorem quiet_whole (ty : TypeId) (x : Operand) (ho : o.op = .load ty x) (p : Addr) (hx : a.eval x = .pointer (some p)) (v : Value) (hl : ∀ w, C w → (loadVar ty p).run P w = .ok v w) (hk : K (a.put o.dst v)) : o.quiet P a C K :=
  ⟨v, fun w hw => by
    unfold Oper.quietAt execOp
    simp only [ho, hx, Instr.loadAt, Instr.sureAddr, Sem.run_bind, Sem.run_pure, Result.andThen_ok, hl w hw]
    exact ⟨rfl, rfl⟩, hk⟩
theorem quiet_alike (t rt : TypeId) (x y : Operand) (ho : o.op = .binOp .eql t x y rt) (xs ys : Array Value) (hx : a.eval x = .agg xs) (hy : a.eval y = .agg ys) (hg : P.eqGuardType P.depth t = false) (r : Bool) (hl : ∀ w, (binOp .eql t (.agg xs) (.agg ys)).run P w = .ok (.bool r) w) (hk : K (a.put o.dst (.bool r))) : o.quiet P a C K :=
  ⟨.bool r, fun w hw => by
    unfold Oper.quietAt execOp
    simp only [ho, hx, hy, Sem.run_bind, run_eqGuard_agg w .eql t x y xs ys hg, Result.andThen_ok, hl w, Sem.run_pure]
    exact ⟨rfl, rfl⟩, hk⟩
end

end Go.Proofs.Ytfakfmefjfemhaa
