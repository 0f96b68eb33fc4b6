/- mem.written: the numbers of the pages of both memories, rising. -/
import Derived.Test.YtfakfmefjfemhaaSd
import Derived.Test.YtfakfmefjfemhaaSi
import Derived.Test.YtfakfmefjfemhaaKp
import Derived.Test.YtfakfmefjfemhaaDp
import Derived.Deep.RegionHeld3
namespace Go.Proofs.Ytfakfmefjfemhaa
set_option linter.unusedVariables false
set_option linter.unusedSimpArgs false
open Go.ChangeShapes Go.WideShapes Go.ChangeAt Go.RowKit Go.Joins

/-- block B is a variable that holds the map mb -/
def KeyBox (W : World) (B mb : Nat) : Prop := W.heap[B]? = some (.cells #[.map (some mb)] 64 (0, 0))

abbrev RegK (w w' : World) (m m' mb mb' : Nat) : Prop := w'.cell? ⟨m, 1, none⟩ = some (.map (some mb)) ∧ w'.cell? ⟨m', 1, none⟩ = some (.map (some mb')) ∧ Kept w w'

section
variable {w w1 w2 w3 w4 : World} {m m' mb mb' : Nat}
theorem regk_step (h : RegK w w1 m m' mb mb') (hb : Below w.heap.size w1 w2) (hm : m < w.heap.size) (hm' : m' < w.heap.size) : RegK w w2 m m' mb mb' :=
  ⟨(hb.cell (p := ⟨m, 1, none⟩) hm).trans h.1, (hb.cell (p := ⟨m', 1, none⟩) hm').trans h.2.1, Below.trans h.2.2 hb⟩

theorem Lst.keptL {W W' : World} {B : Nat} {v : Value} {zs : List Int} (h : Lst W B v zs) (hk : Kept W W') : Lst W' B v zs := by
  refine World.ownsRow.kept h (row := none) ⟨hk.os, hk.tape, hk.output, Below.size hk, fun k hl _ => Below.block hk k hl⟩ ?_
  cases v.ownBlock <;> simp

theorem ownsMap_kept {W W' : World} {b n : Nat} {D : Dw} (h : W.ownsMap Try.prog 30 ptrElem b n D) (hk : Kept W W') : W'.ownsMap Try.prog 30 ptrElem b n D := by
  have hbl := h.lt
  obtain ⟨es, clock, hb, Ft, hs, hD⟩ := h
  exact ⟨es, clock, (Below.block hk b hbl).trans hb, Ft, hs, hD⟩

theorem keys_reg (h : RegK w w1 m m' mb mb') (k : Nat) :
    Calls Try.prog 51 #[.map (some k)] w1 fun e w2 => ∃ B, e = .returned (.func (.func 58) #[] #[.pointer (some ⟨B, 0, none⟩)]) ∧ Hid (KeyBox w2 B k) ∧ Hid (Kept w1 w2) ∧ RegK w w2 m m' mb mb' := by
  refine (keys_any w1 (some k)).mono fun e w2 ⟨he, hw⟩ => ?_
  subst hw
  have hk : Kept w1 (w1.alloc (.cells #[.map (some k)] 64)) := (Below.refl _ _).alloc (Nat.le_refl _) _
  exact ⟨_, he, Lib.hid (Deep.blk_alloc_new _ _), Lib.hid hk, (Below.cell hk (cell_lt h.1)).trans h.1, (Below.cell hk (cell_lt h.2.1)).trans h.2.1, Kept.step hk h.2.2⟩

theorem collect_reg {B k n : Nat} {D : Dw} (hm : m < w.heap.size) (hm' : m' < w.heap.size) (hown : w.ownsMap Try.prog 30 ptrElem k n D) (hn : n ≤ 1000000) (h : RegK w w2 m m' mb mb') (hB : Hid (KeyBox w2 B k)) :
    Calls Try.prog 50 #[.func (.func 58) #[] #[.pointer (some ⟨B, 0, none⟩)]] w2 fun e w3 => ∃ A c ks, e = .returned (.slice A ks.length c) ∧ Hid (KeyList D ks ∧ ∀ W, Kept w3 W → Lst W w.heap.size (.slice A ks.length c) ks) ∧ RegK w w3 m m' mb mb' := by
  refine (collect_any w2 w.heap.size B k n D (Below.size h.2.2) (lt_of_block hB.out) (cell_of_one hB.out) (ownsMap_kept hown h.2.2) hn).mono fun e w3 ⟨v, ks, he, h1, h2, h3⟩ => ?_
  obtain ⟨A, c, rfl⟩ := Lst.len h2
  exact ⟨A, c, ks, he, Lib.hid ⟨h1, fun W hW => Lst.keptL h2 hW⟩, regk_step h h3 hm hm'⟩

theorem app_reg {B k n c : Nat} {D D' : Dw} {A : Option Addr} {ks : List Int} (hm : m < w.heap.size) (hm' : m' < w.heap.size) (hown : w.ownsMap Try.prog 30 ptrElem k n D') (hn : n ≤ 100000) (h : RegK w w4 m m' mb mb') (hC : Hid (KeyList D ks ∧ ∀ W, Kept w3 W → Lst W w.heap.size (.slice A ks.length c) ks)) (hk : Hid (Kept w3 w4)) (hl : ∀ ks, KeyList D ks → ks.length ≤ 1000) (hB : Hid (KeyBox w4 B k)) :
    Calls Try.prog 49 #[.slice A ks.length c, .func (.func 58) #[] #[.pointer (some ⟨B, 0, none⟩)]] w4 fun e w5 => ∃ A c zs, e = .returned (.slice A zs.length c) ∧ Hid (∃ k1 k2, zs = k1 ++ k2 ∧ KeyList D k1 ∧ KeyList D' k2) ∧ Hid (Lst w5 w.heap.size (.slice A zs.length c) zs) ∧ RegK w w5 m m' mb mb' := by
  obtain ⟨c1, c2⟩ := hC.out
  have := hl ks c1
  refine (appendSeq_any w4 w.heap.size B k n D' (.slice A ks.length c) ks (Below.size h.2.2) (lt_of_block hB.out) (cell_of_one hB.out) (ownsMap_kept hown h.2.2) (c2 _ hk.out) (by omega)).mono fun e w5 ⟨v, ks2, he, h1, h2, h3⟩ => ?_
  obtain ⟨A2, cc, rfl⟩ := Lst.len (zs := ks ++ ks2) h2
  exact ⟨A2, cc, ks ++ ks2, he, Lib.hid ⟨ks, ks2, rfl, c1, h1⟩, Lib.hid h2, regk_step h h3 hm hm'⟩
end

set_option maxRecDepth 100000 in
set_option maxHeartbeats 4000000 in
theorem written_any (w : World) {m m' mb mb' n n' : Nat} {M M' : Int} {f f' : Int → Int} {tr tr' : List Int} {v v' : Value} {D D' : Dw} (ha : Mm w m M f tr n mb v D) (hb : Mm w m' M' f' tr' n' mb' v' D') (hn : n ≤ 100000) (hn' : n' ≤ 100000)
    (hl : ∀ ks, KeyList D ks → ks.length ≤ 16) (hl' : ∀ ks, KeyList D' ks → ks.length ≤ 16) :
    Calls Try.prog 41 #[.pointer (some ⟨m, 0, none⟩), .pointer (some ⟨m', 0, none⟩)] w fun e w' => ∃ A c ps, e = .returned (.slice A ps.length c) ∧ ps.Pairwise (· < ·) ∧ (∀ x, x ∈ ps ↔ Maps.has D (.int .u64 x) = true ∨ Maps.has D' (.int .u64 x) = true) ∧ Lst w' w.heap.size (.slice A ps.length c) ps ∧ Below w.heap.size w w' := by
  have hm := lt_of_block ha.here
  have hm' := lt_of_block hb.here
  have c1 : w.cell? ⟨m, 1, none⟩ = some (.map (some mb)) := by simp [World.cell?, ha.here]
  have c2 : w.cell? ⟨m', 1, none⟩ = some (.map (some mb')) := by simp [World.cell?, hb.here]
  have HA := Lib.hid ha.pages
  have HB := Lib.hid hb.pages
  have HL := Lib.hid hl
  have HL2 := Lib.hid hl'
  clear ha hb hl hl'
  have HR : RegK w w.drew m m' mb mb' := ⟨c1, c2, Kept.drew0 _⟩
  go_enter Try.func41, Try.ntmps41
  go_wp2
  go_region_held3 (fun w' => w'.cell? ⟨m, 1, none⟩ = some (.map (some mb)) ∧ w'.cell? ⟨m', 1, none⟩ = some (.map (some mb')) ∧ Kept w w')
    (first | assumption | exact HR)
    (first | (go_at_call 51; refine (keys_reg (by assumption) _).mono ?_; rintro e w2 ⟨B, rfl, HB1, HK1, hH2⟩) | (go_at_call 50; refine (collect_reg hm hm' HA.out (by omega) (by assumption) (by assumption)).mono ?_; rintro e w3 ⟨A, c, ks, rfl, HC, hH3⟩) | (go_at_call 49; refine (app_reg hm hm' HB.out hn' (by assumption) (by assumption) (by assumption) (fun ks hk => Nat.le_trans (HL.out ks hk) (by decide)) (by assumption)).mono ?_; rintro e w5 ⟨A5, c5, zs, rfl, HZ, HS, hH5⟩))
  have hz50 : zs.length ≤ 32 := by
    obtain ⟨k1, k2, e, h1, h2⟩ := HZ.out
    have := HL.out _ h1
    have := HL2.out _ h2
    rw [e, List.length_append]
    omega
  have HK5 := Lib.hid (show Below w.heap.size w w5 from hH5.2.2)
  clear hH5
  go_wp2_with (first | (go_at_call 52; refine (sort_lst _ w.heap.size _ zs HS.out HK5.out.size (by omega)).mono ?_; rintro e w6 ⟨rfl, zs', hp, hs, hL6, hb6⟩; have HP := Lib.hid hp; have HSo := Lib.hid hs; have HL6 := Lib.hid hL6; have HK6 := Lib.hid (HK5.out.trans hb6); have hlen : zs'.length < 50 := (by rw [HP.out.length_eq]; omega); clear hp hs hL6 hb6) | (go_at_call 53; refine (compact_lst _ w.heap.size _ zs' HL6.out HSo.out HK6.out.size hlen).mono ?_; rintro e w7 ⟨v7, ps, rfl, hp7, hm7, hL7, hb7⟩))
  obtain ⟨A7, c7, rfl⟩ := hL7.len
  go_ret
  refine ⟨A7, c7, ps, rfl, hp7, fun x => ?_, hL7, HK6.out.trans hb7⟩
  obtain ⟨k1, k2, e, h1, h2⟩ := HZ.out
  rw [hm7, HP.out.mem_iff, e, List.mem_append, h1.2, h2.2]

end Go.Proofs.Ytfakfmefjfemhaa
