/- Several texts of ours in one: Jh, Jk, Jl. -/
import Derived.Test.YtiihhlmddmicjaaDoorGHsJgJi
/- Layer 11: a walk of a memory, as an object's turn; built of the law's own. -/
namespace Go.Proofs.YtiihhlmddmicjaaDoor
set_option linter.unusedVariables false
set_option linter.unusedSimpArgs false
open Go.ChangeShapes Go.WideShapes Go.ChangeAt Go.RowKit Go.Joins

set_option maxRecDepth 100000 in
theorem built11_any (w : World) (A : Option Addr) (c : Nat) (ds : List (Int × Int × Int × Int)) (hl : ds.length ≤ maxLen) (hd : PutsIn w A ds) (hok : PutsOk ds) :
    Calls Tryd.prog 17 #[.slice A ds.length c] w fun e w' => e = .returned (.pointer (some ⟨w.heap.size + 1, 0, none⟩)) ∧ Mem w' (From w.heap.size) (w.heap.size + 1) 16 (putSt ds (mostP ds)) [] 100 ∧ Below w.heap.size w w' := by
  unfold maxLen at hl
  go_enter Tryd.func17, Tryd.ntmps17
  go_wp2_with (go_at_call 44; refine (newMem_any 16 _ ⟨by decide, by decide⟩).mono ?_; rintro e w1 ⟨rfl, hM1, hB1⟩)
  go_loopw [4] (fun i wr => ∃ k : Nat, k ≤ mostP ds ∧ i = .int .i64 k ∧ Mem wr (From w.heap.size) (w.heap.size + 1) 16 (putSt ds k) [] k ∧ Below w.heap.size w wr) (fun i _ => (100 - intOf i).toNat)
  case atStart => exact ⟨0, Nat.zero_le _, rfl, hM1, hB1⟩
  case round =>
    obtain ⟨k, hk, rfl, hM, hB⟩ := hrel
    have hm0 : mostP ds ≤ 100 := by unfold mostP; omega
    have hm1 : mostP ds ≤ ds.length := by unfold mostP; omega
    by_cases hlt : k < mostP ds
    · obtain ⟨ad, rfl, c0, c1, c2, c3⟩ := puts_below hd hB k (by omega)
      obtain ⟨⟨s0, s1⟩, ⟨f0, f1⟩, l0, l1⟩ := hok k (by omega)
      have hF : putSt ds (k + 1) = storeS 16 (putSt ds k) (atS (ds.getD k (0, 0, 0, 0)).1) (atX (ds.getD k (0, 0, 0, 0)).2.1 (ds.getD k (0, 0, 0, 0)).2.2.1 (ds.getD k (0, 0, 0, 0)).2.2.2) := rfl
      have c1' : wr.cell? ⟨(ad.add (k * 4)).block, (ad.add (k * 4)).off + 1, none⟩ = some (.int .u16 (ds.getD k (0, 0, 0, 0)).2.1) := c1
      have c2' : wr.cell? ⟨(ad.add (k * 4)).block, (ad.add (k * 4)).off + 2, none⟩ = some (.int .u8 (ds.getD k (0, 0, 0, 0)).2.2.1) := c2
      have c3' : wr.cell? ⟨(ad.add (k * 4)).block, (ad.add (k * 4)).off + 3, none⟩ = some (.int .u64 (ds.getD k (0, 0, 0, 0)).2.2.2) := c3
      have hks : k < ds.length := by omega
      have h100 : (k : Int) < 100 := by omega
      generalize (ds.getD k (0, 0, 0, 0)).1 = sl at *
      generalize (ds.getD k (0, 0, 0, 0)).2.1 = fr at *
      generalize (ds.getD k (0, 0, 0, 0)).2.2.1 = fl at *
      generalize (ds.getD k (0, 0, 0, 0)).2.2.2 = mo at *
      have HF := Lib.hid hF
      have CA := fun w' => at_any sl fr fl mo w' s0 s1 f0 f1 l0 l1
      clear hF c1 c2 c3 hd hok s0 s1 f0 f1 l0 l1
      go_wp2_with (first | (go_at_call 45; refine (CA _).mono ?_; rintro e w2 ⟨rfl, hB2⟩; have hM2 := hM.kept hB2) | (go_at_call 46; refine (bstore hM2 (by omega) _ _ (atS_w _) (atX_w _ _ _)).mono ?_; rintro e w3 ⟨rfl, hM3, hB3⟩))
      rw [← HF.out] at hM3
      have RB := (hB.trans (hB2.mono hB.size)).trans hB3
      go_roundw
      case rel => exact ⟨k + 1, by omega, by go_num, hM3, RB⟩
      case measure => simp [intOf]; omega
    · have e : k = mostP ds := by omega
      by_cases h1 : k < ds.length
      · have h2 : k = 100 := by unfold mostP at e; omega
        subst h2
        go_wp2
        go_ret
        exact ⟨rfl, by rw [e] at hM; rw [← e]; rw [← e] at hM; exact hM, hB⟩
      · have h2 : ds.length ≤ k := by omega
        clear hd hok
        go_wp2
        go_ret
        exact ⟨rfl, by rw [← e]; exact hM.more (by omega), hB⟩


theorem walk_few (f : Int → Int) (hw : ∀ s, W64 (f s)) (a : Int) (nxe : Bool) (lev t : Int) (W U X : Bool) : (walkZ 16 f a nxe lev t W U X).steps.length ≤ 4 ∧ ∀ k, k < (walkZ 16 f a nxe lev t W U X).steps.length → W64 (stepAt (walkZ 16 f a nxe lev t W U X).steps k).2.2 := by
  by_cases h : 1 ≤ lev ∧ lev ≤ 4
  · have hs := walk_snd f hw a nxe lev.toNat (by omega) t W U X
    rw [show ((lev.toNat : Nat) : Int) = lev by omega] at hs
    have := hs.len
    refine ⟨by omega, fun k hk => ?_⟩
    obtain ⟨h1, h2, h3⟩ := hs.at_ k hk
    rw [h2]; exact hw _
  · rw [walk_off h]
    exact ⟨by simp [offP], fun k hk => absurd hk (by simp [offP])⟩
theorem off_block' {n c k : Nat} {A : Option Addr} {G : Nat → Prop} (hn : ∀ i, (Value.slice A n c).ownBlock = some i → ¬ G i) : ∀ ad, A = some ad → 0 < k → ¬ G ad.block := fun ad h _ => hn _ (by rw [h]; rfl)

/-- built, as an object of the law's own -/
theorem builtH_any (w : World) (A : Option Addr) (c : Nat) (ds : List (Int × Int × Int × Int)) (hl : ds.length ≤ maxLen) (hd : PutsIn w A ds) (hok : PutsOk ds) :
    Calls Tryd.prog 17 #[.slice A ds.length c] w fun e w' => ∃ m G, e = .returned (ptrV m) ∧ Has w w' (fun _ => False) [⟨memT m 16 (putSt ds (mostP ds)) [] 100, G⟩] [] [] := by
  refine (built11_any w A c ds hl hd hok).mono ?_
  rintro e w' ⟨rfl, hM, hB⟩
  exact ⟨_, _, rfl, (Has.start0 w _).made (firm_mem _ _ _ _ _) hM hB⟩

section
variable {w wr : World} {F G : Nat → Prop} {os : List ObjT} {bs : List BoxD} {rs : List RowD} {m k : Nat} {f : Int → Int} {tr : List Int} {n : Nat}
/-- a walk through the memory at a place: it, and the steps that it answers -/
theorem Has.walk (h : Has w wr F os bs rs) (hs : Shifts w) (h0 : ¬ F 0) (k : Nat) (hk : os[k]? = some ⟨memT m 16 f tr n, G⟩) (hn : n < 900000) (lev t a : Int) (W U X nxe : Bool) (ht : W64 t) (ha : W64 a) (P : Pth) (hP : walkZ 16 f a nxe lev t W U X = P) (l : Nat) (hl : P.steps.length = l) :
    Calls Tryd.prog 20 #[.pointer (some ⟨m, 0, none⟩), placeV lev t W U X, .int .u64 a, .bool nxe] wr fun e w' =>
      ∃ A c G' tr', e = .returned (pathV (.slice A l c) P.why P.W P.U P.X P.lev P.fr) ∧ Has w w' F (os.set k ⟨memT m 16 f tr' (n + 5), G'⟩) bs (⟨65, 3, .slice A l c, l, stepCells P.steps⟩ :: rs) := by
  subst hP
  refine (from_any (h.the k hk) hn (h.no0 hs h0 k hk) (h.shifts hs h0) lev t a W U X nxe ht ha).mono ?_
  rintro e w' ⟨v, G', rfl, hW, hS, hv, _⟩
  obtain ⟨A, c, rfl⟩ := hS.form
  rw [hl] at hS hv
  refine ⟨A, c, G', tr ++ slotsP (walkZ 16 f a nxe lev t W U X).steps, by rw [hl], ?_⟩
  have h1 := h.call k hk (Has.walked hW)
  rw [List.append_nil] at h1
  refine h1.got (B := wr.heap.size + 3) (by unfold StepsOwn at hS; rw [hl] at hS; exact hS) fun i hi ⟨o, ho, hg⟩ => ?_
  have hkl : k < os.length := by
    rcases Nat.lt_or_ge k os.length with h1 | h1
    · exact h1
    · rw [List.getElem?_eq_none h1] at hk; cases hk
  obtain ⟨j, hj, hjo⟩ := List.mem_iff_getElem.1 ho
  have hj' : j < os.length := by simpa using hj
  by_cases e : k = j
  · subst e
    rw [List.getElem_set_self] at hjo
    subst hjo
    exact hv i hi hg
  · rw [List.getElem_set_ne e] at hjo
    subst hjo
    have h2 := ((h.obj _ (List.getElem_mem hj')).2.2 i hg).1
    have h3 := (hS.lt hi).1
    omega
theorem own_steps {w : World} {B l c : Nat} {A : Option Addr} {S : List Stp} (h : w.ownsRow B 65 3 (.slice A l c) l (stepCells S)) (hl : S.length = l) : StepsIn w (.slice A l c) S := by
  subst hl; exact StepsOwn.into (base := B) h
end
end Go.Proofs.YtiihhlmddmicjaaDoor
/- Layer 11: warm, a psc behind walks to some addresses. (Laid by tools/gen_jk.py.) -/
namespace Go.Proofs.YtiihhlmddmicjaaDoor
set_option linter.unusedVariables false
set_option linter.unusedSimpArgs false
open Go.ChangeShapes Go.WideShapes Go.ChangeAt Go.RowKit Go.Joins

/-- the slice's numbers -/
def NsIn (w : World) (A : Option Addr) (ns : List Int) : Prop := ∀ k, k < ns.length → ∃ ad, A = some ad ∧ w.cell? (ad.add k) = some (.int .u32 (ns.getD k 0))
def NsOk (ns : List Int) : Prop := ∀ k, 0 ≤ ns.getD k 0 ∧ ns.getD k 0 < 4294967296
theorem ns_turn {w w' : World} {F : Nat → Prop} {A : Option Addr} {ns : List Int} (h : NsIn w A ns) (ht : Turn F w w') (hF : ∀ ad, A = some ad → 0 < ns.length → ¬ F ad.block) : NsIn w' A ns := fun k hk => by
  obtain ⟨ad, hA, c0⟩ := h k hk
  have hb : (ad.add k).block < w.heap.size := World.block_lt_of_cell? _ _ c0
  refine ⟨ad, hA, (World.cell?_of_block (a := ad.add k) (ht.block _ hb ?_)).trans c0⟩
  rw [add_block]; exact hF ad hA (by omega)
/-- how many addresses are walked to -/
def mostN (ns : List Int) : Nat := min ns.length 20
theorem deepV_some (l t : Int) (W U X d : Bool) (m : Int) : deepV (some (l, t, W, U, X, d, m)) = .tuple #[placeV l t W U X, .bool true] := rfl
theorem deepV_none : deepV none = .tuple #[placeV 0 0 false false false, .bool false] := rfl
theorem i64_1 : I64 1 := ⟨by decide, by decide⟩
theorem i64_0 : I64 0 := ⟨by decide, by decide⟩
theorem i64_u32 {z : Int} (h : 0 ≤ z ∧ z < 4294967296) : I64 z := by unfold I64; omega

theorem warm_more {w w' : World} {F Gm Gp : Nat → Prop} {m q R : Nat} {f : Int → Int} {tr : List Int} {n n' : Nat} {L : Ls} (hn : n ≤ n') (h : Has w w' F [⟨memT m 16 f tr n, Gm⟩, ⟨pscT q R L, Gp⟩] [] []) : Has w w' F [⟨memT m 16 f tr n', Gm⟩, ⟨pscT q R L, Gp⟩] [] [] :=
  h.same2 0 rfl (firm_mem _ _ _ _ _) (Mem.more (h.the 0 rfl) hn)

set_option maxRecDepth 100000 in
set_option maxHeartbeats 6400000 in
theorem warm_any {w : World} {F : Nat → Prop} {m : Nat} {f : Int → Int} {tr : List Int} {n : Nat} (h : Mem w F m 16 f tr n) (hn : n ≤ 10000) (hs : Shifts w) (h0 : ¬ F 0) (z0 : Int) (A : Option Addr) (ns : List Int) (c : Nat) (hl : ns.length ≤ maxLen) (hd : NsIn w A ns) (hA : ∀ ad, A = some ad → 0 < ns.length → ¬ F ad.block) (hok : NsOk ns) :
    Calls Tryd.prog 18 #[.pointer (some ⟨m, 0, none⟩), .int .i64 z0, .slice A ns.length c] w fun e w' =>
      ∃ q, e = .returned (ptrV q) ∧ ∃ tr' Gm Gp, Has w w' F [⟨memT m 16 f tr' (n + 100), Gm⟩, ⟨pscT q (roomF z0) (warmN f (roomF z0) ns (mostN ns)), Gp⟩] [] [] := by
  unfold maxLen at hl
  have HS := Lib.hid hs
  have HF := Lib.hid h0
  have HD := Lib.hid hd
  have HOF := Lib.hid hA
  have HOK := Lib.hid hok
  have HW := Lib.hid (fun s => h.words s)
  obtain ⟨R, hR⟩ : ∃ R, roomF z0 = R := ⟨_, rfl⟩
  have HR := Lib.hid hR
  rw [hR]
  obtain ⟨N, hN⟩ : ∃ N, ns.length = N := ⟨_, rfl⟩
  have HN := Lib.hid hN
  have hm : mostN ns ≤ 20 ∧ mostN ns ≤ N ∧ (mostN ns = 20 ∨ mostN ns = N) := by unfold mostN; omega
  rw [hN] at hl ⊢
  obtain ⟨mn, hmn⟩ : ∃ m, mostN ns = m := ⟨_, rfl⟩
  rw [hmn] at hm ⊢
  obtain ⟨hm0, hm1, hm2⟩ := hm
  have HM2 := Lib.hid hm2
  clear hm2
  have H0 := Lib.hid (Has.start (firm_mem m 16 f tr n) h)
  clear h hs h0 hd hA hok hR hN hmn
  go_enter Tryd.func18, Tryd.ntmps18
  go_wp2_with (go_at_call 10; refine (newP_any z0 _).mono ?_; rw [HR.out]; rintro e w1 ⟨q, Gp, rfl, hH⟩; have H1 := Lib.hid (H0.out.join hH); clear hH H0)
  go_loopw [8] (fun i wr => ∃ (k : Nat) (tr' : List Int) (Gm Gp : Nat → Prop), k ≤ mn ∧ i = .int .i64 k ∧ Hid (Has w wr F [⟨memT m 16 f tr' (n + 5 * k), Gm⟩, ⟨pscT q R (warmN f R ns k), Gp⟩] [] [])) (fun i _ => (20 - intOf i).toNat)
  case atStart => exact ⟨0, tr, _, _, by omega, rfl, H1⟩
  case round =>
    obtain ⟨k, tr', Gm, Gp', hk, rfl, HL⟩ := hrel
    clear H1
    by_cases hlt : k < mn
    · have hlt2 := hlt
      have hkN : k < N := by omega
      have h20 : (k : Int) < 20 := by omega
      have hkn : k < ns.length := by rw [HN.out]; exact hkN
      obtain ⟨ad, hAd, c0⟩ := ns_turn HD.out HL.out.turn HOF.out k hkn
      subst hAd
      have hz := HOK.out k
      have HNX : Hid (warmN f R ns (k + 1) = _) := Lib.hid (by conv => lhs; unfold warmN)
      have hwz := warm_start (warm_warm f R ns k) (nearF (ns.getD k 0)) (l := (startF (deepK (warmN f R ns k) 1 (nearF (ns.getD k 0)))).1) (t := (startF (deepK (warmN f R ns k) 1 (nearF (ns.getD k 0)))).2.1) (W := (startF (deepK (warmN f R ns k) 1 (nearF (ns.getD k 0)))).2.2.1) (U := (startF (deepK (warmN f R ns k) 1 (nearF (ns.getD k 0)))).2.2.2.1) (X := (startF (deepK (warmN f R ns k) 1 (nearF (ns.getD k 0)))).2.2.2.2) rfl
      obtain ⟨z, hze⟩ : ∃ z, ns.getD k 0 = z := ⟨_, rfl⟩
      have HZE := Lib.hid hze
      rw [hze] at c0 hz HNX hwz
      clear hze
      have HZ := Lib.hid hz
      have ez : IntKind.i64.wrap z = z := by rw [IntKind.wrap_i64]; omega
      have HAW := Lib.hid (near_w z)
      have HNE := Lib.hid fun w => near_any z w hz.1 hz.2
      clear hz
      generalize nearF z = a at *
      obtain ⟨o, ho⟩ : ∃ o, deepK (warmN f R ns k) 1 a = o := ⟨_, rfl⟩
      have HO := Lib.hid ho
      simp only [ho] at HNX hwz
      have HRC := Lib.hid hwz
      clear ho hwz
      generalize warmN f R ns k = L at *
      have hla : ad.block < wr.heap.size := by have := World.block_lt_of_cell? _ _ c0; rwa [add_block] at this
      cases o with
      | none =>
        obtain ⟨l, hl9⟩ : ∃ l : Int, (4 : Int) = l := ⟨_, rfl⟩
        obtain ⟨t, ht9⟩ : ∃ t : Int, tableF 0 = t := ⟨_, rfl⟩
        obtain ⟨W, hW9⟩ : ∃ W : Bool, true = W := ⟨_, rfl⟩
        obtain ⟨U, hU9⟩ : ∃ U : Bool, true = U := ⟨_, rfl⟩
        obtain ⟨X, hX9⟩ : ∃ X : Bool, true = X := ⟨_, rfl⟩
        have HTOP : Hid (∀ w, Calls Tryd.prog 21 #[.int .u64 0] w fun e w' => e = .returned (placeV l t W U X) ∧ Below w.heap.size w w') := Lib.hid fun w => by subst hl9 hW9 hU9 hX9; rw [← ht9]; exact top_any 0 w w0
        have hst : startF none = (l, t, W, U, X) := by subst hl9 hW9 hU9 hX9; rw [← ht9]; rfl
        rw [hst] at HNX HRC
        clear hst hl9 ht9 hW9 hU9 hX9
        go_upto_region 7 with (first | (go_at_call 19; refine (HNE.out _).mono ?_; rintro e _ ⟨rfl, rfl⟩) | (go_at_call 13; refine (deepP_any (HL.out.the 1 rfl) (HL.out.shifts HS.out HF.out) 1 a i64_1 HAW.out).mono ?_; rw [HO.out, deepV_none]; rintro e w2 ⟨rfl, hb2⟩; have H2 := Lib.hid (HL.out.quiet hb2); clear hb2 c0))
        generalize hw3 : w2.alloc _ = w3
        have H3 := Lib.hid ((H2.out.new (b := w2.heap.size) rfl #[.int .i64 0, .int .u64 0, .bool false, .bool false, .bool false] 41).world hw3)
        clear hw3 H2 HL HO
        generalize w2.heap.size = bt at *
        go_upto_region 9 with (go_at_call 21; refine (HTOP.out _).mono ?_; rintro e w4 ⟨rfl, hb4⟩; have H4 := Lib.hid (H3.out.quiet hb4); clear hb4; obtain ⟨s0, s1, s2, s3, s4⟩ := (H4.out.at_ 0 rfl).five; have g0 := (H4.out.at_ 0 rfl).fz 0; have g1 := (H4.out.at_ 0 rfl).fz 1; have g2 := (H4.out.at_ 0 rfl).fz 2; have g3 := (H4.out.at_ 0 rfl).fz 3; have g4 := (H4.out.at_ 0 rfl).fz 4)
        generalize hw9 : ((((w4.setCell _ _).setCell _ _).setCell _ _).setCell _ _).setCell _ _ = w9
        have HK9 : Hid (Has w w9 F _ [⟨bt, #[.int .i64 l, .int .u64 t, .bool W, .bool U, .bool X], 41⟩] []) := Lib.hid ((H4.out.put 0 rfl (turnB5 _ _ _ _ _ _ _) (setB5 (H4.out.at_ 0 rfl) _ _ _ _ _)).world hw9)
        clear hw9 H3 H4 s0 s1 s2 s3 s4 g0 g1 g2 g3 g4
        obtain ⟨P, hP⟩ : ∃ P, walkZ 16 f a true l t W U X = P := ⟨_, rfl⟩
        have HP := Lib.hid hP
        obtain ⟨p, hp⟩ : ∃ p, P.steps.length = p := ⟨_, rfl⟩
        have HPL := Lib.hid hp
        have HNY : Hid (warmN f R ns (k + 1) = fillK R 1 a (pkF z k 0) P.steps W U X L) := Lib.hid (by rw [← hP]; exact HNX.out)
        have HPF := Lib.hid (hP ▸ walk_few f HW.out a true l t W U X)
        have HCX : Hid (∀ (w' : World) (os : List ObjT) (bs : List BoxD), Turn F w w' → w'.cell? (ad.add k) = some (.int .u32 z)) := Lib.hid fun w' _ _ ht => by
          obtain ⟨ad', hA', c'⟩ := ns_turn HD.out ht HOF.out k hkn
          obtain rfl : ad = ad' := Option.some.inj hA'
          rwa [HZE.out] at c'
        clear hP hp
        refine wp_region_held_drew (S := fun w' => Blk w' bt #[.int .i64 l, .int .u64 t, .bool W, .bool U, .bool X] 41 ∧ w'.cell? (ad.add k) = some (.int .u32 z)) (by kernel_rfl) ⟨(HK9.out.quiet (Kept.drew0 w9)).at_ 0 rfl, HCX.out _ [] [] (HK9.out.quiet (Kept.drew0 w9)).turn⟩ (fun hHeld => ?_)
        have HK := Lib.hid (HK9.out.quiet (Kept.drew0 w9))
        clear HK9
        generalize w9.drew = v9 at *
        refine tk (v := ?_) 0 ?_ ?_
        rotate_left
        · intro w hSw
          go_simp
          (try with_reducible rfl)
        (try simp only [Act.put, List.setIfInBounds_toArray, List.set_cons_zero, List.set_cons_succ])
        refine tk (v := ?_) 1 ?_ ?_
        rotate_left
        · intro w hSw
          go_simp
          (try with_reducible rfl)
        (try simp only [Act.put, List.setIfInBounds_toArray, List.set_cons_zero, List.set_cons_succ])
        refine tk (v := ?_) 2 ?_ ?_
        rotate_left
        · intro w hSw
          go_simp
          (try with_reducible rfl)
        (try simp only [Act.put, List.setIfInBounds_toArray, List.set_cons_zero, List.set_cons_succ])
        refine tk (v := ?_) 3 ?_ ?_
        rotate_left
        · intro w hSw
          obtain ⟨s0, s1, s2, s3, s4⟩ := hSw.1.five
          go_simp
          (try with_reducible rfl)
        (try simp only [Act.put, List.setIfInBounds_toArray, List.set_cons_zero, List.set_cons_succ])
        refine tk (v := ?_) 4 ?_ ?_
        rotate_left
        · intro w hSw
          go_simp
          (try with_reducible rfl)
        (try simp only [Act.put, List.setIfInBounds_toArray, List.set_cons_zero, List.set_cons_succ])
        refine tk (v := ?_) 6 ?_ ?_
        rotate_left
        · intro w hSw
          obtain ⟨s0, s1, s2, s3, s4⟩ := hSw.1.five
          go_simp
          (try with_reducible rfl)
        (try simp only [Act.put, List.setIfInBounds_toArray, List.set_cons_zero, List.set_cons_succ])
        refine tk (v := ?_) 7 ?_ ?_
        rotate_left
        · intro w hSw
          go_simp
          (try with_reducible rfl)
        (try simp only [Act.put, List.setIfInBounds_toArray, List.set_cons_zero, List.set_cons_succ])
        refine tk (v := ?_) 8 ?_ ?_
        rotate_left
        · intro w hSw
          go_simp
          (try with_reducible rfl)
        (try simp only [Act.put, List.setIfInBounds_toArray, List.set_cons_zero, List.set_cons_succ])
        refine tk (v := ?_) 9 ?_ ?_
        rotate_left
        · intro w hSw
          go_simp
          (try with_reducible rfl)
        (try simp only [Act.put, List.setIfInBounds_toArray, List.set_cons_zero, List.set_cons_succ])
        refine tk (v := ?_) 10 ?_ ?_
        rotate_left
        · intro w hSw
          have c0 := hSw.2
          go_simp
          (try with_reducible rfl)
        (try simp only [Act.put, List.setIfInBounds_toArray, List.set_cons_zero, List.set_cons_succ])
        refine tk (v := ?_) 11 ?_ ?_
        rotate_left
        · intro w hSw
          go_simp
          (try with_reducible rfl)
        (try simp only [Act.put, List.setIfInBounds_toArray, List.set_cons_zero, List.set_cons_succ])
        refine tk (v := ?_) 12 ?_ ?_
        rotate_left
        · intro w hSw
          go_simp
          (try with_reducible rfl)
        (try simp only [Act.put, List.setIfInBounds_toArray, List.set_cons_zero, List.set_cons_succ])
        refine tk (v := ?_) 13 ?_ ?_
        rotate_left
        · intro w hSw
          go_simp
          (try with_reducible rfl)
        (try simp only [Act.put, List.setIfInBounds_toArray, List.set_cons_zero, List.set_cons_succ])
        refine wpAnyH_ready (rs := [5]) (by kernel_rfl) (by simp) ?_
        refine anyH_one rfl (fun K hK => ?_) ?_
        · go_simp
          refine (HK.out.walk HS.out HF.out 0 rfl (by omega) l t a W U X true (HRC.out.lev.2.2.1) HAW.out P HP.out p HPL.out).mono ?_
          rintro e u1 ⟨A1, c1, G1, tr1, rfl, hW⟩
          have HK1 := Lib.hid hW
          have CX1 : Hid (u1.cell? (ad.add k) = some (.int .u32 z)) := Lib.hid (HCX.out _ [] [] HK1.out.turn)
          clear hW
          refine hK.out _ _ (⟨HK1.out.at_ 0 rfl, CX1.out⟩) (fun hHeld => ?_)
          clear hK K
          (try simp only [Act.put, List.setIfInBounds_toArray, List.set_cons_zero, List.set_cons_succ])
          refine wpAnyH_ready (rs := [14]) (by kernel_rfl) (by simp) ?_
          refine anyH_one rfl (fun K hK => ?_) ?_
          · go_simp
            refine (fillP_any (HK1.out.the 1 rfl) (HK1.out.shifts HS.out HF.out) (HK1.out.no0 HS.out HF.out 1 rfl) 1 a i64_1 HAW.out A1 p c1 P.steps _ _ _ _ _ _ HPL.out (by have := HPF.out.1; have := HPL.out; omega) (own_steps (HK1.out.of_ 0 rfl) HPL.out) (off_block' fun i hi hg => HK1.out.off 0 rfl i hi ⟨_, List.mem_cons_of_mem _ (List.mem_cons_self ..), hg⟩) HPF.out.2 l t W U X z k 0 (i64_u32 HZ.out) (show I64 (k : Int) by unfold I64; omega) i64_0).mono ?_
            rintro e u2 ⟨rfl, hP, hT⟩
            have HK2 := Lib.hid (HK1.out.did 1 rfl (firm_psc _ _ _) hP hT)
            have CX2 : Hid (u2.cell? (ad.add k) = some (.int .u32 z)) := Lib.hid (HCX.out _ [] [] HK2.out.turn)
            clear hP hT
            refine hK.out _ _ (⟨HK2.out.at_ 0 rfl, CX2.out⟩) (fun hHeld => ?_)
            clear hK K
            (try simp only [Act.put, List.setIfInBounds_toArray, List.set_cons_zero, List.set_cons_succ])
            refine wpAnyH_done (by kernel_rfl) ?_ _
            have HK3 : Hid (Has w u2 F [⟨memT m 16 f tr1 (n + 5 * (k + 1)), G1⟩, ⟨pscT q R (warmN f R ns (k + 1)), fun i => Since Gp' u1 i ∧ i < u2.heap.size⟩] [] []) := Lib.hid (by
              rw [HNY.out, show n + 5 * (k + 1) = n + 5 * k + 5 by omega]
              exact HK2.out.pick [] [])
            clear hHeld HK1 HK2
            go_wp2
            go_roundw
            case rel => exact ⟨k + 1, tr1, _, _, by omega, by go_num, HK3⟩
            case measure => simp [intOf]; omega
          exact AllReadyH.nil
        exact AllReadyH.nil
      | some y =>
        obtain ⟨l, t, W, U, X, d, mm⟩ := y
        go_upto_region 7 with (first | (go_at_call 19; refine (HNE.out _).mono ?_; rintro e _ ⟨rfl, rfl⟩) | (go_at_call 13; refine (deepP_any (HL.out.the 1 rfl) (HL.out.shifts HS.out HF.out) 1 a i64_1 HAW.out).mono ?_; rw [HO.out, deepV_some]; rintro e w2 ⟨rfl, hb2⟩; have H2 := Lib.hid (HL.out.quiet hb2); clear hb2 c0))
        generalize hw9 : w2.alloc _ = w9
        have HK9 := Lib.hid ((H2.out.new (b := w2.heap.size) rfl #[.int .i64 l, .int .u64 t, .bool W, .bool U, .bool X] 41).world hw9)
        clear hw9 H2 HL HO
        generalize w2.heap.size = bt at *
        go_upto_region 9 with fail
        obtain ⟨P, hP⟩ : ∃ P, walkZ 16 f a true l t W U X = P := ⟨_, rfl⟩
        have HP := Lib.hid hP
        obtain ⟨p, hp⟩ : ∃ p, P.steps.length = p := ⟨_, rfl⟩
        have HPL := Lib.hid hp
        have HNY : Hid (warmN f R ns (k + 1) = fillK R 1 a (pkF z k 0) P.steps W U X L) := Lib.hid (by rw [← hP]; exact HNX.out)
        have HPF := Lib.hid (hP ▸ walk_few f HW.out a true l t W U X)
        have HCX : Hid (∀ (w' : World) (os : List ObjT) (bs : List BoxD), Turn F w w' → w'.cell? (ad.add k) = some (.int .u32 z)) := Lib.hid fun w' _ _ ht => by
          obtain ⟨ad', hA', c'⟩ := ns_turn HD.out ht HOF.out k hkn
          obtain rfl : ad = ad' := Option.some.inj hA'
          rwa [HZE.out] at c'
        clear hP hp
        refine wp_region_held_drew (S := fun w' => Blk w' bt #[.int .i64 l, .int .u64 t, .bool W, .bool U, .bool X] 41 ∧ w'.cell? (ad.add k) = some (.int .u32 z)) (by kernel_rfl) ⟨(HK9.out.quiet (Kept.drew0 w9)).at_ 0 rfl, HCX.out _ [] [] (HK9.out.quiet (Kept.drew0 w9)).turn⟩ (fun hHeld => ?_)
        have HK := Lib.hid (HK9.out.quiet (Kept.drew0 w9))
        clear HK9
        generalize w9.drew = v9 at *
        refine tk (v := ?_) 0 ?_ ?_
        rotate_left
        · intro w hSw
          go_simp
          (try with_reducible rfl)
        (try simp only [Act.put, List.setIfInBounds_toArray, List.set_cons_zero, List.set_cons_succ])
        refine tk (v := ?_) 1 ?_ ?_
        rotate_left
        · intro w hSw
          go_simp
          (try with_reducible rfl)
        (try simp only [Act.put, List.setIfInBounds_toArray, List.set_cons_zero, List.set_cons_succ])
        refine tk (v := ?_) 2 ?_ ?_
        rotate_left
        · intro w hSw
          go_simp
          (try with_reducible rfl)
        (try simp only [Act.put, List.setIfInBounds_toArray, List.set_cons_zero, List.set_cons_succ])
        refine tk (v := ?_) 3 ?_ ?_
        rotate_left
        · intro w hSw
          obtain ⟨s0, s1, s2, s3, s4⟩ := hSw.1.five
          go_simp
          (try with_reducible rfl)
        (try simp only [Act.put, List.setIfInBounds_toArray, List.set_cons_zero, List.set_cons_succ])
        refine tk (v := ?_) 4 ?_ ?_
        rotate_left
        · intro w hSw
          go_simp
          (try with_reducible rfl)
        (try simp only [Act.put, List.setIfInBounds_toArray, List.set_cons_zero, List.set_cons_succ])
        refine tk (v := ?_) 6 ?_ ?_
        rotate_left
        · intro w hSw
          obtain ⟨s0, s1, s2, s3, s4⟩ := hSw.1.five
          go_simp
          (try with_reducible rfl)
        (try simp only [Act.put, List.setIfInBounds_toArray, List.set_cons_zero, List.set_cons_succ])
        refine tk (v := ?_) 7 ?_ ?_
        rotate_left
        · intro w hSw
          go_simp
          (try with_reducible rfl)
        (try simp only [Act.put, List.setIfInBounds_toArray, List.set_cons_zero, List.set_cons_succ])
        refine tk (v := ?_) 8 ?_ ?_
        rotate_left
        · intro w hSw
          go_simp
          (try with_reducible rfl)
        (try simp only [Act.put, List.setIfInBounds_toArray, List.set_cons_zero, List.set_cons_succ])
        refine tk (v := ?_) 9 ?_ ?_
        rotate_left
        · intro w hSw
          go_simp
          (try with_reducible rfl)
        (try simp only [Act.put, List.setIfInBounds_toArray, List.set_cons_zero, List.set_cons_succ])
        refine tk (v := ?_) 10 ?_ ?_
        rotate_left
        · intro w hSw
          have c0 := hSw.2
          go_simp
          (try with_reducible rfl)
        (try simp only [Act.put, List.setIfInBounds_toArray, List.set_cons_zero, List.set_cons_succ])
        refine tk (v := ?_) 11 ?_ ?_
        rotate_left
        · intro w hSw
          go_simp
          (try with_reducible rfl)
        (try simp only [Act.put, List.setIfInBounds_toArray, List.set_cons_zero, List.set_cons_succ])
        refine tk (v := ?_) 12 ?_ ?_
        rotate_left
        · intro w hSw
          go_simp
          (try with_reducible rfl)
        (try simp only [Act.put, List.setIfInBounds_toArray, List.set_cons_zero, List.set_cons_succ])
        refine tk (v := ?_) 13 ?_ ?_
        rotate_left
        · intro w hSw
          go_simp
          (try with_reducible rfl)
        (try simp only [Act.put, List.setIfInBounds_toArray, List.set_cons_zero, List.set_cons_succ])
        refine wpAnyH_ready (rs := [5]) (by kernel_rfl) (by simp) ?_
        refine anyH_one rfl (fun K hK => ?_) ?_
        · go_simp
          refine (HK.out.walk HS.out HF.out 0 rfl (by omega) l t a W U X true (HRC.out.lev.2.2.1) HAW.out P HP.out p HPL.out).mono ?_
          rintro e u1 ⟨A1, c1, G1, tr1, rfl, hW⟩
          have HK1 := Lib.hid hW
          have CX1 : Hid (u1.cell? (ad.add k) = some (.int .u32 z)) := Lib.hid (HCX.out _ [] [] HK1.out.turn)
          clear hW
          refine hK.out _ _ (⟨HK1.out.at_ 0 rfl, CX1.out⟩) (fun hHeld => ?_)
          clear hK K
          (try simp only [Act.put, List.setIfInBounds_toArray, List.set_cons_zero, List.set_cons_succ])
          refine wpAnyH_ready (rs := [14]) (by kernel_rfl) (by simp) ?_
          refine anyH_one rfl (fun K hK => ?_) ?_
          · go_simp
            refine (fillP_any (HK1.out.the 1 rfl) (HK1.out.shifts HS.out HF.out) (HK1.out.no0 HS.out HF.out 1 rfl) 1 a i64_1 HAW.out A1 p c1 P.steps _ _ _ _ _ _ HPL.out (by have := HPF.out.1; have := HPL.out; omega) (own_steps (HK1.out.of_ 0 rfl) HPL.out) (off_block' fun i hi hg => HK1.out.off 0 rfl i hi ⟨_, List.mem_cons_of_mem _ (List.mem_cons_self ..), hg⟩) HPF.out.2 l t W U X z k 0 (i64_u32 HZ.out) (show I64 (k : Int) by unfold I64; omega) i64_0).mono ?_
            rintro e u2 ⟨rfl, hP, hT⟩
            have HK2 := Lib.hid (HK1.out.did 1 rfl (firm_psc _ _ _) hP hT)
            have CX2 : Hid (u2.cell? (ad.add k) = some (.int .u32 z)) := Lib.hid (HCX.out _ [] [] HK2.out.turn)
            clear hP hT
            refine hK.out _ _ (⟨HK2.out.at_ 0 rfl, CX2.out⟩) (fun hHeld => ?_)
            clear hK K
            (try simp only [Act.put, List.setIfInBounds_toArray, List.set_cons_zero, List.set_cons_succ])
            refine wpAnyH_done (by kernel_rfl) ?_ _
            have HK3 : Hid (Has w u2 F [⟨memT m 16 f tr1 (n + 5 * (k + 1)), G1⟩, ⟨pscT q R (warmN f R ns (k + 1)), fun i => Since Gp' u1 i ∧ i < u2.heap.size⟩] [] []) := Lib.hid (by
              rw [HNY.out, show n + 5 * (k + 1) = n + 5 * k + 5 by omega]
              exact HK2.out.pick [] [])
            clear hHeld HK1 HK2
            go_wp2
            go_roundw
            case rel => exact ⟨k + 1, tr1, _, _, by omega, by go_num, HK3⟩
            case measure => simp [intOf]; omega
          exact AllReadyH.nil
        exact AllReadyH.nil
    · have e : k = mn := by omega
      subst e
      by_cases h2 : k < N
      · have h3 : decide ((k : Int) < 20) = false := by
          have := HM2.out
          exact decide_eq_false (by omega)
        go_wp2
        go_ret
        exact ⟨q, rfl, tr', Gm, Gp', warm_more (by omega) HL.out⟩
      · go_wp2
        go_ret
        exact ⟨q, rfl, tr', Gm, Gp', warm_more (by omega) HL.out⟩
end Go.Proofs.YtiihhlmddmicjaaDoor
/- Layer 11: awake. (Laid by tools/gen_jl.py.) -/
namespace Go.Proofs.YtiihhlmddmicjaaDoor
set_option linter.unusedVariables false
set_option linter.unusedSimpArgs false
open Go.ChangeShapes Go.WideShapes Go.ChangeAt Go.RowKit Go.Joins

def stepsA : List Stp := [(4, 0, 4103), (3, 4096, 8199), (2, 8192, 12295), (1, 12288, 16391)]
theorem stepsA_w : ∀ k, k < stepsA.length → W64 (stepAt stepsA k).2.2 := by
  intro k hk
  have hk4 : k < 4 := hk
  have : k = 0 ∨ k = 1 ∨ k = 2 ∨ k = 3 := by omega
  rcases this with rfl | rfl | rfl | rfl <;> exact ⟨by decide, by decide⟩
theorem i64_5 : I64 5 := ⟨by decide, by decide⟩
theorem i64_6 : I64 6 := ⟨by decide, by decide⟩
theorem aw11a : deepK (fillK 4 5 0 (pkF 0 0 0) stepsA true true true noL) 5 2097151 = some (1, 12288, true, true, true, false, 0) := by kernel_rfl
theorem aw11b : deepK (fillK 4 5 0 (pkF 0 0 0) stepsA true true true noL) 6 0 = none := by kernel_rfl
theorem aw11c : lenF (fillK 4 5 0 (pkF 0 0 0) stepsA true true true noL) 2 = 1 := by kernel_rfl
theorem aw11d : lenF (fillK 4 5 0 (pkF 0 0 0) stepsA true true true noL) 4 = 1 := by kernel_rfl
theorem tiny_in (w : World) (t : TypeId) : PutsIn (w.alloc (.cells #[.int .u16 0, .int .u16 1, .int .u8 7, .int .u64 0, .int .u16 8, .int .u16 2, .int .u8 7, .int .u64 0, .int .u16 16, .int .u16 3, .int .u8 7, .int .u64 0, .int .u16 24, .int .u16 4, .int .u8 7, .int .u64 0] t)) (some ⟨w.heap.size, 0, none⟩) tinyP := by
  intro k hk
  have hk4 : k < 4 := hk
  have : k = 0 ∨ k = 1 ∨ k = 2 ∨ k = 3 := by omega
  rcases this with rfl | rfl | rfl | rfl <;> exact ⟨_, rfl, by simp [Addr.add, tinyP], by simp [Addr.add, tinyP], by simp [Addr.add, tinyP], by simp [Addr.add, tinyP]⟩

set_option maxRecDepth 100000 in
set_option maxHeartbeats 6400000 in
theorem awake11_any (w : World) (hs : Shifts w) :
    Calls Tryd.prog 9 #[] w fun e w' => e = .returned (.bool true) ∧ Below w.heap.size w w' := by
  have HS := Lib.hid hs
  clear hs
  go_enter Tryd.func9, Tryd.ntmps9
  go_upto_region 6 with (first | (go_at_call 17; refine (builtH_any _ _ 4 tinyP (by decide) (tiny_in _ _) tiny_ok).mono ?_; rw [show mostP tinyP = 4 from rfl]; rintro e w1 ⟨m, G, rfl, hH⟩; have H1 := Lib.hid (((Has.start0 w (fun _ => False)).quiet (below_alloc1 _ _)).join hH); clear hH) | (go_at_call 10; refine (newP_any 4 _).mono ?_; rintro e w2 ⟨q, Gp, rfl, hH⟩; have H2 := Lib.hid (H1.out.join hH); clear hH H1) | (go_at_call 21; refine (top_any 0 _ w0).mono ?_; rintro e w3 ⟨rfl, hb3⟩; have H3 := Lib.hid (H2.out.quiet hb3); clear hb3 H2))
  generalize hw4 : w3.alloc _ = w4
  have H4 := Lib.hid ((H3.out.new (b := w3.heap.size) rfl #[.int .i64 4, .int .u64 (tableF 0), .bool true, .bool true, .bool true] 41).world hw4)
  clear hw4 H3
  generalize w3.heap.size = bt at *
  refine wp_region_held_drew (S := fun w' => Blk w' bt #[.int .i64 4, .int .u64 (tableF 0), .bool true, .bool true, .bool true] 41) (by kernel_rfl) ((H4.out.quiet (Kept.drew0 w4)).at_ 0 rfl) (fun hHeld => ?_)
  have HK := Lib.hid (H4.out.quiet (Kept.drew0 w4))
  clear H4
  generalize w4.drew = v4 at *
  refine tk (v := ?_) 0 ?_ ?_
  rotate_left
  · intro w hSw
    go_simp
    (try with_reducible rfl)
  (try simp only [Act.put, List.setIfInBounds_toArray, List.set_cons_zero, List.set_cons_succ])
  refine tk (v := ?_) 1 ?_ ?_
  rotate_left
  · intro w hSw
    go_simp
    (try with_reducible rfl)
  (try simp only [Act.put, List.setIfInBounds_toArray, List.set_cons_zero, List.set_cons_succ])
  refine tk (v := ?_) 2 ?_ ?_
  rotate_left
  · intro w hSw
    obtain ⟨s0, s1, s2, s3, s4⟩ := hSw.five
    go_simp
    (try with_reducible rfl)
  (try simp only [Act.put, List.setIfInBounds_toArray, List.set_cons_zero, List.set_cons_succ])
  refine tk (v := ?_) 4 ?_ ?_
  rotate_left
  · intro w hSw
    obtain ⟨s0, s1, s2, s3, s4⟩ := hSw.five
    go_simp
    (try with_reducible rfl)
  (try simp only [Act.put, List.setIfInBounds_toArray, List.set_cons_zero, List.set_cons_succ])
  refine tk (v := ?_) 5 ?_ ?_
  rotate_left
  · intro w hSw
    go_simp
    (try with_reducible rfl)
  (try simp only [Act.put, List.setIfInBounds_toArray, List.set_cons_zero, List.set_cons_succ])
  refine wpAnyH_ready (rs := [3]) (by kernel_rfl) (by simp) ?_
  refine anyH_one rfl (fun K hK => ?_) ?_
  · go_simp
    refine (HK.out.walk HS.out (fun h => h) 0 rfl (by decide) 4 (tableF 0) 0 true true true true (w64_table _) w0 _ aw8b 4 rfl).mono ?_
    rintro e u1 ⟨A1, c1, G1, tr1, rfl, hW⟩
    have HK1 := Lib.hid hW
    clear hW
    refine hK.out _ _ (HK1.out.at_ 0 rfl) (fun hHeld => ?_)
    clear hK K
    (try simp only [Act.put, List.setIfInBounds_toArray, List.set_cons_zero, List.set_cons_succ])
    refine wpAnyH_ready (rs := [6]) (by kernel_rfl) (by simp) ?_
    refine anyH_one rfl (fun K hK => ?_) ?_
    · go_simp
      refine (fillP_any (HK1.out.the 1 rfl) (HK1.out.shifts HS.out (fun h => h)) (HK1.out.no0 HS.out (fun h => h) 1 rfl) 5 0 i64_5 w0 A1 4 c1 stepsA _ _ _ _ _ _ rfl (by decide) (own_steps (HK1.out.of_ 0 rfl) rfl) (off_block' fun i hi hg => HK1.out.off 0 rfl i hi ⟨_, List.mem_cons_of_mem _ (List.mem_cons_self ..), hg⟩) stepsA_w 4 (tableF 0) true true true 0 0 0 i64_0 i64_0 i64_0).mono ?_
      rintro e u2 ⟨rfl, hP, hT⟩
      have HK2 := Lib.hid (HK1.out.did 1 rfl (firm_psc _ _ _) hP hT)
      clear hP hT
      refine hK.out _ _ (HK2.out.at_ 0 rfl) (fun hHeld => ?_)
      clear hK K
      (try simp only [Act.put, List.setIfInBounds_toArray, List.set_cons_zero, List.set_cons_succ])
      refine wpAnyH_done (by kernel_rfl) ?_ _
      clear hHeld HK1
      have H7 := Lib.hid (HK2.out.pick [] [])
      clear HK2
      have HL : Hid (fillK (roomF 4) 5 0 (pkF 0 0 0) stepsA true true true noL = fillK 4 5 0 (pkF 0 0 0) stepsA true true true noL) := Lib.hid rfl
      have HA1 := Lib.hid aw11a
      have HA2 := Lib.hid aw11b
      have HA3 := Lib.hid aw11c
      have HA4 := Lib.hid aw11d
      rw [HL.out] at H7
      generalize fillK 4 5 0 (pkF 0 0 0) stepsA true true true noL = L at *
      go_upto_region 8 with (first | (go_at_call 13; refine (deepP_any (H7.out.the 1 rfl) (H7.out.shifts HS.out (fun h => h)) 5 2097151 i64_5 ⟨by decide, by decide⟩).mono ?_; rw [HA1.out, deepV_some]; rintro e w6 ⟨rfl, hb6⟩; have H8 := Lib.hid (H7.out.quiet hb6); clear hb6))
      generalize hw7 : w6.alloc _ = w7
      have H9 := Lib.hid ((H8.out.new (b := w6.heap.size) rfl #[.int .i64 1, .int .u64 12288, .bool true, .bool true, .bool true] 41).world hw7)
      clear hw7 H7 H8
      generalize w6.heap.size = b6 at *
      go_upto_region 9 with (first | (go_at_call 13; refine (deepP_any (H9.out.the 1 rfl) (H9.out.shifts HS.out (fun h => h)) 6 0 i64_6 w0).mono ?_; rw [HA2.out, deepV_none]; rintro e w8 ⟨rfl, hb8⟩; have H10 := Lib.hid (H9.out.quiet hb8); clear hb8))
      generalize hw9 : w8.alloc _ = w9
      have H11 := Lib.hid ((H10.out.quiet (below_alloc1 w8 (.cells #[.int .i64 0, .int .u64 0, .bool false, .bool false, .bool false] 41))).world hw9)
      clear hw9 H9 H10
      obtain ⟨q0, q1, q2, q3, q4⟩ := (H11.out.at_ 0 rfl).five
      go_wp2_with (first | (go_at_call 16; first | (refine (lenP_any (H11.out.the 1 rfl) 2).mono ?_; rw [HA3.out]; rintro e w10 ⟨rfl, hb10⟩; have H12 := Lib.hid (H11.out.quiet hb10); clear hb10 H11) | (refine (lenP_any (H12.out.the 1 rfl) 4).mono ?_; rw [HA4.out]; rintro e w11 ⟨rfl, hb11⟩; have H13 := Lib.hid (H12.out.quiet hb11); clear hb11 H12)))
      go_ret
      exact ⟨rfl, H13.out.below0⟩
    exact AllReadyH.nil
  exact AllReadyH.nil
end Go.Proofs.YtiihhlmddmicjaaDoor
