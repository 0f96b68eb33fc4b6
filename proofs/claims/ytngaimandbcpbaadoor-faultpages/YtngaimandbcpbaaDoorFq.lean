/- Layer 7: the document's figures to the base 10, up to 255; its words of a page fault. -/
import Derived.Test.YtngaimandbcpbaaDoorFp
import Derived.Test.YtngaimandbcpbaaDoorFi
import Derived.Test.YtngaimandbcpbaaDoorRg
import Derived.Handy
namespace Go.Proofs.YtngaimandbcpbaaDoor
set_option linter.unusedVariables false
set_option linter.unusedSimpArgs false
open Go.RowKit Go.Extern.Stop Go.Stop Go.Extern

theorem conv_at {w : World} {g : Nat} {z : Int} (h : w.cell? ⟨g, 0, none⟩ = some (.int .u8 z)) : (convert 68 9 (.slice (some ⟨g, 0, none⟩) 1 1)).run Tryd.prog w = .ok (.string (strOfNums [z])) w := by
  refine run_convert_bytes_arg _ 68 5 Tryd.underlying68 Tryd.underlying5 g 0 1 1 [z] rfl (fun i hi => ?_) 9 Tryd.underlying9
  obtain rfl : i = 0 := by omega
  exact h

set_option maxHeartbeats 1600000 in
set_option maxRecDepth 100000 in
theorem figures_more (xs : List Int) (n : Int) (w : World) (hl : xs.length ≤ 5) (h0 : 10 ≤ n) (h9 : n ≤ 255)
    (ih : ∀ w, Calls Tryd.prog 23 #[.int .i64 (n / 10)] w fun e w' => e = .returned (.string (strOfNums xs)) ∧ Kept w w') :
    Calls Tryd.prog 23 #[.int .i64 n] w fun e w' => e = .returned (.string (strOfNums (xs ++ [48 + n % 10]))) ∧ Kept w w' := by
  have hs1 : (strOfNums xs).size = xs.length := strOfNums_size xs
  have hs2 : (strOfNums [48 + n % 10]).size = 1 := strOfNums_size _
  have hlim : (9223372036854775807 < xs.length + 1) = False := by simp; omega
  have e1 : IntKind.i64.wrap (n.tdiv 10) = n / 10 := by rw [Int.tdiv_eq_ediv_of_nonneg (by omega)]; go_arith
  have e3 : IntKind.u8.wrap (IntKind.i64.wrap (48 + n.tmod 10)) = 48 + n % 10 := by rw [Int.tmod_eq_emod_of_nonneg (by omega)]; go_arith
  rw [← str_append]
  go_enter Tryd.func23, Tryd.ntmps23
  go_wp2_with fail
  refine wp_region_held_drew (S := fun w5 => Kept w w5) (by kernel_rfl) (Kept.drew0 _) (fun hHeld => ?_)
  refine anyH_take (i := 0) (v := ?_) rfl (by kernel_rfl) (by kernel_rfl) (by kernel_rfl) (fun _ _ _ h => h) (by rfl) (by assumption) ?_ ?_
  rotate_left
  · intro w hSw
    go_simp
    (try with_reducible rfl)
  (try simp only [Act.put, List.setIfInBounds_toArray, List.set_cons_zero, List.set_cons_succ])
  refine anyH_take (i := 1) (v := ?_) rfl (by kernel_rfl) (by kernel_rfl) (by kernel_rfl) (fun _ _ _ h => h) (by rfl) (by assumption) ?_ ?_
  rotate_left
  · intro w hSw
    go_simp
    (try with_reducible rfl)
  (try simp only [Act.put, List.setIfInBounds_toArray, List.set_cons_zero, List.set_cons_succ])
  refine anyH_take (i := 3) (v := ?_) rfl (by kernel_rfl) (by kernel_rfl) (by kernel_rfl) (fun _ _ _ h => h) (by rfl) (by assumption) ?_ ?_
  rotate_left
  · intro w hSw
    go_simp
    (try with_reducible rfl)
  (try simp only [Act.put, List.setIfInBounds_toArray, List.set_cons_zero, List.set_cons_succ])
  refine anyH_take (i := 4) (v := ?_) rfl (by kernel_rfl) (by kernel_rfl) (by kernel_rfl) (fun _ _ _ h => h) (by rfl) (by assumption) ?_ ?_
  rotate_left
  · intro w hSw
    go_simp
    (try with_reducible rfl)
  (try simp only [Act.put, List.setIfInBounds_toArray, List.set_cons_zero, List.set_cons_succ])
  refine anyH_take (i := 5) (v := ?_) rfl (by kernel_rfl) (by kernel_rfl) (by kernel_rfl) (fun _ _ _ h => h) (by rfl) (by assumption) ?_ ?_
  rotate_left
  · intro w hSw
    go_simp
    (try with_reducible rfl)
  (try simp only [Act.put, List.setIfInBounds_toArray, List.set_cons_zero, List.set_cons_succ])
  refine anyH_take (i := 6) (v := ?_) rfl (by kernel_rfl) (by kernel_rfl) (by kernel_rfl) (fun _ _ _ h => h) (by rfl) (by assumption) ?_ ?_
  rotate_left
  · intro w hSw
    go_simp
    (try with_reducible rfl)
  (try simp only [Act.put, List.setIfInBounds_toArray, List.set_cons_zero, List.set_cons_succ])
  refine wpAnyH_ready (rs := [2, 7]) (by kernel_rfl) (by simp) ?_
  refine anyH_one rfl (fun K hK => ?_) ?_
  · go_simp
    refine (ih _).mono ?_
    rintro e w1 ⟨rfl, hk⟩
    refine hK.out _ _ (Kept.step hk hHeld) (fun hHeld => ?_)
    clear hK K
    (try simp only [Act.put, List.setIfInBounds_toArray, List.set_cons_zero, List.set_cons_succ])
    refine wpAnyH_ready (rs := [7]) (by kernel_rfl) (by simp) ?_
    refine anyH_one rfl (fun K hK => ?_) ?_
    · go_simp
      refine hK.out _ _ (Kept.step (kept_alloc _ _) hHeld) (fun hHeld => ?_)
      clear hK K
      (try simp only [Act.put, List.setIfInBounds_toArray, List.set_cons_zero, List.set_cons_succ])
      refine anyH_switch (S' := fun w5 => w5.cell? ⟨w1.heap.size, 0, none⟩ = some (.int .u8 (48 + n % 10)) ∧ Kept w w5) (fun _ h => h.2) ?_
      have hHeld2 : (w1.alloc (.cells #[.int .u8 (48 + n % 10)] 5)).cell? ⟨w1.heap.size, 0, none⟩ = some (.int .u8 (48 + n % 10)) ∧ Kept w (w1.alloc (.cells #[.int .u8 (48 + n % 10)] 5)) := ⟨by simp, hHeld⟩
      refine anyH_take (i := 8) (v := ?_) rfl (by kernel_rfl) (by kernel_rfl) (by kernel_rfl) (fun _ _ _ h => h) (by rfl) (by assumption) ?_ ?_
      rotate_left
      · intro w hSw
        have hcv := conv_at hSw.1
        go_simp
        (try with_reducible rfl)
      (try simp only [Act.put, List.setIfInBounds_toArray, List.set_cons_zero, List.set_cons_succ])
      refine anyH_take (i := 9) (v := ?_) rfl (by kernel_rfl) (by kernel_rfl) (by kernel_rfl) (fun _ _ _ h => h) (by rfl) (by assumption) ?_ ?_
      rotate_left
      · intro w hSw
        go_simp
        (try with_reducible rfl)
      (try simp only [Act.put, List.setIfInBounds_toArray, List.set_cons_zero, List.set_cons_succ])
      refine anyH_take (i := 10) (v := ?_) rfl (by kernel_rfl) (by kernel_rfl) (by kernel_rfl) (fun _ _ _ h => h) (by rfl) (by assumption) ?_ ?_
      rotate_left
      · intro w hSw
        go_simp
        (try with_reducible rfl)
      (try simp only [Act.put, List.setIfInBounds_toArray, List.set_cons_zero, List.set_cons_succ])
      refine wpAnyH_done (by kernel_rfl) ?_ _
      go_wp2
      go_ret
      exact ⟨rfl, hHeld⟩
    exact AllReadyH.nil
  refine anyH_one rfl (fun K hK => ?_) ?_
  · go_simp
    refine hK.out _ _ (Kept.step (kept_alloc _ _) hHeld) (fun hHeld => ?_)
    clear hK K
    (try simp only [Act.put, List.setIfInBounds_toArray, List.set_cons_zero, List.set_cons_succ])
    refine anyH_switch (S' := fun w5 => w5.cell? ⟨w.heap.size, 0, none⟩ = some (.int .u8 (48 + n % 10)) ∧ Kept w w5) (fun _ h => h.2) ?_
    have hHeld2 : (w.alloc (.cells #[.int .u8 (48 + n % 10)] 5)).drew.cell? ⟨w.heap.size, 0, none⟩ = some (.int .u8 (48 + n % 10)) ∧ Kept w (w.alloc (.cells #[.int .u8 (48 + n % 10)] 5)).drew := ⟨by simp, hHeld⟩
    refine anyH_take (i := 8) (v := ?_) rfl (by kernel_rfl) (by kernel_rfl) (by kernel_rfl) (fun _ _ _ h => h) (by rfl) (by assumption) ?_ ?_
    rotate_left
    · intro w hSw
      have hcv := conv_at hSw.1
      go_simp
      (try with_reducible rfl)
    (try simp only [Act.put, List.setIfInBounds_toArray, List.set_cons_zero, List.set_cons_succ])
    refine wpAnyH_ready (rs := [2]) (by kernel_rfl) (by simp) ?_
    refine anyH_one rfl (fun K hK => ?_) ?_
    · go_simp
      refine (ih _).mono ?_
      rintro e w1 ⟨rfl, hk⟩
      refine hK.out _ _ (⟨kept_cell hk hHeld2.1, Kept.step hk hHeld2.2⟩) (fun hHeld => ?_)
      clear hK K
      (try simp only [Act.put, List.setIfInBounds_toArray, List.set_cons_zero, List.set_cons_succ])
      refine anyH_take (i := 9) (v := ?_) rfl (by kernel_rfl) (by kernel_rfl) (by kernel_rfl) (fun _ _ _ h => h) (by rfl) (by assumption) ?_ ?_
      rotate_left
      · intro w hSw
        go_simp
        (try with_reducible rfl)
      (try simp only [Act.put, List.setIfInBounds_toArray, List.set_cons_zero, List.set_cons_succ])
      refine anyH_take (i := 10) (v := ?_) rfl (by kernel_rfl) (by kernel_rfl) (by kernel_rfl) (fun _ _ _ h => h) (by rfl) (by assumption) ?_ ?_
      rotate_left
      · intro w hSw
        go_simp
        (try with_reducible rfl)
      (try simp only [Act.put, List.setIfInBounds_toArray, List.set_cons_zero, List.set_cons_succ])
      refine wpAnyH_done (by kernel_rfl) ?_ _
      go_wp2
      go_ret
      exact ⟨rfl, hHeld.2⟩
    exact AllReadyH.nil
  exact AllReadyH.nil

theorem figures_any (n : Int) (w : World) (h0 : 0 ≤ n) (h9 : n ≤ 255) : Calls Tryd.prog 23 #[.int .i64 n] w fun e w' => e = .returned (.string (strOfNums (decF 2 n))) ∧ Kept w w' := by
  rcases (by omega : n < 10 ∨ (10 ≤ n ∧ n < 100) ∨ 100 ≤ n) with h | ⟨h, h'⟩ | h
  · have e : decF 2 n = [48 + n] := by simp [decF, h]
    rw [e]
    exact figures_lo n w h0 h
  · have e : decF 2 n = [48 + n / 10] ++ [48 + n % 10] := by
      have : ¬ n < 10 := by omega
      have h2 : n / 10 < 10 := by omega
      simp [decF, this, h2]
    rw [e]
    exact figures_more _ n w (by simp) h h9 fun w => figures_lo _ w (by omega) (by omega)
  · have e : decF 2 n = ([48 + n / 10 / 10] ++ [48 + n / 10 % 10]) ++ [48 + n % 10] := by
      have h1 : ¬ n < 10 := by omega
      have h2 : ¬ n / 10 < 10 := by omega
      simp [decF, h1, h2]
    rw [e]
    exact figures_more _ n w (by simp) (by omega) h9 fun w => figures_more _ (n / 10) w (by simp) (by omega) (by omega) fun w => figures_lo _ w (by omega) (by omega)

/-- a page fault's words -/
def pageW (addr code : Int) : ByteArray := ((⟨#[112, 97, 103, 101, 32, 102, 97, 117, 108, 116, 32, 97, 116, 32]⟩ ++ strOfNums (hexF 15 addr)) ++ ⟨#[44, 32, 99, 111, 100, 101, 32]⟩) ++ strOfNums (decF 2 code)

theorem page_words (addr code : Int) (w : World) (h0 : 0 ≤ addr) (h1 : addr ≤ 18446744073709551615) (h2 : 0 ≤ code) (h3 : code ≤ 255) :
    Calls Tryd.prog 12 #[.int .u64 addr, .int .i64 code] w fun e w' => e = .returned (.string (pageW addr code)) ∧ Kept w w' := by
  have c1 := hex_word addr w h0 h1
  have c2 := fun w => figures_any code w h2 h3
  have l1 := hexF_len 15 addr
  have l2 := decF_len 2 code
  unfold pageW
  generalize hexF 15 addr = xs at *
  generalize decF 2 code = ys at *
  have hs1 : (strOfNums xs).size = xs.length := strOfNums_size xs
  have hs2 : (strOfNums ys).size = ys.length := strOfNums_size ys
  clear h0 h1 h2 h3
  go_enter Tryd.func12, Tryd.ntmps12
  go_wp2_with fail
  refine c1.mono ?_
  rintro e w1 ⟨rfl, hk⟩
  go_wp2_with fail
  refine (c2 _).mono ?_
  rintro e w2 ⟨rfl, hk2⟩
  go_wp2_with fail
  go_ret
  exact ⟨rfl, Kept.step hk2 hk⟩
end Go.Proofs.YtngaimandbcpbaaDoor
