/- Layer 7: the walk of FaultKinds. -/
import Derived.Test.YtngaimandbcpbaaDoorFo
namespace Go.Proofs.YtngaimandbcpbaaDoor
set_option linter.unusedVariables false
set_option linter.unusedSimpArgs false
open Go.RowKit Go.Extern.Stop Go.Stop Go.Extern
set_option maxHeartbeats 1600000 in
theorem faultKinds_walk (n addr : Int) (s0 : ByteArray) (w : World) (hg : ErrT w) (hn0 : 0 ≤ n) (hn : n ≤ 255) :
    Calls Tryd.prog 6 #[.int .u8 n, .string s0, .int .u64 addr] w fun e w' => e = .returned (.bool true) ∧ Kept w w' := by
  have HG := Lib.hid hg
  clear hg
  go_enter Tryd.func6, Tryd.ntmps6
  go_wp2_with fail
  refine (awake7_any _ HG.out).mono ?_
  rintro e w1 ⟨rfl, hk⟩
  have hK1 := Lib.hid hk
  clear hk
  go_wp2_with fail
  generalize 1 + n % 9 = m at *
  refine (new_text _ _).mono ?_
  rintro e w2 ⟨gt, rfl, ht, hk⟩
  have hT2 := Lib.hid ht
  have hK2 := Lib.hid (Kept.step hk hK1.out)
  clear ht hk hK1
  go_wp2_with fail
  refine (wrap_num 0 _ _ _ _ _ (num_new _ _)).mono ?_
  rintro e w3 ⟨g3, rfl, hp, hk⟩
  have hN3 := Lib.hid hp
  have hT3 := Lib.hid (text_keep hT2.out hk)
  have hK3 := Lib.hid (Kept.step hk hK2.out)
  clear hp hk hK2 hT2
  go_wp2_with fail
  refine (at_page _ _ _).mono ?_
  rintro e w4 ⟨g4, rfl, hp, hk⟩
  have hP4 := Lib.hid hp
  have hN4 := Lib.hid (num_keep hN3.out hk)
  have hT4 := Lib.hid (text_keep hT3.out hk)
  have hK4 := Lib.hid (Kept.step hk hK3.out)
  clear hp hk hK3 hN3 hT3
  go_wp2_with fail
  have ka := kept_alloc w4 (.cells #[.iface 51 (.pointer (some ⟨g3, 0, none⟩)), .iface 44 (.pointer (some ⟨g4, 0, none⟩))] 25)
  refine (join_in w4.heap.size _ _ _ _ _ _ _ _ _ _ (by simp) (by simp) (num_keep hN4.out ka) (page_keep hP4.out ka)).mono ?_
  rintro e w5 ⟨j, rfl, hj, hk⟩
  have hJ5 := Lib.hid hj
  have hT5 := Lib.hid (text_keep hT4.out (Kept.step hk ka))
  have hK5 := Lib.hid (Kept.step hk (Kept.step ka hK4.out))
  clear hj hk ka hP4 hN4 hT4 hK4
  go_wp2_with fail
  refine (of_join _ _ _ _ _ (errT_keep HG.out hK5.out) hJ5.out).mono ?_
  rintro e w6 ⟨rfl, hk⟩
  have k6 := Kept.step (kept_alloc w6 (.cells #[.int .u64 addr, .int .i64 1] 34)) hk
  have hJ6 := Lib.hid (join_keep hJ5.out k6)
  have hT6 := Lib.hid (text_keep hT5.out k6)
  have hK6 := Lib.hid (Kept.step k6 hK5.out)
  have hA6 := Lib.hid (show (w6.alloc (.cells #[.int .u64 addr, .int .i64 1] 34)).cell? ⟨w6.heap.size, 0, none⟩ = some (.int .u64 addr) by simp)
  clear hk k6 hJ5 hT5 hK5
  go_wp2_with fail
  refine (wrap_num 0 _ _ _ _ _ (num_new _ _)).mono ?_
  rintro e w7 ⟨g7, rfl, hp, hk⟩
  have hN7 := Lib.hid hp
  have hJ7 := Lib.hid (join_keep hJ6.out hk)
  have hT7 := Lib.hid (text_keep hT6.out hk)
  have hK7 := Lib.hid (Kept.step hk hK6.out)
  have hA7 := Lib.hid (kept_cell hk hA6.out)
  clear hp hk hJ6 hT6 hK6 hA6
  go_wp2_with fail
  refine (kind_numIn _ _ _ _ _ (errT_keep HG.out hK7.out) hN7.out).mono ?_
  rintro e w8 ⟨rfl, hk⟩
  have hJ8 := Lib.hid (join_keep hJ7.out hk)
  have hT8 := Lib.hid (text_keep hT7.out hk)
  have hK8 := Lib.hid (Kept.step hk hK7.out)
  have hA8 := Lib.hid (kept_cell hk hA7.out)
  clear hk hJ7 hT7 hK7 hA7 hN7
  go_wp2_with fail
  refine (kind_numIn 0 _ _ _ _ (errT_keep HG.out hK8.out) (num_new _ _)).mono ?_
  rintro e w9 ⟨rfl, hk⟩
  have hJ9 := Lib.hid (join_keep hJ8.out hk)
  have hT9 := Lib.hid (text_keep hT8.out hk)
  have hK9 := Lib.hid (Kept.step hk hK8.out)
  have hA9 := Lib.hid (kept_cell hk hA8.out)
  clear hk hJ8 hT8 hK8 hA8
  go_wp2_with fail
  refine (kind_textIn _ _ _ _ (errT_keep HG.out hK9.out) hT9.out).mono ?_
  rintro e wa ⟨rfl, hk⟩
  have hJa := Lib.hid (join_keep hJ9.out hk)
  have hTa := Lib.hid (text_keep hT9.out hk)
  have hKa := Lib.hid (Kept.step hk hK9.out)
  have hAa := Lib.hid (kept_cell hk hA9.out)
  clear hk hJ9 hT9 hK9 hA9
  go_wp2_with fail
  refine (wrap_text _ _ _ _ _ hTa.out).mono ?_
  rintro e wb ⟨gb, rfl, hp, hk⟩
  have hTb := Lib.hid hp
  have hJb := Lib.hid (join_keep hJa.out hk)
  have hKb := Lib.hid (Kept.step hk hKa.out)
  have hAb := Lib.hid (kept_cell hk hAa.out)
  clear hp hk hJa hTa hKa hAa
  go_wp2_with fail
  refine (kind_textIn _ _ _ _ (errT_keep HG.out hKb.out) hTb.out).mono ?_
  rintro e wc ⟨rfl, hk⟩
  have hJc := Lib.hid (join_keep hJb.out hk)
  have hKc := Lib.hid (Kept.step hk hKb.out)
  have hAc := kept_cell hk hAb.out
  clear hk hJb hTb hKb hAb
  go_wp2_with fail
  refine (kind_join _ _ _ _ _ (errT_keep HG.out hKc.out) hJc.out).mono ?_
  rintro e wd ⟨rfl, hk⟩
  have hKd := Lib.hid (Kept.step hk hKc.out)
  clear hk hJc hKc hAc
  go_wp2_with fail
  go_ret
  exact ⟨rfl, hKd.out⟩
end Go.Proofs.YtngaimandbcpbaaDoor
