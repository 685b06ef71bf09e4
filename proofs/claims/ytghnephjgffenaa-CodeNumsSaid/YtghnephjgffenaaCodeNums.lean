/- CodeNums: the law's walk. -/
import Derived.Test.YtghnephjgffenaaCodUp
import Derived.Test.YtghnephjgffenaaRefC1
import Derived.Test.YtghnephjgffenaaRefC2
namespace Go.Proofs.Ytghnephjgffenaa
set_option linter.unusedVariables false
set_option linter.unusedSimpArgs false
set_option maxRecDepth 100000
open Go.RowKit

theorem txtL_lt (s : ByteArray) : ∀ n ∈ txtL (nl s), n < 256 := by
  unfold txtL
  split
  · rename_i h
    rw [nl_len] at h
    intro n hn
    rcases List.mem_cons.1 hn with e | e
    · subst e; rw [nl_len]; omega
    · exact nl_lt s n e
  · intro n hn; cases hn
set_option maxHeartbeats 4000000 in
set_option maxRecDepth 100000 in
theorem codeNums_calls (n : Int) (s : ByteArray) (b : List Nat) (v : Value) (w : World) (hB : ByW w b v) :
    Calls Try.prog 3 #[.int .i64 n, .string s, v] w fun e w' => e = .returned (.bool true) ∧ Below w.heap.size w w' := by
  have UP := Lib.hid (codeUp_calls w)
  have HB := Lib.hid hB
  obtain ⟨oa, cap, rfl, _, _⟩ := hB.val
  clear hB
  by_cases h0 : 10000 < b.length
  · have q : decide ((10000 : Int) < b.length) = true := by simp; omega
    go_enter Try.func3, Try.ntmps3
    go_wp2_with (go_at_call 7; (with_reducible refine UP.out.mono ?_); rintro e w0 ⟨rfl, hb0⟩)
    go_ret
    exact ⟨rfl, hb0⟩
  · have q : decide ((10000 : Int) < b.length) = false := by simp; omega
    have CN := fun w' => Lib.hid (num_calls n w')
    have RN := fun w' => Lib.hid (refNum_calls n w')
    have CT := fun w' => Lib.hid (text_calls' s w')
    have RT := fun w' => Lib.hid (refText_calls s w')
    have CG := fun w' h => Lib.hid (getNum_calls b (.slice oa b.length cap) w' h)
    have RG := fun w' h => Lib.hid (refGetNum_calls b (.slice oa b.length cap) w' h)
    have CX := fun w' h => Lib.hid (getText_calls b (.slice oa b.length cap) w' h)
    have RX := fun w' h => Lib.hid (refGetText_calls b (.slice oa b.length cap) w' h)
    go_enter Try.func3, Try.ntmps3
    go_wp2_with (go_at_call 7; (with_reducible refine UP.out.mono ?_); rintro e w0 ⟨rfl, hb0⟩)
    have BEL := Lib.hid hb0.drew
    clear UP hb0
    refine monoR_begin (R := Later) (by kernel_rfl) ?_
    refine monoR_take laterPre (i := 0) (v := ?_) rfl (by kernel_rfl) (by kernel_rfl) (by kernel_rfl) (fun _ _ _ h => h) (Or.inl ⟨by rfl, ?_⟩) ?_
    rotate_left 1
    · (intro wL hLater; go_simp; try with_reducible rfl)
    try simp only [Act.put, List.getElem_toArray, List.getElem_cons_zero, List.getElem_cons_succ, List.setIfInBounds_toArray, List.set_cons_zero, List.set_cons_succ]
    refine monoR_take laterPre (i := 3) (v := ?_) rfl (by kernel_rfl) (by kernel_rfl) (by kernel_rfl) (fun _ _ _ h => h) (Or.inl ⟨by rfl, ?_⟩) ?_
    rotate_left 1
    · (intro wL hLater; go_simp; try with_reducible rfl)
    try simp only [Act.put, List.getElem_toArray, List.getElem_cons_zero, List.getElem_cons_succ, List.setIfInBounds_toArray, List.set_cons_zero, List.set_cons_succ]
    refine monoR_one (i := 1) (by kernel_rfl) rfl (fun K hK => ?_)
    try simp only [List.getElem_toArray, List.getElem_cons_zero, List.getElem_cons_succ]
    first | rw [if_pos (by rfl)] | skip
    (go_simp; go_at_call 8; (with_reducible refine (CN _).out.mono ?_); rintro e w1 ⟨v1, rfl, h1, hb1⟩)
    try go_wp2_with fail
    refine hK.out _ _ (hb1) ?_
    clear hK K
    try simp only [Act.put, List.getElem_toArray, List.getElem_cons_zero, List.getElem_cons_succ, List.setIfInBounds_toArray, List.set_cons_zero, List.set_cons_succ]
    obtain ⟨o1, c1, rfl, _, _⟩ := h1.val
    have B1 := Lib.hid (h1.by (numL_lt n))
    replace BEL := Lib.hid (BEL.out.trans (hb1.mono BEL.out.size))
    clear h1 hb1
    refine monoR_take laterPre (i := 2) (v := ?_) rfl (by kernel_rfl) (by kernel_rfl) (by kernel_rfl) (fun _ _ _ h => h) (Or.inl ⟨by rfl, ?_⟩) ?_
    rotate_left 1
    · (intro wL hLater; have hc := run_convert_by (B1.out.later hLater); go_simp; try with_reducible rfl)
    try simp only [Act.put, List.getElem_toArray, List.getElem_cons_zero, List.getElem_cons_succ, List.setIfInBounds_toArray, List.set_cons_zero, List.set_cons_succ]
    refine monoR_one (i := 4) (by kernel_rfl) rfl (fun K hK => ?_)
    try simp only [List.getElem_toArray, List.getElem_cons_zero, List.getElem_cons_succ]
    first | rw [if_pos (by rfl)] | skip
    (go_simp; go_at_call 9; (with_reducible refine (RN _).out.mono ?_); rintro e w2 ⟨v2, rfl, h2, hb2⟩)
    try go_wp2_with fail
    refine hK.out _ _ (hb2) ?_
    clear hK K
    try simp only [Act.put, List.getElem_toArray, List.getElem_cons_zero, List.getElem_cons_succ, List.setIfInBounds_toArray, List.set_cons_zero, List.set_cons_succ]
    obtain ⟨o2, c2, rfl, _, _⟩ := h2.val
    have B2 := Lib.hid (h2.by (numL_lt n))
    replace BEL := Lib.hid (BEL.out.trans (hb2.mono BEL.out.size))
    clear h2 hb2
    refine monoR_take laterPre (i := 5) (v := ?_) rfl (by kernel_rfl) (by kernel_rfl) (by kernel_rfl) (fun _ _ _ h => h) (Or.inl ⟨by rfl, ?_⟩) ?_
    rotate_left 1
    · (intro wL hLater; have hc := run_convert_by (B2.out.later hLater); go_simp; try with_reducible rfl)
    try simp only [Act.put, List.getElem_toArray, List.getElem_cons_zero, List.getElem_cons_succ, List.setIfInBounds_toArray, List.set_cons_zero, List.set_cons_succ]
    refine monoR_take laterPre (i := 6) (v := ?_) rfl (by kernel_rfl) (by kernel_rfl) (by kernel_rfl) (fun _ _ _ h => h) (Or.inl ⟨by rfl, ?_⟩) ?_
    rotate_left 1
    · (intro wL hLater; go_simp; try with_reducible rfl)
    try simp only [Act.put, List.getElem_toArray, List.getElem_cons_zero, List.getElem_cons_succ, List.setIfInBounds_toArray, List.set_cons_zero, List.set_cons_succ]
    refine monoR_take laterPre (i := 7) (v := ?_) rfl (by kernel_rfl) (by kernel_rfl) (by kernel_rfl) (fun _ _ _ h => h) (Or.inl ⟨by rfl, ?_⟩) ?_
    rotate_left 1
    · (intro wL hLater; go_simp; try with_reducible rfl)
    try simp only [Act.put, List.getElem_toArray, List.getElem_cons_zero, List.getElem_cons_succ, List.setIfInBounds_toArray, List.set_cons_zero, List.set_cons_succ]
    refine monoR_take laterPre (i := 8) (v := ?_) rfl (by kernel_rfl) (by kernel_rfl) (by kernel_rfl) (fun _ _ _ h => h) (Or.inl ⟨by rfl, ?_⟩) ?_
    rotate_left 1
    · (intro wL hLater; go_simp; try with_reducible rfl)
    try simp only [Act.put, List.getElem_toArray, List.getElem_cons_zero, List.getElem_cons_succ, List.setIfInBounds_toArray, List.set_cons_zero, List.set_cons_succ]
    refine monoR_take laterPre (i := 11) (v := ?_) rfl (by kernel_rfl) (by kernel_rfl) (by kernel_rfl) (fun _ _ _ h => h) (Or.inl ⟨by rfl, ?_⟩) ?_
    rotate_left 1
    · (intro wL hLater; go_simp; try with_reducible rfl)
    try simp only [Act.put, List.getElem_toArray, List.getElem_cons_zero, List.getElem_cons_succ, List.setIfInBounds_toArray, List.set_cons_zero, List.set_cons_succ]
    refine monoR_one (i := 9) (by kernel_rfl) rfl (fun K hK => ?_)
    try simp only [List.getElem_toArray, List.getElem_cons_zero, List.getElem_cons_succ]
    first | rw [if_pos (by rfl)] | skip
    (go_simp; go_at_call 10; (with_reducible refine (CT _).out.mono ?_); rintro e w3 ⟨v3, rfl, h3, hb3⟩)
    try go_wp2_with fail
    refine hK.out _ _ (hb3) ?_
    clear hK K
    try simp only [Act.put, List.getElem_toArray, List.getElem_cons_zero, List.getElem_cons_succ, List.setIfInBounds_toArray, List.set_cons_zero, List.set_cons_succ]
    obtain ⟨o3, c3, rfl, _, _⟩ := h3.val
    have B3 := Lib.hid (h3.by (txtL_lt s))
    replace BEL := Lib.hid (BEL.out.trans (hb3.mono BEL.out.size))
    clear h3 hb3
    refine monoR_take laterPre (i := 10) (v := ?_) rfl (by kernel_rfl) (by kernel_rfl) (by kernel_rfl) (fun _ _ _ h => h) (Or.inl ⟨by rfl, ?_⟩) ?_
    rotate_left 1
    · (intro wL hLater; have hc := run_convert_by (B3.out.later hLater); go_simp; try with_reducible rfl)
    try simp only [Act.put, List.getElem_toArray, List.getElem_cons_zero, List.getElem_cons_succ, List.setIfInBounds_toArray, List.set_cons_zero, List.set_cons_succ]
    refine monoR_one (i := 12) (by kernel_rfl) rfl (fun K hK => ?_)
    try simp only [List.getElem_toArray, List.getElem_cons_zero, List.getElem_cons_succ]
    first | rw [if_pos (by rfl)] | skip
    (go_simp; go_at_call 11; (with_reducible refine (RT _).out.mono ?_); rintro e w4 ⟨v4, rfl, h4, hb4⟩)
    try go_wp2_with fail
    refine hK.out _ _ (hb4) ?_
    clear hK K
    try simp only [Act.put, List.getElem_toArray, List.getElem_cons_zero, List.getElem_cons_succ, List.setIfInBounds_toArray, List.set_cons_zero, List.set_cons_succ]
    obtain ⟨o4, c4, rfl, _, _⟩ := h4.val
    have B4 := Lib.hid (h4.by (txtL_lt s))
    replace BEL := Lib.hid (BEL.out.trans (hb4.mono BEL.out.size))
    clear h4 hb4
    refine monoR_take laterPre (i := 13) (v := ?_) rfl (by kernel_rfl) (by kernel_rfl) (by kernel_rfl) (fun _ _ _ h => h) (Or.inl ⟨by rfl, ?_⟩) ?_
    rotate_left 1
    · (intro wL hLater; have hc := run_convert_by (B4.out.later hLater); go_simp; try with_reducible rfl)
    try simp only [Act.put, List.getElem_toArray, List.getElem_cons_zero, List.getElem_cons_succ, List.setIfInBounds_toArray, List.set_cons_zero, List.set_cons_succ]
    refine monoR_take laterPre (i := 14) (v := ?_) rfl (by kernel_rfl) (by kernel_rfl) (by kernel_rfl) (fun _ _ _ h => h) (Or.inl ⟨by rfl, ?_⟩) ?_
    rotate_left 1
    · (intro wL hLater; go_simp; try with_reducible rfl)
    try simp only [Act.put, List.getElem_toArray, List.getElem_cons_zero, List.getElem_cons_succ, List.setIfInBounds_toArray, List.set_cons_zero, List.set_cons_succ]
    refine monoR_take laterPre (i := 15) (v := ?_) rfl (by kernel_rfl) (by kernel_rfl) (by kernel_rfl) (fun _ _ _ h => h) (Or.inl ⟨by rfl, ?_⟩) ?_
    rotate_left 1
    · (intro wL hLater; go_simp; try with_reducible rfl)
    try simp only [Act.put, List.getElem_toArray, List.getElem_cons_zero, List.getElem_cons_succ, List.setIfInBounds_toArray, List.set_cons_zero, List.set_cons_succ]
    refine monoR_done (by kernel_rfl) ?_ _
    have HB2 := Lib.hid (HB.out.later BEL.out)
    go_wp2_with (first
      | (go_at_call 12; (with_reducible refine (CG _ HB2.out).out.mono ?_); rintro e w5 ⟨rfl, rfl⟩)
      | (go_at_call 13; (with_reducible refine (RG _ HB2.out).out.mono ?_); rintro e w5 ⟨rfl, rfl⟩)
      | (go_at_call 14; (with_reducible refine (CX _ HB2.out).out.mono ?_); rintro e w5 ⟨rfl, rfl⟩)
      | (go_at_call 15; (with_reducible refine (RX _ HB2.out).out.mono ?_); rintro e w5 ⟨rfl, rfl⟩))
    go_ret
    exact ⟨rfl, BEL.out⟩
end Go.Proofs.Ytghnephjgffenaa
