/- CodeSums: the law's walk. -/
import Derived.Test.YtghnephjgffenaaCodUp
import Derived.Test.YtghnephjgffenaaRefC3
namespace Go.Proofs.Ytghnephjgffenaa
set_option linter.unusedVariables false
set_option linter.unusedSimpArgs false
set_option maxRecDepth 100000
open Go.RowKit

attribute [local go_sem ↓] run_eq_err
set_option maxHeartbeats 4000000 in
set_option maxRecDepth 100000 in
theorem codeSums_calls (b : List Nat) (v : Value) (w : World) (hB : ByW w b v) :
    Calls Try.prog 4 #[v] w fun e w' => e = .returned (.bool true) ∧ Below w.heap.size w w' := by
  have UP := Lib.hid (codeUp_calls w)
  have HB := Lib.hid hB
  obtain ⟨oa, cap, rfl, _, _⟩ := hB.val
  clear hB
  by_cases h0 : 10000 < b.length
  · have q : decide ((10000 : Int) < b.length) = true := by simp; omega
    go_enter Try.func4, Try.ntmps4
    go_wp2_with (go_at_call 7; (with_reducible refine UP.out.mono ?_); rintro e w0 ⟨rfl, hb0⟩)
    go_ret
    exact ⟨rfl, hb0⟩
  have q : decide ((10000 : Int) < b.length) = false := by simp; omega
  have hlen : b.length ≤ 140737488350000 := by omega
  have CS := fun w' h => Lib.hid (sum_calls b (.slice oa b.length cap) w' h)
  have RS := fun w' h => Lib.hid (refSum_calls b (.slice oa b.length cap) w' h)
  have CE := fun w' h => Lib.hid (seal_calls b (.slice oa b.length cap) w' h hlen)
  have RE := fun w' h => Lib.hid (refSeal_calls b (.slice oa b.length cap) w' h hlen)
  cases ho : openL b with
  | none =>
    have CO := fun w' (h : ByW w' b (.slice oa b.length cap)) => Lib.hid (open_none h hlen ho)
    have RO := fun w' (h : ByW w' b (.slice oa b.length cap)) => Lib.hid (refOpen_none h hlen ho)
    clear ho
    go_enter Try.func4, Try.ntmps4
    go_wp2_with (first
      | (go_at_call 7; (with_reducible refine UP.out.mono ?_); rintro e w0 ⟨rfl, hb0⟩; have BEL := Lib.hid hb0; have HB1 := Lib.hid (HB.out.later hb0); clear hb0)
      | (go_at_call 16; (with_reducible refine (CO _ HB1.out).out.mono ?_); rintro e w1 ⟨rfl, hb1⟩; have BEL1 := Lib.hid (BEL.out.trans (hb1.mono BEL.out.size)); have HB1' := Lib.hid (HB.out.later BEL1.out); clear hb1)
      | (go_at_call 17; (with_reducible refine (RO _ HB1'.out).out.mono ?_); rintro e w2 ⟨rfl, hb2⟩; have r1 := run_convert_by (ByW.nil w2); have BEL2 := Lib.hid (BEL1.out.trans (hb2.mono BEL1.out.size)); clear hb2))
    clear UP CO RO
    replace BEL := Lib.hid BEL2.out.drew
    have HB2 := Lib.hid (HB.out.later BEL.out)
    refine monoR_begin (R := Later) (by kernel_rfl) ?_
    refine monoR_take laterPre (i := 0) (v := ?_) rfl (by kernel_rfl) (by kernel_rfl) (by kernel_rfl) (fun _ _ _ h => h) (Or.inl ⟨by rfl, ?_⟩) ?_
    rotate_left 1
    · (intro wL hLater; go_simp; try with_reducible rfl)
    try simp only [Act.put, List.getElem_toArray, List.getElem_cons_zero, List.getElem_cons_succ, List.setIfInBounds_toArray, List.set_cons_zero, List.set_cons_succ]
    refine monoR_take laterPre (i := 1) (v := ?_) rfl (by kernel_rfl) (by kernel_rfl) (by kernel_rfl) (fun _ _ _ h => h) (Or.inl ⟨by rfl, ?_⟩) ?_
    rotate_left 1
    · (intro wL hLater; go_simp; try with_reducible rfl)
    try simp only [Act.put, List.getElem_toArray, List.getElem_cons_zero, List.getElem_cons_succ, List.setIfInBounds_toArray, List.set_cons_zero, List.set_cons_succ]
    refine monoR_take laterPre (i := 2) (v := ?_) rfl (by kernel_rfl) (by kernel_rfl) (by kernel_rfl) (fun _ _ _ h => h) (Or.inl ⟨by rfl, ?_⟩) ?_
    rotate_left 1
    · (intro wL hLater; go_simp; try with_reducible rfl)
    try simp only [Act.put, List.getElem_toArray, List.getElem_cons_zero, List.getElem_cons_succ, List.setIfInBounds_toArray, List.set_cons_zero, List.set_cons_succ]
    refine monoR_take laterPre (i := 3) (v := ?_) rfl (by kernel_rfl) (by kernel_rfl) (by kernel_rfl) (fun _ _ _ h => h) (Or.inl ⟨by rfl, ?_⟩) ?_
    rotate_left 1
    · (intro wL hLater; go_simp; try with_reducible rfl)
    try simp only [Act.put, List.getElem_toArray, List.getElem_cons_zero, List.getElem_cons_succ, List.setIfInBounds_toArray, List.set_cons_zero, List.set_cons_succ]
    refine monoR_take laterPre (i := 4) (v := ?_) rfl (by kernel_rfl) (by kernel_rfl) (by kernel_rfl) (fun _ _ _ h => h) (Or.inl ⟨by rfl, ?_⟩) ?_
    rotate_left 1
    · (intro wL hLater; go_simp; try with_reducible rfl)
    try simp only [Act.put, List.getElem_toArray, List.getElem_cons_zero, List.getElem_cons_succ, List.setIfInBounds_toArray, List.set_cons_zero, List.set_cons_succ]
    refine monoR_take laterPre (i := 5) (v := ?_) rfl (by kernel_rfl) (by kernel_rfl) (by kernel_rfl) (fun _ _ _ h => h) (Or.inl ⟨by rfl, ?_⟩) ?_
    rotate_left 1
    · (intro wL hLater; go_simp; try with_reducible rfl)
    try simp only [Act.put, List.getElem_toArray, List.getElem_cons_zero, List.getElem_cons_succ, List.setIfInBounds_toArray, List.set_cons_zero, List.set_cons_succ]
    refine monoR_take laterPre (i := 7) (v := ?_) rfl (by kernel_rfl) (by kernel_rfl) (by kernel_rfl) (fun _ _ _ h => h) (Or.inl ⟨by rfl, ?_⟩) ?_
    rotate_left 1
    · (intro wL hLater; go_simp; try with_reducible rfl)
    try simp only [Act.put, List.getElem_toArray, List.getElem_cons_zero, List.getElem_cons_succ, List.setIfInBounds_toArray, List.set_cons_zero, List.set_cons_succ]
    refine monoR_one (i := 6) (by kernel_rfl) rfl (fun K hK => ?_)
    try simp only [List.getElem_toArray, List.getElem_cons_zero, List.getElem_cons_succ]
    first | rw [if_pos (by rfl)] | skip
    (go_simp; go_at_call 18; (with_reducible refine (CS _ HB2.out).out.mono ?_); rintro e w3 ⟨rfl, rfl⟩)
    try go_wp2_with fail
    refine hK.out _ _ (laterPre.refl _) ?_
    clear hK K
    try simp only [Act.put, List.getElem_toArray, List.getElem_cons_zero, List.getElem_cons_succ, List.setIfInBounds_toArray, List.set_cons_zero, List.set_cons_succ]
    refine monoR_one (i := 8) (by kernel_rfl) rfl (fun K hK => ?_)
    try simp only [List.getElem_toArray, List.getElem_cons_zero, List.getElem_cons_succ]
    first | rw [if_pos (by rfl)] | skip
    (go_simp; go_at_call 19; (with_reducible refine (RS _ HB2.out).out.mono ?_); rintro e w3 ⟨rfl, rfl⟩)
    try go_wp2_with fail
    refine hK.out _ _ (laterPre.refl _) ?_
    clear hK K
    try simp only [Act.put, List.getElem_toArray, List.getElem_cons_zero, List.getElem_cons_succ, List.setIfInBounds_toArray, List.set_cons_zero, List.set_cons_succ]
    refine monoR_take laterPre (i := 9) (v := ?_) rfl (by kernel_rfl) (by kernel_rfl) (by kernel_rfl) (fun _ _ _ h => h) (Or.inl ⟨by rfl, ?_⟩) ?_
    rotate_left 1
    · (intro wL hLater; go_simp; try with_reducible rfl)
    try simp only [Act.put, List.getElem_toArray, List.getElem_cons_zero, List.getElem_cons_succ, List.setIfInBounds_toArray, List.set_cons_zero, List.set_cons_succ]
    refine monoR_take laterPre (i := 10) (v := ?_) rfl (by kernel_rfl) (by kernel_rfl) (by kernel_rfl) (fun _ _ _ h => h) (Or.inl ⟨by rfl, ?_⟩) ?_
    rotate_left 1
    · (intro wL hLater; go_simp; try with_reducible rfl)
    try simp only [Act.put, List.getElem_toArray, List.getElem_cons_zero, List.getElem_cons_succ, List.setIfInBounds_toArray, List.set_cons_zero, List.set_cons_succ]
    refine monoR_take laterPre (i := 11) (v := ?_) rfl (by kernel_rfl) (by kernel_rfl) (by kernel_rfl) (fun _ _ _ h => h) (Or.inl ⟨by rfl, ?_⟩) ?_
    rotate_left 1
    · (intro wL hLater; go_simp; try with_reducible rfl)
    try simp only [Act.put, List.getElem_toArray, List.getElem_cons_zero, List.getElem_cons_succ, List.setIfInBounds_toArray, List.set_cons_zero, List.set_cons_succ]
    refine monoR_take laterPre (i := 12) (v := ?_) rfl (by kernel_rfl) (by kernel_rfl) (by kernel_rfl) (fun _ _ _ h => h) (Or.inl ⟨by rfl, ?_⟩) ?_
    rotate_left 1
    · (intro wL hLater; go_simp; try with_reducible rfl)
    try simp only [Act.put, List.getElem_toArray, List.getElem_cons_zero, List.getElem_cons_succ, List.setIfInBounds_toArray, List.set_cons_zero, List.set_cons_succ]
    refine monoR_take laterPre (i := 15) (v := ?_) rfl (by kernel_rfl) (by kernel_rfl) (by kernel_rfl) (fun _ _ _ h => h) (Or.inl ⟨by rfl, ?_⟩) ?_
    rotate_left 1
    · (intro wL hLater; go_simp; try with_reducible rfl)
    try simp only [Act.put, List.getElem_toArray, List.getElem_cons_zero, List.getElem_cons_succ, List.setIfInBounds_toArray, List.set_cons_zero, List.set_cons_succ]
    refine monoR_one (i := 13) (by kernel_rfl) rfl (fun K hK => ?_)
    try simp only [List.getElem_toArray, List.getElem_cons_zero, List.getElem_cons_succ]
    first | rw [if_pos (by rfl)] | skip
    (go_simp; go_at_call 20; (with_reducible refine (CE _ HB2.out).out.mono ?_); rintro e w4 ⟨v4, rfl, h4, hb4⟩)
    try go_wp2_with fail
    refine hK.out _ _ (hb4) ?_
    clear hK K
    try simp only [Act.put, List.getElem_toArray, List.getElem_cons_zero, List.getElem_cons_succ, List.setIfInBounds_toArray, List.set_cons_zero, List.set_cons_succ]
    obtain ⟨o4, c4, rfl, _, _⟩ := h4.val
    have B4 := Lib.hid (h4.by (sealL_lt HB.out.ok))
    replace BEL := Lib.hid (BEL.out.trans (hb4.mono BEL.out.size))
    clear h4 hb4
    have HB3 := Lib.hid (HB.out.later BEL.out)
    refine monoR_take laterPre (i := 14) (v := ?_) rfl (by kernel_rfl) (by kernel_rfl) (by kernel_rfl) (fun _ _ _ h => h) (Or.inl ⟨by rfl, ?_⟩) ?_
    rotate_left 1
    · (intro wL hLater; have hc := run_convert_by (B4.out.later hLater); go_simp; try with_reducible rfl)
    try simp only [Act.put, List.getElem_toArray, List.getElem_cons_zero, List.getElem_cons_succ, List.setIfInBounds_toArray, List.set_cons_zero, List.set_cons_succ]
    refine monoR_one (i := 16) (by kernel_rfl) rfl (fun K hK => ?_)
    try simp only [List.getElem_toArray, List.getElem_cons_zero, List.getElem_cons_succ]
    first | rw [if_pos (by rfl)] | skip
    (go_simp; go_at_call 21; (with_reducible refine (RE _ HB3.out).out.mono ?_); rintro e w5 ⟨v5, rfl, h5, hb5⟩)
    try go_wp2_with fail
    refine hK.out _ _ (hb5) ?_
    clear hK K
    try simp only [Act.put, List.getElem_toArray, List.getElem_cons_zero, List.getElem_cons_succ, List.setIfInBounds_toArray, List.set_cons_zero, List.set_cons_succ]
    obtain ⟨o5, c5, rfl, _, _⟩ := h5.val
    have B5 := Lib.hid (h5.by (sealL_lt HB.out.ok))
    replace BEL := Lib.hid (BEL.out.trans (hb5.mono BEL.out.size))
    clear h5 hb5
    refine monoR_take laterPre (i := 17) (v := ?_) rfl (by kernel_rfl) (by kernel_rfl) (by kernel_rfl) (fun _ _ _ h => h) (Or.inl ⟨by rfl, ?_⟩) ?_
    rotate_left 1
    · (intro wL hLater; have hc := run_convert_by (B5.out.later hLater); go_simp; try with_reducible rfl)
    try simp only [Act.put, List.getElem_toArray, List.getElem_cons_zero, List.getElem_cons_succ, List.setIfInBounds_toArray, List.set_cons_zero, List.set_cons_succ]
    refine monoR_take laterPre (i := 18) (v := ?_) rfl (by kernel_rfl) (by kernel_rfl) (by kernel_rfl) (fun _ _ _ h => h) (Or.inl ⟨by rfl, ?_⟩) ?_
    rotate_left 1
    · (intro wL hLater; go_simp; try with_reducible rfl)
    try simp only [Act.put, List.getElem_toArray, List.getElem_cons_zero, List.getElem_cons_succ, List.setIfInBounds_toArray, List.set_cons_zero, List.set_cons_succ]
    refine monoR_take laterPre (i := 19) (v := ?_) rfl (by kernel_rfl) (by kernel_rfl) (by kernel_rfl) (fun _ _ _ h => h) (Or.inl ⟨by rfl, ?_⟩) ?_
    rotate_left 1
    · (intro wL hLater; go_simp; try with_reducible rfl)
    try simp only [Act.put, List.getElem_toArray, List.getElem_cons_zero, List.getElem_cons_succ, List.setIfInBounds_toArray, List.set_cons_zero, List.set_cons_succ]
    refine monoR_take laterPre (i := 20) (v := ?_) rfl (by kernel_rfl) (by kernel_rfl) (by kernel_rfl) (fun _ _ _ h => h) (Or.inl ⟨by rfl, ?_⟩) ?_
    rotate_left 1
    · (intro wL hLater; go_simp; try with_reducible rfl)
    try simp only [Act.put, List.getElem_toArray, List.getElem_cons_zero, List.getElem_cons_succ, List.setIfInBounds_toArray, List.set_cons_zero, List.set_cons_succ]
    refine monoR_done (by kernel_rfl) ?_ _
    go_wp2
    go_ret
    exact ⟨rfl, BEL.out⟩
  | some m =>
    have CO := fun w' (h : ByW w' b (.slice oa b.length cap)) => Lib.hid (open_some h hlen ho)
    have RO := fun w' (h : ByW w' b (.slice oa b.length cap)) => Lib.hid (refOpen_some h hlen ho)
    have hm := openL_ok ho HB.out.ok
    clear ho
    go_enter Try.func4, Try.ntmps4
    go_wp2_with (first
      | (go_at_call 7; (with_reducible refine UP.out.mono ?_); rintro e w0 ⟨rfl, hb0⟩; have BEL := Lib.hid hb0; have HB1 := Lib.hid (HB.out.later hb0); clear hb0)
      | (go_at_call 16; (with_reducible refine (CO _ HB1.out).out.mono ?_); rintro e w1 ⟨v1, rfl, h1, hb1⟩; obtain ⟨o1, c1, rfl, _, _⟩ := h1.val; have B1 := Lib.hid (h1.by hm); have BEL1 := Lib.hid (BEL.out.trans (hb1.mono BEL.out.size)); have HB1' := Lib.hid (HB.out.later BEL1.out); clear h1 hb1)
      | (go_at_call 17; (with_reducible refine (RO _ HB1'.out).out.mono ?_); rintro e w2 ⟨v2, rfl, h2, hb2⟩; obtain ⟨o2, c2, rfl, _, _⟩ := h2.val; have r1 := run_convert_by (B1.out.later hb2); have r2 := run_convert_by (h2.by hm); have BEL2 := Lib.hid (BEL1.out.trans (hb2.mono BEL1.out.size)); clear h2 hb2))
    clear UP CO RO
    replace BEL := Lib.hid BEL2.out.drew
    have HB2 := Lib.hid (HB.out.later BEL.out)
    refine monoR_begin (R := Later) (by kernel_rfl) ?_
    refine monoR_take laterPre (i := 0) (v := ?_) rfl (by kernel_rfl) (by kernel_rfl) (by kernel_rfl) (fun _ _ _ h => h) (Or.inl ⟨by rfl, ?_⟩) ?_
    rotate_left 1
    · (intro wL hLater; go_simp; try with_reducible rfl)
    try simp only [Act.put, List.getElem_toArray, List.getElem_cons_zero, List.getElem_cons_succ, List.setIfInBounds_toArray, List.set_cons_zero, List.set_cons_succ]
    refine monoR_take laterPre (i := 1) (v := ?_) rfl (by kernel_rfl) (by kernel_rfl) (by kernel_rfl) (fun _ _ _ h => h) (Or.inl ⟨by rfl, ?_⟩) ?_
    rotate_left 1
    · (intro wL hLater; go_simp; try with_reducible rfl)
    try simp only [Act.put, List.getElem_toArray, List.getElem_cons_zero, List.getElem_cons_succ, List.setIfInBounds_toArray, List.set_cons_zero, List.set_cons_succ]
    refine monoR_take laterPre (i := 2) (v := ?_) rfl (by kernel_rfl) (by kernel_rfl) (by kernel_rfl) (fun _ _ _ h => h) (Or.inl ⟨by rfl, ?_⟩) ?_
    rotate_left 1
    · (intro wL hLater; go_simp; try with_reducible rfl)
    try simp only [Act.put, List.getElem_toArray, List.getElem_cons_zero, List.getElem_cons_succ, List.setIfInBounds_toArray, List.set_cons_zero, List.set_cons_succ]
    refine monoR_take laterPre (i := 3) (v := ?_) rfl (by kernel_rfl) (by kernel_rfl) (by kernel_rfl) (fun _ _ _ h => h) (Or.inl ⟨by rfl, ?_⟩) ?_
    rotate_left 1
    · (intro wL hLater; go_simp; try with_reducible rfl)
    try simp only [Act.put, List.getElem_toArray, List.getElem_cons_zero, List.getElem_cons_succ, List.setIfInBounds_toArray, List.set_cons_zero, List.set_cons_succ]
    refine monoR_take laterPre (i := 4) (v := ?_) rfl (by kernel_rfl) (by kernel_rfl) (by kernel_rfl) (fun _ _ _ h => h) (Or.inl ⟨by rfl, ?_⟩) ?_
    rotate_left 1
    · (intro wL hLater; go_simp; try with_reducible rfl)
    try simp only [Act.put, List.getElem_toArray, List.getElem_cons_zero, List.getElem_cons_succ, List.setIfInBounds_toArray, List.set_cons_zero, List.set_cons_succ]
    refine monoR_take laterPre (i := 5) (v := ?_) rfl (by kernel_rfl) (by kernel_rfl) (by kernel_rfl) (fun _ _ _ h => h) (Or.inl ⟨by rfl, ?_⟩) ?_
    rotate_left 1
    · (intro wL hLater; go_simp; try with_reducible rfl)
    try simp only [Act.put, List.getElem_toArray, List.getElem_cons_zero, List.getElem_cons_succ, List.setIfInBounds_toArray, List.set_cons_zero, List.set_cons_succ]
    refine monoR_take laterPre (i := 7) (v := ?_) rfl (by kernel_rfl) (by kernel_rfl) (by kernel_rfl) (fun _ _ _ h => h) (Or.inl ⟨by rfl, ?_⟩) ?_
    rotate_left 1
    · (intro wL hLater; go_simp; try with_reducible rfl)
    try simp only [Act.put, List.getElem_toArray, List.getElem_cons_zero, List.getElem_cons_succ, List.setIfInBounds_toArray, List.set_cons_zero, List.set_cons_succ]
    refine monoR_one (i := 6) (by kernel_rfl) rfl (fun K hK => ?_)
    try simp only [List.getElem_toArray, List.getElem_cons_zero, List.getElem_cons_succ]
    first | rw [if_pos (by rfl)] | skip
    (go_simp; go_at_call 18; (with_reducible refine (CS _ HB2.out).out.mono ?_); rintro e w3 ⟨rfl, rfl⟩)
    try go_wp2_with fail
    refine hK.out _ _ (laterPre.refl _) ?_
    clear hK K
    try simp only [Act.put, List.getElem_toArray, List.getElem_cons_zero, List.getElem_cons_succ, List.setIfInBounds_toArray, List.set_cons_zero, List.set_cons_succ]
    refine monoR_one (i := 8) (by kernel_rfl) rfl (fun K hK => ?_)
    try simp only [List.getElem_toArray, List.getElem_cons_zero, List.getElem_cons_succ]
    first | rw [if_pos (by rfl)] | skip
    (go_simp; go_at_call 19; (with_reducible refine (RS _ HB2.out).out.mono ?_); rintro e w3 ⟨rfl, rfl⟩)
    try go_wp2_with fail
    refine hK.out _ _ (laterPre.refl _) ?_
    clear hK K
    try simp only [Act.put, List.getElem_toArray, List.getElem_cons_zero, List.getElem_cons_succ, List.setIfInBounds_toArray, List.set_cons_zero, List.set_cons_succ]
    refine monoR_take laterPre (i := 9) (v := ?_) rfl (by kernel_rfl) (by kernel_rfl) (by kernel_rfl) (fun _ _ _ h => h) (Or.inl ⟨by rfl, ?_⟩) ?_
    rotate_left 1
    · (intro wL hLater; go_simp; try with_reducible rfl)
    try simp only [Act.put, List.getElem_toArray, List.getElem_cons_zero, List.getElem_cons_succ, List.setIfInBounds_toArray, List.set_cons_zero, List.set_cons_succ]
    refine monoR_take laterPre (i := 10) (v := ?_) rfl (by kernel_rfl) (by kernel_rfl) (by kernel_rfl) (fun _ _ _ h => h) (Or.inl ⟨by rfl, ?_⟩) ?_
    rotate_left 1
    · (intro wL hLater; go_simp; try with_reducible rfl)
    try simp only [Act.put, List.getElem_toArray, List.getElem_cons_zero, List.getElem_cons_succ, List.setIfInBounds_toArray, List.set_cons_zero, List.set_cons_succ]
    refine monoR_take laterPre (i := 11) (v := ?_) rfl (by kernel_rfl) (by kernel_rfl) (by kernel_rfl) (fun _ _ _ h => h) (Or.inl ⟨by rfl, ?_⟩) ?_
    rotate_left 1
    · (intro wL hLater; go_simp; try with_reducible rfl)
    try simp only [Act.put, List.getElem_toArray, List.getElem_cons_zero, List.getElem_cons_succ, List.setIfInBounds_toArray, List.set_cons_zero, List.set_cons_succ]
    refine monoR_take laterPre (i := 12) (v := ?_) rfl (by kernel_rfl) (by kernel_rfl) (by kernel_rfl) (fun _ _ _ h => h) (Or.inl ⟨by rfl, ?_⟩) ?_
    rotate_left 1
    · (intro wL hLater; go_simp; try with_reducible rfl)
    try simp only [Act.put, List.getElem_toArray, List.getElem_cons_zero, List.getElem_cons_succ, List.setIfInBounds_toArray, List.set_cons_zero, List.set_cons_succ]
    refine monoR_take laterPre (i := 15) (v := ?_) rfl (by kernel_rfl) (by kernel_rfl) (by kernel_rfl) (fun _ _ _ h => h) (Or.inl ⟨by rfl, ?_⟩) ?_
    rotate_left 1
    · (intro wL hLater; go_simp; try with_reducible rfl)
    try simp only [Act.put, List.getElem_toArray, List.getElem_cons_zero, List.getElem_cons_succ, List.setIfInBounds_toArray, List.set_cons_zero, List.set_cons_succ]
    refine monoR_one (i := 13) (by kernel_rfl) rfl (fun K hK => ?_)
    try simp only [List.getElem_toArray, List.getElem_cons_zero, List.getElem_cons_succ]
    first | rw [if_pos (by rfl)] | skip
    (go_simp; go_at_call 20; (with_reducible refine (CE _ HB2.out).out.mono ?_); rintro e w4 ⟨v4, rfl, h4, hb4⟩)
    try go_wp2_with fail
    refine hK.out _ _ (hb4) ?_
    clear hK K
    try simp only [Act.put, List.getElem_toArray, List.getElem_cons_zero, List.getElem_cons_succ, List.setIfInBounds_toArray, List.set_cons_zero, List.set_cons_succ]
    obtain ⟨o4, c4, rfl, _, _⟩ := h4.val
    have B4 := Lib.hid (h4.by (sealL_lt HB.out.ok))
    replace BEL := Lib.hid (BEL.out.trans (hb4.mono BEL.out.size))
    clear h4 hb4
    have HB3 := Lib.hid (HB.out.later BEL.out)
    refine monoR_take laterPre (i := 14) (v := ?_) rfl (by kernel_rfl) (by kernel_rfl) (by kernel_rfl) (fun _ _ _ h => h) (Or.inl ⟨by rfl, ?_⟩) ?_
    rotate_left 1
    · (intro wL hLater; have hc := run_convert_by (B4.out.later hLater); go_simp; try with_reducible rfl)
    try simp only [Act.put, List.getElem_toArray, List.getElem_cons_zero, List.getElem_cons_succ, List.setIfInBounds_toArray, List.set_cons_zero, List.set_cons_succ]
    refine monoR_one (i := 16) (by kernel_rfl) rfl (fun K hK => ?_)
    try simp only [List.getElem_toArray, List.getElem_cons_zero, List.getElem_cons_succ]
    first | rw [if_pos (by rfl)] | skip
    (go_simp; go_at_call 21; (with_reducible refine (RE _ HB3.out).out.mono ?_); rintro e w5 ⟨v5, rfl, h5, hb5⟩)
    try go_wp2_with fail
    refine hK.out _ _ (hb5) ?_
    clear hK K
    try simp only [Act.put, List.getElem_toArray, List.getElem_cons_zero, List.getElem_cons_succ, List.setIfInBounds_toArray, List.set_cons_zero, List.set_cons_succ]
    obtain ⟨o5, c5, rfl, _, _⟩ := h5.val
    have B5 := Lib.hid (h5.by (sealL_lt HB.out.ok))
    replace BEL := Lib.hid (BEL.out.trans (hb5.mono BEL.out.size))
    clear h5 hb5
    refine monoR_take laterPre (i := 17) (v := ?_) rfl (by kernel_rfl) (by kernel_rfl) (by kernel_rfl) (fun _ _ _ h => h) (Or.inl ⟨by rfl, ?_⟩) ?_
    rotate_left 1
    · (intro wL hLater; have hc := run_convert_by (B5.out.later hLater); go_simp; try with_reducible rfl)
    try simp only [Act.put, List.getElem_toArray, List.getElem_cons_zero, List.getElem_cons_succ, List.setIfInBounds_toArray, List.set_cons_zero, List.set_cons_succ]
    refine monoR_take laterPre (i := 18) (v := ?_) rfl (by kernel_rfl) (by kernel_rfl) (by kernel_rfl) (fun _ _ _ h => h) (Or.inl ⟨by rfl, ?_⟩) ?_
    rotate_left 1
    · (intro wL hLater; go_simp; try with_reducible rfl)
    try simp only [Act.put, List.getElem_toArray, List.getElem_cons_zero, List.getElem_cons_succ, List.setIfInBounds_toArray, List.set_cons_zero, List.set_cons_succ]
    refine monoR_take laterPre (i := 19) (v := ?_) rfl (by kernel_rfl) (by kernel_rfl) (by kernel_rfl) (fun _ _ _ h => h) (Or.inl ⟨by rfl, ?_⟩) ?_
    rotate_left 1
    · (intro wL hLater; go_simp; try with_reducible rfl)
    try simp only [Act.put, List.getElem_toArray, List.getElem_cons_zero, List.getElem_cons_succ, List.setIfInBounds_toArray, List.set_cons_zero, List.set_cons_succ]
    refine monoR_take laterPre (i := 20) (v := ?_) rfl (by kernel_rfl) (by kernel_rfl) (by kernel_rfl) (fun _ _ _ h => h) (Or.inl ⟨by rfl, ?_⟩) ?_
    rotate_left 1
    · (intro wL hLater; go_simp; try with_reducible rfl)
    try simp only [Act.put, List.getElem_toArray, List.getElem_cons_zero, List.getElem_cons_succ, List.setIfInBounds_toArray, List.set_cons_zero, List.set_cons_succ]
    refine monoR_done (by kernel_rfl) ?_ _
    go_wp2
    go_ret
    exact ⟨rfl, BEL.out⟩
end Go.Proofs.Ytghnephjgffenaa
