/- CodeBack: the law's walk. -/
import Derived.Test.YtghnephjgffenaaCodUp
import Derived.Test.YtghnephjgffenaaByA
import Derived.Deep.DeepCutAuto
namespace Go.Proofs.Ytghnephjgffenaa
set_option linter.unusedVariables false
set_option linter.unusedSimpArgs false
set_option maxRecDepth 100000
open Go.RowKit

theorem slA_zero (oa : Option Addr) (m : Nat) : slA oa 0 m = oa := by
  unfold slA
  split
  · rfl
  · cases oa with
    | none => rfl
    | some a => simp [Addr.add]
theorem ByW.clip {w : World} {l : List Nat} {oa : Option Addr} {n cap : Nat} (h : ByW w l (.slice oa n cap)) : ByW w l (.slice oa l.length l.length) := by
  obtain ⟨oa', cap', e, h1, h2⟩ := h.val
  cases e
  have := h.part 0 l.length l.length (Nat.zero_le _) (Nat.le_refl _) (Nat.le_refl _) h1
  rwa [slA_zero, List.take_length, List.drop_zero, Nat.sub_zero] at this
theorem ByW.take {w : World} {l : List Nat} {oa : Option Addr} {n cap : Nat} (h : ByW w l (.slice oa n cap)) (k : Nat) (hk : k ≤ l.length) : ByW w (l.take k) (.slice (slA oa 0 cap) k cap) := h.upto k hk
attribute [local go_sem ↓] run_slice_hI run_slice_lhI run_slice_lI
set_option maxHeartbeats 8000000 in
set_option maxRecDepth 100000 in
theorem codeBack_calls (n : Int) (s : ByteArray) (b : List Nat) (v : Value) (w : World) (hB : ByW w b v) :
    Calls Try.prog 5 #[.int .i64 n, .string s, v] w fun e w' => e = .returned (.bool true) ∧ Below w.heap.size w w' := by
  have UP := Lib.hid (codeUp_calls w)
  have HB := Lib.hid hB
  obtain ⟨oa, cap, rfl, hcap, hmax⟩ := hB.val
  by_cases h0 : 10000 < b.length
  · have q : decide ((10000 : Int) < b.length) = true := by simp; omega
    clear hB
    go_enter Try.func5, Try.ntmps5
    go_wp2_with (go_at_call 7; (with_reducible refine UP.out.mono ?_); rintro e w0 ⟨rfl, hb0⟩)
    go_ret
    exact ⟨rfl, hb0⟩
  have q : decide ((10000 : Int) < b.length) = false := by simp; omega
  have hlen : b.length ≤ 140737488350000 := by omega
  -- the number
  have CN := fun w' => Lib.hid (num_calls n w')
  have GN := fun u w' h => Lib.hid (getNum_calls (numL n ++ b) u w' h)
  have hnl : (numL n).length ≤ 5 := by
    by_cases h : -2147483648 ≤ n ∧ n ≤ 2147483647
    · exact (numL_len h).2
    · unfold numL; rw [if_neg h]; simp
  have HNok := Lib.hid (numL_lt n)
  have hcase : (-2147483648 ≤ n ∧ n < 2147483648 ∧ (getN (numL n ++ b)).1 = n ∧ (getN (numL n ++ b)).2 = (numL n).length ∧ 1 ≤ (numL n).length) ∨ (n < -2147483648 ∧ (numL n).length = 0) ∨ (2147483648 ≤ n ∧ (numL n).length = 0) := by
    by_cases h : -2147483648 ≤ n ∧ n ≤ 2147483647
    · have := get_num h b
      exact .inl ⟨by omega, by omega, by rw [this], by rw [this], (numL_len h).1⟩
    · have e : numL n = [] := by unfold numL; rw [if_neg h]
      rw [e]
      by_cases h1 : n < -2147483648
      · exact .inr (.inl ⟨h1, rfl⟩)
      · exact .inr (.inr ⟨by omega, rfl⟩)
  generalize hGN : getN (numL n ++ b) = gn at *
  obtain ⟨x, used⟩ := gn
  generalize numL n = nb at *
  have CNL := Lib.hid hcase
  clear hcase hGN
  -- the text
  have CT := fun w' => Lib.hid (text_calls' s w')
  have GT := fun u w' h => Lib.hid (getText_calls (txtL (nl s) ++ b) u w' h)
  have htl : (txtL (nl s)).length ≤ 9 := by
    unfold txtL
    split
    · simp; omega
    · simp
  have HTok : Hid (∀ m ∈ txtL (nl s), m < 256) := by
    show ∀ m ∈ txtL (nl s), m < 256
    unfold txtL
    split
    · rename_i h
      intro m hm
      rcases List.mem_cons.1 hm with e | e
      · subst e; omega
      · exact nl_lt s m e
    · intro m hm; cases hm
  have tcase : (s.size ≤ 8 ∧ strN (getT (txtL (nl s) ++ b)).1 = s ∧ (getT (txtL (nl s) ++ b)).2 = s.size + 1 ∧ (txtL (nl s)).length = s.size + 1) ∨ (8 < s.size ∧ (txtL (nl s)).length = 0) := by
    by_cases h : s.size ≤ 8
    · have e := get_text (s := nl s) (by rw [nl_len]; exact h) b
      refine .inl ⟨h, by rw [e]; exact strN_nl s, by rw [e, nl_len], ?_⟩
      unfold txtL
      rw [nl_len, if_pos h, List.length_cons, nl_len]
    · refine .inr ⟨by omega, ?_⟩
      unfold txtL
      rw [nl_len, if_neg h]; rfl
  generalize strN (getT (txtL (nl s) ++ b)).1 = t at *
  generalize (getT (txtL (nl s) ++ b)).2 = many at *
  generalize txtL (nl s) = tb at *
  have CTL := Lib.hid tcase
  clear tcase
  -- what is got
  have hbok := hB.ok
  have GB := fun w' h => Lib.hid (getNum_calls b (.slice oa b.length cap) w' h)
  have GX := fun w' h => Lib.hid (getText_calls b (.slice oa b.length cap) w' h)
  have CN2 := fun w' => Lib.hid (num_calls (getN b).1 w')
  have CT2 := fun w' => Lib.hid (text_calls' (strN (getT b).1) w')
  have kle := (getN_le hbok).1
  have mle := (getT_le hbok).1
  have HKN := Lib.hid (fun h => num_get (l := b) hbok h)
  have HMT := Lib.hid (fun h => (text_get (l := b) hbok h).1)
  have HKok := Lib.hid (numL_lt (getN b).1)
  have htxb : ∀ m ∈ (getT b).1, m < 256 := by
    unfold getT
    split
    · intro m hm; cases hm
    · exact fun m hm => hbok m (List.mem_of_mem_drop (List.mem_of_mem_take hm))
  have HMn := Lib.hid (nl_strN htxb)
  generalize (getN b).1 = y at *
  generalize (getN b).2 = k at *
  have HMok : Hid (∀ m ∈ txtL (nl (strN (getT b).1)), m < 256) := by
    show ∀ m ∈ txtL (nl (strN (getT b).1)), m < 256
    rw [HMn.out]
    unfold txtL
    split
    · intro m hm
      rcases List.mem_cons.1 hm with e | e
      · subst e; omega
      · exact htxb m e
    · intro m hm; cases hm
  rw [HMn.out] at CT2 HMok
  generalize (getT b).2 = m at *
  generalize (getT b).1 = zb at *
  clear htxb HMn hbok
  have CE := fun w' h => Lib.hid (seal_calls b (.slice oa b.length cap) w' h hlen)
  have CO := fun u w' (h : ByW w' (sealL b) u) => Lib.hid (open_some h (by simp [sealL, fourL_len]; omega) (open_seal b))
  have HSok := Lib.hid (sealL_lt hB.ok)
  have HBok := Lib.hid hB.ok
  clear hB
  go_enter Try.func5, Try.ntmps5
  go_upto_region 6 with (first
    | (go_at_call 7; (with_reducible refine UP.out.mono ?_); rintro e w0 ⟨rfl, hb0⟩; have BEL := Lib.hid hb0; clear hb0)
    | (go_at_call 8; (with_reducible refine (CN _).out.mono ?_); rintro e w1 ⟨v1, rfl, h1, hb1⟩; obtain ⟨o1, c1, rfl, hc1, hc1m⟩ := h1.val; have B1 := Lib.hid (h1.by HNok.out); replace BEL := Lib.hid (BEL.out.trans (hb1.mono BEL.out.size)); have HP1 := Lib.hid (fun ty => run_append_clip ty B1.out.clip (HB.out.later BEL.out) (by omega)); clear h1 hb1)
    | (at_builtin; obtain ⟨v2, w2, hrun, hown, hgr⟩ := HP1.out _; refine Lib.wpList_append_run _ rfl _ _ _ _ rfl _ _ rfl rfl _ _ hrun ?_; have BEL1 := Lib.hid (BEL.out.trans (hgr.mono BEL.out.size)); have B2 := Lib.hid hown; clear hown hgr HP1 hrun)
    | (go_at_call 12; (with_reducible refine (GN _ _ B2.out).out.mono ?_); rintro e w3 ⟨rfl, rfl⟩))
  go_cut [76] (fun r wx => r = .bool false ∧ Hid (Below w.heap.size w wx))
  case first =>
    rcases CNL.out with ⟨a1, a2, a3, a4, a5⟩ | ⟨a1, a2⟩ | ⟨a1, a2⟩
    · subst a3 a4
      have z1 : decide ((-2147483648 : Int) ≤ x) = true := by simp; omega
      have z2 : decide (x < (2147483648 : Int)) = true := by simp; omega
      have z3 : decide (x < (-2147483648 : Int)) = false := by simp; omega
      have z4 : decide ((2147483648 : Int) ≤ x) = false := by simp; omega
      have z5 : decide ((nb.length : Int) < 1) = false := by simp; omega
      have z6 : decide ((5 : Int) < (nb.length : Int)) = false := by simp; omega
      go_wp2_with fail
      go_meet
      exact ⟨rfl, BEL1.out⟩
    · have z1 : decide ((-2147483648 : Int) ≤ n) = false := by simp; omega
      have z3 : decide (n < (-2147483648 : Int)) = true := by simp; omega
      go_wp2_with fail
      go_meet
      exact ⟨rfl, BEL1.out⟩
    · have z1 : decide ((-2147483648 : Int) ≤ n) = true := by simp; omega
      have z2 : decide (n < (2147483648 : Int)) = false := by simp; omega
      have z3 : decide (n < (-2147483648 : Int)) = false := by simp; omega
      have z4 : decide ((2147483648 : Int) ≤ n) = true := by simp; omega
      go_wp2_with fail
      go_meet
      exact ⟨rfl, BEL1.out⟩
  case rest =>
  clear CNL B2 BEL1 BEL B1
  obtain ⟨rfl, BEL⟩ := hcut
  go_upto_region 10 with (first
    | (go_at_call 10; (with_reducible refine (CT _).out.mono ?_); rintro e w1 ⟨v1, rfl, h1, hb1⟩; obtain ⟨o1, c1, rfl, hc1, hc1m⟩ := h1.val; have B1 := Lib.hid (h1.by HTok.out); replace BEL := Lib.hid (BEL.out.trans (hb1.mono BEL.out.size)); have HP1 := Lib.hid (fun ty => run_append_clip ty B1.out.clip (HB.out.later BEL.out) (by omega)); clear h1 hb1)
    | (at_builtin; obtain ⟨v2, w2, hrun, hown, hgr⟩ := HP1.out _; refine Lib.wpList_append_run _ rfl _ _ _ _ rfl _ _ rfl rfl _ _ hrun ?_; have BEL1 := Lib.hid (BEL.out.trans (hgr.mono BEL.out.size)); have B2 := Lib.hid hown; clear hown hgr HP1 hrun)
    | (go_at_call 14; (with_reducible refine (GT _ _ B2.out).out.mono ?_); rintro e w3 ⟨rfl, rfl⟩))
  go_cut [121] (fun r wx => r = .bool false ∧ Hid (Below w.heap.size w wx))
  case first =>
    rcases CTL.out with ⟨a1, a2, a3, a4⟩ | ⟨a1, a2⟩
    · have z1 : decide ((s.size : Int) ≤ 8) = true := by simp; omega
      have z2 : decide ((8 : Int) < s.size) = false := by simp; omega
      have A4 := Lib.hid a4
      subst a2 a3
      have z3 : ((t.size : Int) + 1 == (tb.length : Int)) = true := by simp; omega
      have z4 : ((t.size : Int) + 1 != (tb.length : Int)) = false := by simp; omega
      clear a4
      go_wp2_with fail
      go_meet
      exact ⟨rfl, BEL1.out⟩
    · have z1 : decide ((s.size : Int) ≤ 8) = false := by simp; omega
      have z2 : decide ((8 : Int) < s.size) = true := by simp; omega
      go_wp2_with fail
      go_meet
      exact ⟨rfl, BEL1.out⟩
  case rest =>
  clear CTL B2 BEL1 BEL B1
  obtain ⟨rfl, BEL⟩ := hcut
  have HBP := Lib.hid (HB.out.later BEL.out)
  go_upto_region 16 with (first
    | (go_at_call 12; (with_reducible refine (GB _ HBP.out).out.mono ?_); rintro e w3 ⟨rfl, rfl⟩)
    | (go_at_call 14; (with_reducible refine (GX _ HBP.out).out.mono ?_); rintro e w3 ⟨rfl, rfl⟩))
  go_cut [175] (fun r wx => r = .bool false ∧ Hid (Below w.heap.size w wx))
  case first =>
    have BEL := Lib.hid BEL.out.drew
    by_cases hk : 0 < k
    · have e := HKN.out hk
      rw [e] at CN2 HKok
      have HBK := Lib.hid (HBP.out.take k kle).drew
      generalize b.take k = bk at *
      have s1 : (k : Int) ≤ cap := by omega
      have s2 : (0 : Int) ≤ k := by omega
      have z1 : decide ((0 : Int) < k) = true := by simp; omega
      clear e
      by_cases hm : 0 < m
      · have e := HMT.out hm
        rw [e] at CT2 HMok
        have HMK := Lib.hid (HBP.out.take m mle).drew
        generalize b.take m = bm at *
        have s3 : (m : Int) ≤ cap := by omega
        have s4 : (0 : Int) ≤ m := by omega
        have z2 : decide ((0 : Int) < m) = true := by simp; omega
        clear e
        clear HKN HMT
        refine monoR_begin (R := Later) (by kernel_rfl) ?_
        refine monoR_take laterPre (i := 0) (v := ?_) rfl (by kernel_rfl) (by kernel_rfl) (by kernel_rfl) (fun _ _ _ h => h) (Or.inl ⟨by rfl, ?_⟩) ?_
        rotate_left 1
        · (intro wL hLater; go_simp; try with_reducible rfl)
        try simp only [Act.put, List.getElem_toArray, List.getElem_cons_zero, List.getElem_cons_succ, List.setIfInBounds_toArray, List.set_cons_zero, List.set_cons_succ]
        refine monoR_take laterPre (i := 1) (v := ?_) rfl (by kernel_rfl) (by kernel_rfl) (by kernel_rfl) (fun _ _ _ h => h) (Or.inl ⟨by rfl, ?_⟩) ?_
        rotate_left 1
        · (intro wL hLater; go_simp; try with_reducible rfl)
        try simp only [Act.put, List.getElem_toArray, List.getElem_cons_zero, List.getElem_cons_succ, List.setIfInBounds_toArray, List.set_cons_zero, List.set_cons_succ]
        refine monoR_take laterPre (i := 2) (v := ?_) rfl (by kernel_rfl) (by kernel_rfl) (by kernel_rfl) (fun _ _ _ h => h) (Or.inl ⟨by rfl, ?_⟩) ?_
        rotate_left 1
        · (intro wL hLater; go_simp; try with_reducible rfl)
        try simp only [Act.put, List.getElem_toArray, List.getElem_cons_zero, List.getElem_cons_succ, List.setIfInBounds_toArray, List.set_cons_zero, List.set_cons_succ]
        refine monoR_take laterPre (i := 3) (v := ?_) rfl (by kernel_rfl) (by kernel_rfl) (by kernel_rfl) (fun _ _ _ h => h) (Or.inl ⟨by rfl, ?_⟩) ?_
        rotate_left 1
        · (intro wL hLater; go_simp; try with_reducible rfl)
        try simp only [Act.put, List.getElem_toArray, List.getElem_cons_zero, List.getElem_cons_succ, List.setIfInBounds_toArray, List.set_cons_zero, List.set_cons_succ]
        refine monoR_take laterPre (i := 6) (v := ?_) rfl (by kernel_rfl) (by kernel_rfl) (by kernel_rfl) (fun _ _ _ h => h) (Or.inl ⟨by rfl, ?_⟩) ?_
        rotate_left 1
        · (intro wL hLater; go_simp; try with_reducible rfl)
        try simp only [Act.put, List.getElem_toArray, List.getElem_cons_zero, List.getElem_cons_succ, List.setIfInBounds_toArray, List.set_cons_zero, List.set_cons_succ]
        refine monoR_take laterPre (i := 7) (v := ?_) rfl (by kernel_rfl) (by kernel_rfl) (by kernel_rfl) (fun _ _ _ h => h) (Or.inl ⟨by rfl, ?_⟩) ?_
        rotate_left 1
        · (intro wL hLater; go_simp; try with_reducible rfl)
        try simp only [Act.put, List.getElem_toArray, List.getElem_cons_zero, List.getElem_cons_succ, List.setIfInBounds_toArray, List.set_cons_zero, List.set_cons_succ]
        refine monoR_take laterPre (i := 8) (v := ?_) rfl (by kernel_rfl) (by kernel_rfl) (by kernel_rfl) (fun _ _ _ h => h) (Or.inl ⟨by rfl, ?_⟩) ?_
        rotate_left 1
        · (intro wL hLater; go_simp; try with_reducible rfl)
        try simp only [Act.put, List.getElem_toArray, List.getElem_cons_zero, List.getElem_cons_succ, List.setIfInBounds_toArray, List.set_cons_zero, List.set_cons_succ]
        refine monoR_take laterPre (i := 9) (v := ?_) rfl (by kernel_rfl) (by kernel_rfl) (by kernel_rfl) (fun _ _ _ h => h) (Or.inl ⟨by rfl, ?_⟩) ?_
        rotate_left 1
        · (intro wL hLater; have hc := run_convert_by (HBK.out.later hLater); go_simp; try with_reducible rfl)
        try simp only [Act.put, List.getElem_toArray, List.getElem_cons_zero, List.getElem_cons_succ, List.setIfInBounds_toArray, List.set_cons_zero, List.set_cons_succ]
        refine monoR_one (i := 4) (by kernel_rfl) rfl (fun K hK => ?_)
        try simp only [List.getElem_toArray, List.getElem_cons_zero, List.getElem_cons_succ]
        first | rw [if_pos (by rfl)] | skip
        (go_simp; go_at_call 8; (with_reducible refine (CN2 _).out.mono ?_); rintro e w6 ⟨v6, rfl, h6, hb6⟩)
        try go_wp2_with fail
        refine hK.out _ _ (hb6) ?_
        clear hK K
        try simp only [Act.put, List.getElem_toArray, List.getElem_cons_zero, List.getElem_cons_succ, List.setIfInBounds_toArray, List.set_cons_zero, List.set_cons_succ]
        obtain ⟨o6, c6, rfl, _, _⟩ := h6.val
        have B6 := Lib.hid (h6.by HKok.out)
        replace BEL := Lib.hid (BEL.out.trans (hb6.mono BEL.out.size))
        replace HBK := Lib.hid (HBK.out.later hb6)
        replace HMK := Lib.hid (HMK.out.later hb6)
        clear h6 hb6
        refine monoR_take laterPre (i := 5) (v := ?_) rfl (by kernel_rfl) (by kernel_rfl) (by kernel_rfl) (fun _ _ _ h => h) (Or.inl ⟨by rfl, ?_⟩) ?_
        rotate_left 1
        · (intro wL hLater; have hc := run_convert_by (B6.out.later hLater); go_simp; try with_reducible rfl)
        try simp only [Act.put, List.getElem_toArray, List.getElem_cons_zero, List.getElem_cons_succ, List.setIfInBounds_toArray, List.set_cons_zero, List.set_cons_succ]
        refine monoR_take laterPre (i := 10) (v := ?_) rfl (by kernel_rfl) (by kernel_rfl) (by kernel_rfl) (fun _ _ _ h => h) (Or.inl ⟨by rfl, ?_⟩) ?_
        rotate_left 1
        · (intro wL hLater; go_simp; try with_reducible rfl)
        try simp only [Act.put, List.getElem_toArray, List.getElem_cons_zero, List.getElem_cons_succ, List.setIfInBounds_toArray, List.set_cons_zero, List.set_cons_succ]
        refine monoR_take laterPre (i := 11) (v := ?_) rfl (by kernel_rfl) (by kernel_rfl) (by kernel_rfl) (fun _ _ _ h => h) (Or.inl ⟨by rfl, ?_⟩) ?_
        rotate_left 1
        · (intro wL hLater; go_simp; try with_reducible rfl)
        try simp only [Act.put, List.getElem_toArray, List.getElem_cons_zero, List.getElem_cons_succ, List.setIfInBounds_toArray, List.set_cons_zero, List.set_cons_succ]
        refine monoR_take laterPre (i := 12) (v := ?_) rfl (by kernel_rfl) (by kernel_rfl) (by kernel_rfl) (fun _ _ _ h => h) (Or.inl ⟨by rfl, ?_⟩) ?_
        rotate_left 1
        · (intro wL hLater; go_simp; try with_reducible rfl)
        try simp only [Act.put, List.getElem_toArray, List.getElem_cons_zero, List.getElem_cons_succ, List.setIfInBounds_toArray, List.set_cons_zero, List.set_cons_succ]
        refine monoR_take laterPre (i := 13) (v := ?_) rfl (by kernel_rfl) (by kernel_rfl) (by kernel_rfl) (fun _ _ _ h => h) (Or.inl ⟨by rfl, ?_⟩) ?_
        rotate_left 1
        · (intro wL hLater; go_simp; try with_reducible rfl)
        try simp only [Act.put, List.getElem_toArray, List.getElem_cons_zero, List.getElem_cons_succ, List.setIfInBounds_toArray, List.set_cons_zero, List.set_cons_succ]
        refine monoR_take laterPre (i := 14) (v := ?_) rfl (by kernel_rfl) (by kernel_rfl) (by kernel_rfl) (fun _ _ _ h => h) (Or.inl ⟨by rfl, ?_⟩) ?_
        rotate_left 1
        · (intro wL hLater; go_simp; try with_reducible rfl)
        try simp only [Act.put, List.getElem_toArray, List.getElem_cons_zero, List.getElem_cons_succ, List.setIfInBounds_toArray, List.set_cons_zero, List.set_cons_succ]
        refine monoR_take laterPre (i := 15) (v := ?_) rfl (by kernel_rfl) (by kernel_rfl) (by kernel_rfl) (fun _ _ _ h => h) (Or.inl ⟨by rfl, ?_⟩) ?_
        rotate_left 1
        · (intro wL hLater; go_simp; try with_reducible rfl)
        try simp only [Act.put, List.getElem_toArray, List.getElem_cons_zero, List.getElem_cons_succ, List.setIfInBounds_toArray, List.set_cons_zero, List.set_cons_succ]
        refine monoR_take laterPre (i := 16) (v := ?_) rfl (by kernel_rfl) (by kernel_rfl) (by kernel_rfl) (fun _ _ _ h => h) (Or.inl ⟨by rfl, ?_⟩) ?_
        rotate_left 1
        · (intro wL hLater; go_simp; try with_reducible rfl)
        try simp only [Act.put, List.getElem_toArray, List.getElem_cons_zero, List.getElem_cons_succ, List.setIfInBounds_toArray, List.set_cons_zero, List.set_cons_succ]
        refine monoR_take laterPre (i := 19) (v := ?_) rfl (by kernel_rfl) (by kernel_rfl) (by kernel_rfl) (fun _ _ _ h => h) (Or.inl ⟨by rfl, ?_⟩) ?_
        rotate_left 1
        · (intro wL hLater; go_simp; try with_reducible rfl)
        try simp only [Act.put, List.getElem_toArray, List.getElem_cons_zero, List.getElem_cons_succ, List.setIfInBounds_toArray, List.set_cons_zero, List.set_cons_succ]
        refine monoR_take laterPre (i := 20) (v := ?_) rfl (by kernel_rfl) (by kernel_rfl) (by kernel_rfl) (fun _ _ _ h => h) (Or.inl ⟨by rfl, ?_⟩) ?_
        rotate_left 1
        · (intro wL hLater; go_simp; try with_reducible rfl)
        try simp only [Act.put, List.getElem_toArray, List.getElem_cons_zero, List.getElem_cons_succ, List.setIfInBounds_toArray, List.set_cons_zero, List.set_cons_succ]
        refine monoR_take laterPre (i := 21) (v := ?_) rfl (by kernel_rfl) (by kernel_rfl) (by kernel_rfl) (fun _ _ _ h => h) (Or.inl ⟨by rfl, ?_⟩) ?_
        rotate_left 1
        · (intro wL hLater; go_simp; try with_reducible rfl)
        try simp only [Act.put, List.getElem_toArray, List.getElem_cons_zero, List.getElem_cons_succ, List.setIfInBounds_toArray, List.set_cons_zero, List.set_cons_succ]
        refine monoR_take laterPre (i := 22) (v := ?_) rfl (by kernel_rfl) (by kernel_rfl) (by kernel_rfl) (fun _ _ _ h => h) (Or.inl ⟨by rfl, ?_⟩) ?_
        rotate_left 1
        · (intro wL hLater; have hc := run_convert_by (HMK.out.later hLater); go_simp; try with_reducible rfl)
        try simp only [Act.put, List.getElem_toArray, List.getElem_cons_zero, List.getElem_cons_succ, List.setIfInBounds_toArray, List.set_cons_zero, List.set_cons_succ]
        refine monoR_one (i := 17) (by kernel_rfl) rfl (fun K hK => ?_)
        try simp only [List.getElem_toArray, List.getElem_cons_zero, List.getElem_cons_succ]
        first | rw [if_pos (by rfl)] | skip
        (go_simp; go_at_call 10; (with_reducible refine (CT2 _).out.mono ?_); rintro e w7 ⟨v7, rfl, h7, hb7⟩)
        try go_wp2_with fail
        refine hK.out _ _ (hb7) ?_
        clear hK K
        try simp only [Act.put, List.getElem_toArray, List.getElem_cons_zero, List.getElem_cons_succ, List.setIfInBounds_toArray, List.set_cons_zero, List.set_cons_succ]
        obtain ⟨o7, c7, rfl, _, _⟩ := h7.val
        have B7 := Lib.hid (h7.by HMok.out)
        replace BEL := Lib.hid (BEL.out.trans (hb7.mono BEL.out.size))
        replace HMK := Lib.hid (HMK.out.later hb7)
        clear h7 hb7
        refine monoR_take laterPre (i := 18) (v := ?_) rfl (by kernel_rfl) (by kernel_rfl) (by kernel_rfl) (fun _ _ _ h => h) (Or.inl ⟨by rfl, ?_⟩) ?_
        rotate_left 1
        · (intro wL hLater; have hc := run_convert_by (B7.out.later hLater); go_simp; try with_reducible rfl)
        try simp only [Act.put, List.getElem_toArray, List.getElem_cons_zero, List.getElem_cons_succ, List.setIfInBounds_toArray, List.set_cons_zero, List.set_cons_succ]
        refine monoR_take laterPre (i := 23) (v := ?_) rfl (by kernel_rfl) (by kernel_rfl) (by kernel_rfl) (fun _ _ _ h => h) (Or.inl ⟨by rfl, ?_⟩) ?_
        rotate_left 1
        · (intro wL hLater; go_simp; try with_reducible rfl)
        try simp only [Act.put, List.getElem_toArray, List.getElem_cons_zero, List.getElem_cons_succ, List.setIfInBounds_toArray, List.set_cons_zero, List.set_cons_succ]
        refine monoR_take laterPre (i := 24) (v := ?_) rfl (by kernel_rfl) (by kernel_rfl) (by kernel_rfl) (fun _ _ _ h => h) (Or.inl ⟨by rfl, ?_⟩) ?_
        rotate_left 1
        · (intro wL hLater; go_simp; try with_reducible rfl)
        try simp only [Act.put, List.getElem_toArray, List.getElem_cons_zero, List.getElem_cons_succ, List.setIfInBounds_toArray, List.set_cons_zero, List.set_cons_succ]
        refine monoR_take laterPre (i := 25) (v := ?_) rfl (by kernel_rfl) (by kernel_rfl) (by kernel_rfl) (fun _ _ _ h => h) (Or.inl ⟨by rfl, ?_⟩) ?_
        rotate_left 1
        · (intro wL hLater; go_simp; try with_reducible rfl)
        try simp only [Act.put, List.getElem_toArray, List.getElem_cons_zero, List.getElem_cons_succ, List.setIfInBounds_toArray, List.set_cons_zero, List.set_cons_succ]
        refine monoR_done (by kernel_rfl) ?_ _
        go_wp2_with fail
        go_meet
        exact ⟨rfl, BEL.out⟩
      · have z2 : decide ((0 : Int) < m) = false := by simp; omega
        clear HKN HMT
        refine monoR_begin (R := Later) (by kernel_rfl) ?_
        refine monoR_take laterPre (i := 0) (v := ?_) rfl (by kernel_rfl) (by kernel_rfl) (by kernel_rfl) (fun _ _ _ h => h) (Or.inl ⟨by rfl, ?_⟩) ?_
        rotate_left 1
        · (intro wL hLater; go_simp; try with_reducible rfl)
        try simp only [Act.put, List.getElem_toArray, List.getElem_cons_zero, List.getElem_cons_succ, List.setIfInBounds_toArray, List.set_cons_zero, List.set_cons_succ]
        refine monoR_take laterPre (i := 1) (v := ?_) rfl (by kernel_rfl) (by kernel_rfl) (by kernel_rfl) (fun _ _ _ h => h) (Or.inl ⟨by rfl, ?_⟩) ?_
        rotate_left 1
        · (intro wL hLater; go_simp; try with_reducible rfl)
        try simp only [Act.put, List.getElem_toArray, List.getElem_cons_zero, List.getElem_cons_succ, List.setIfInBounds_toArray, List.set_cons_zero, List.set_cons_succ]
        refine monoR_take laterPre (i := 2) (v := ?_) rfl (by kernel_rfl) (by kernel_rfl) (by kernel_rfl) (fun _ _ _ h => h) (Or.inl ⟨by rfl, ?_⟩) ?_
        rotate_left 1
        · (intro wL hLater; go_simp; try with_reducible rfl)
        try simp only [Act.put, List.getElem_toArray, List.getElem_cons_zero, List.getElem_cons_succ, List.setIfInBounds_toArray, List.set_cons_zero, List.set_cons_succ]
        refine monoR_take laterPre (i := 3) (v := ?_) rfl (by kernel_rfl) (by kernel_rfl) (by kernel_rfl) (fun _ _ _ h => h) (Or.inl ⟨by rfl, ?_⟩) ?_
        rotate_left 1
        · (intro wL hLater; go_simp; try with_reducible rfl)
        try simp only [Act.put, List.getElem_toArray, List.getElem_cons_zero, List.getElem_cons_succ, List.setIfInBounds_toArray, List.set_cons_zero, List.set_cons_succ]
        refine monoR_take laterPre (i := 6) (v := ?_) rfl (by kernel_rfl) (by kernel_rfl) (by kernel_rfl) (fun _ _ _ h => h) (Or.inl ⟨by rfl, ?_⟩) ?_
        rotate_left 1
        · (intro wL hLater; go_simp; try with_reducible rfl)
        try simp only [Act.put, List.getElem_toArray, List.getElem_cons_zero, List.getElem_cons_succ, List.setIfInBounds_toArray, List.set_cons_zero, List.set_cons_succ]
        refine monoR_take laterPre (i := 7) (v := ?_) rfl (by kernel_rfl) (by kernel_rfl) (by kernel_rfl) (fun _ _ _ h => h) (Or.inl ⟨by rfl, ?_⟩) ?_
        rotate_left 1
        · (intro wL hLater; go_simp; try with_reducible rfl)
        try simp only [Act.put, List.getElem_toArray, List.getElem_cons_zero, List.getElem_cons_succ, List.setIfInBounds_toArray, List.set_cons_zero, List.set_cons_succ]
        refine monoR_take laterPre (i := 8) (v := ?_) rfl (by kernel_rfl) (by kernel_rfl) (by kernel_rfl) (fun _ _ _ h => h) (Or.inl ⟨by rfl, ?_⟩) ?_
        rotate_left 1
        · (intro wL hLater; go_simp; try with_reducible rfl)
        try simp only [Act.put, List.getElem_toArray, List.getElem_cons_zero, List.getElem_cons_succ, List.setIfInBounds_toArray, List.set_cons_zero, List.set_cons_succ]
        refine monoR_take laterPre (i := 9) (v := ?_) rfl (by kernel_rfl) (by kernel_rfl) (by kernel_rfl) (fun _ _ _ h => h) (Or.inl ⟨by rfl, ?_⟩) ?_
        rotate_left 1
        · (intro wL hLater; have hc := run_convert_by (HBK.out.later hLater); go_simp; try with_reducible rfl)
        try simp only [Act.put, List.getElem_toArray, List.getElem_cons_zero, List.getElem_cons_succ, List.setIfInBounds_toArray, List.set_cons_zero, List.set_cons_succ]
        refine monoR_one (i := 4) (by kernel_rfl) rfl (fun K hK => ?_)
        try simp only [List.getElem_toArray, List.getElem_cons_zero, List.getElem_cons_succ]
        first | rw [if_pos (by rfl)] | skip
        (go_simp; go_at_call 8; (with_reducible refine (CN2 _).out.mono ?_); rintro e w6 ⟨v6, rfl, h6, hb6⟩)
        try go_wp2_with fail
        refine hK.out _ _ (hb6) ?_
        clear hK K
        try simp only [Act.put, List.getElem_toArray, List.getElem_cons_zero, List.getElem_cons_succ, List.setIfInBounds_toArray, List.set_cons_zero, List.set_cons_succ]
        obtain ⟨o6, c6, rfl, _, _⟩ := h6.val
        have B6 := Lib.hid (h6.by HKok.out)
        replace BEL := Lib.hid (BEL.out.trans (hb6.mono BEL.out.size))
        replace HBK := Lib.hid (HBK.out.later hb6)
        clear h6 hb6
        refine monoR_take laterPre (i := 5) (v := ?_) rfl (by kernel_rfl) (by kernel_rfl) (by kernel_rfl) (fun _ _ _ h => h) (Or.inl ⟨by rfl, ?_⟩) ?_
        rotate_left 1
        · (intro wL hLater; have hc := run_convert_by (B6.out.later hLater); go_simp; try with_reducible rfl)
        try simp only [Act.put, List.getElem_toArray, List.getElem_cons_zero, List.getElem_cons_succ, List.setIfInBounds_toArray, List.set_cons_zero, List.set_cons_succ]
        refine monoR_take laterPre (i := 10) (v := ?_) rfl (by kernel_rfl) (by kernel_rfl) (by kernel_rfl) (fun _ _ _ h => h) (Or.inl ⟨by rfl, ?_⟩) ?_
        rotate_left 1
        · (intro wL hLater; go_simp; try with_reducible rfl)
        try simp only [Act.put, List.getElem_toArray, List.getElem_cons_zero, List.getElem_cons_succ, List.setIfInBounds_toArray, List.set_cons_zero, List.set_cons_succ]
        refine monoR_take laterPre (i := 11) (v := ?_) rfl (by kernel_rfl) (by kernel_rfl) (by kernel_rfl) (fun _ _ _ h => h) (Or.inl ⟨by rfl, ?_⟩) ?_
        rotate_left 1
        · (intro wL hLater; go_simp; try with_reducible rfl)
        try simp only [Act.put, List.getElem_toArray, List.getElem_cons_zero, List.getElem_cons_succ, List.setIfInBounds_toArray, List.set_cons_zero, List.set_cons_succ]
        refine monoR_take laterPre (i := 12) (v := ?_) rfl (by kernel_rfl) (by kernel_rfl) (by kernel_rfl) (fun _ _ _ h => h) (Or.inl ⟨by rfl, ?_⟩) ?_
        rotate_left 1
        · (intro wL hLater; go_simp; try with_reducible rfl)
        try simp only [Act.put, List.getElem_toArray, List.getElem_cons_zero, List.getElem_cons_succ, List.setIfInBounds_toArray, List.set_cons_zero, List.set_cons_succ]
        refine monoR_take laterPre (i := 13) (v := ?_) rfl (by kernel_rfl) (by kernel_rfl) (by kernel_rfl) (fun _ _ _ h => h) (Or.inl ⟨by rfl, ?_⟩) ?_
        rotate_left 1
        · (intro wL hLater; go_simp; try with_reducible rfl)
        try simp only [Act.put, List.getElem_toArray, List.getElem_cons_zero, List.getElem_cons_succ, List.setIfInBounds_toArray, List.set_cons_zero, List.set_cons_succ]
        refine monoR_take laterPre (i := 14) (v := ?_) rfl (by kernel_rfl) (by kernel_rfl) (by kernel_rfl) (fun _ _ _ h => h) (Or.inl ⟨by rfl, ?_⟩) ?_
        rotate_left 1
        · (intro wL hLater; go_simp; try with_reducible rfl)
        try simp only [Act.put, List.getElem_toArray, List.getElem_cons_zero, List.getElem_cons_succ, List.setIfInBounds_toArray, List.set_cons_zero, List.set_cons_succ]
        refine monoR_take laterPre (i := 15) (v := ?_) rfl (by kernel_rfl) (by kernel_rfl) (by kernel_rfl) (fun _ _ _ h => h) (Or.inl ⟨by rfl, ?_⟩) ?_
        rotate_left 1
        · (intro wL hLater; go_simp; try with_reducible rfl)
        try simp only [Act.put, List.getElem_toArray, List.getElem_cons_zero, List.getElem_cons_succ, List.setIfInBounds_toArray, List.set_cons_zero, List.set_cons_succ]
        refine monoR_take laterPre (i := 16) (v := undef) rfl (by kernel_rfl) (by kernel_rfl) (by kernel_rfl) (fun _ _ _ h => h) (Or.inr ⟨by rfl, rfl⟩) ?_
        try simp only [Act.put, List.getElem_toArray, List.getElem_cons_zero, List.getElem_cons_succ, List.setIfInBounds_toArray, List.set_cons_zero, List.set_cons_succ]
        refine monoR_take laterPre (i := 19) (v := undef) rfl (by kernel_rfl) (by kernel_rfl) (by kernel_rfl) (fun _ _ _ h => h) (Or.inr ⟨by rfl, rfl⟩) ?_
        try simp only [Act.put, List.getElem_toArray, List.getElem_cons_zero, List.getElem_cons_succ, List.setIfInBounds_toArray, List.set_cons_zero, List.set_cons_succ]
        refine monoR_take laterPre (i := 20) (v := undef) rfl (by kernel_rfl) (by kernel_rfl) (by kernel_rfl) (fun _ _ _ h => h) (Or.inr ⟨by rfl, rfl⟩) ?_
        try simp only [Act.put, List.getElem_toArray, List.getElem_cons_zero, List.getElem_cons_succ, List.setIfInBounds_toArray, List.set_cons_zero, List.set_cons_succ]
        refine monoR_take laterPre (i := 21) (v := undef) rfl (by kernel_rfl) (by kernel_rfl) (by kernel_rfl) (fun _ _ _ h => h) (Or.inr ⟨by rfl, rfl⟩) ?_
        try simp only [Act.put, List.getElem_toArray, List.getElem_cons_zero, List.getElem_cons_succ, List.setIfInBounds_toArray, List.set_cons_zero, List.set_cons_succ]
        refine monoR_take laterPre (i := 17) (v := undef) rfl (by kernel_rfl) (by kernel_rfl) (by kernel_rfl) (fun _ _ _ h => h) (Or.inr ⟨by rfl, rfl⟩) ?_
        try simp only [Act.put, List.getElem_toArray, List.getElem_cons_zero, List.getElem_cons_succ, List.setIfInBounds_toArray, List.set_cons_zero, List.set_cons_succ]
        refine monoR_take laterPre (i := 18) (v := undef) rfl (by kernel_rfl) (by kernel_rfl) (by kernel_rfl) (fun _ _ _ h => h) (Or.inr ⟨by rfl, rfl⟩) ?_
        try simp only [Act.put, List.getElem_toArray, List.getElem_cons_zero, List.getElem_cons_succ, List.setIfInBounds_toArray, List.set_cons_zero, List.set_cons_succ]
        refine monoR_take laterPre (i := 22) (v := undef) rfl (by kernel_rfl) (by kernel_rfl) (by kernel_rfl) (fun _ _ _ h => h) (Or.inr ⟨by rfl, rfl⟩) ?_
        try simp only [Act.put, List.getElem_toArray, List.getElem_cons_zero, List.getElem_cons_succ, List.setIfInBounds_toArray, List.set_cons_zero, List.set_cons_succ]
        refine monoR_take laterPre (i := 23) (v := undef) rfl (by kernel_rfl) (by kernel_rfl) (by kernel_rfl) (fun _ _ _ h => h) (Or.inr ⟨by rfl, rfl⟩) ?_
        try simp only [Act.put, List.getElem_toArray, List.getElem_cons_zero, List.getElem_cons_succ, List.setIfInBounds_toArray, List.set_cons_zero, List.set_cons_succ]
        refine monoR_take laterPre (i := 24) (v := ?_) rfl (by kernel_rfl) (by kernel_rfl) (by kernel_rfl) (fun _ _ _ h => h) (Or.inl ⟨by rfl, ?_⟩) ?_
        rotate_left 1
        · (intro wL hLater; go_simp; try with_reducible rfl)
        try simp only [Act.put, List.getElem_toArray, List.getElem_cons_zero, List.getElem_cons_succ, List.setIfInBounds_toArray, List.set_cons_zero, List.set_cons_succ]
        refine monoR_take laterPre (i := 25) (v := ?_) rfl (by kernel_rfl) (by kernel_rfl) (by kernel_rfl) (fun _ _ _ h => h) (Or.inl ⟨by rfl, ?_⟩) ?_
        rotate_left 1
        · (intro wL hLater; go_simp; try with_reducible rfl)
        try simp only [Act.put, List.getElem_toArray, List.getElem_cons_zero, List.getElem_cons_succ, List.setIfInBounds_toArray, List.set_cons_zero, List.set_cons_succ]
        refine monoR_done (by kernel_rfl) ?_ _
        go_wp2_with fail
        go_meet
        exact ⟨rfl, BEL.out⟩
    · have z1 : decide ((0 : Int) < k) = false := by simp; omega
      by_cases hm : 0 < m
      · have e := HMT.out hm
        rw [e] at CT2 HMok
        have HMK := Lib.hid (HBP.out.take m mle).drew
        generalize b.take m = bm at *
        have s3 : (m : Int) ≤ cap := by omega
        have s4 : (0 : Int) ≤ m := by omega
        have z2 : decide ((0 : Int) < m) = true := by simp; omega
        clear e
        clear HKN HMT
        refine monoR_begin (R := Later) (by kernel_rfl) ?_
        refine monoR_take laterPre (i := 0) (v := ?_) rfl (by kernel_rfl) (by kernel_rfl) (by kernel_rfl) (fun _ _ _ h => h) (Or.inl ⟨by rfl, ?_⟩) ?_
        rotate_left 1
        · (intro wL hLater; go_simp; try with_reducible rfl)
        try simp only [Act.put, List.getElem_toArray, List.getElem_cons_zero, List.getElem_cons_succ, List.setIfInBounds_toArray, List.set_cons_zero, List.set_cons_succ]
        refine monoR_take laterPre (i := 1) (v := ?_) rfl (by kernel_rfl) (by kernel_rfl) (by kernel_rfl) (fun _ _ _ h => h) (Or.inl ⟨by rfl, ?_⟩) ?_
        rotate_left 1
        · (intro wL hLater; go_simp; try with_reducible rfl)
        try simp only [Act.put, List.getElem_toArray, List.getElem_cons_zero, List.getElem_cons_succ, List.setIfInBounds_toArray, List.set_cons_zero, List.set_cons_succ]
        refine monoR_take laterPre (i := 2) (v := ?_) rfl (by kernel_rfl) (by kernel_rfl) (by kernel_rfl) (fun _ _ _ h => h) (Or.inl ⟨by rfl, ?_⟩) ?_
        rotate_left 1
        · (intro wL hLater; go_simp; try with_reducible rfl)
        try simp only [Act.put, List.getElem_toArray, List.getElem_cons_zero, List.getElem_cons_succ, List.setIfInBounds_toArray, List.set_cons_zero, List.set_cons_succ]
        refine monoR_take laterPre (i := 3) (v := undef) rfl (by kernel_rfl) (by kernel_rfl) (by kernel_rfl) (fun _ _ _ h => h) (Or.inr ⟨by rfl, rfl⟩) ?_
        try simp only [Act.put, List.getElem_toArray, List.getElem_cons_zero, List.getElem_cons_succ, List.setIfInBounds_toArray, List.set_cons_zero, List.set_cons_succ]
        refine monoR_take laterPre (i := 6) (v := undef) rfl (by kernel_rfl) (by kernel_rfl) (by kernel_rfl) (fun _ _ _ h => h) (Or.inr ⟨by rfl, rfl⟩) ?_
        try simp only [Act.put, List.getElem_toArray, List.getElem_cons_zero, List.getElem_cons_succ, List.setIfInBounds_toArray, List.set_cons_zero, List.set_cons_succ]
        refine monoR_take laterPre (i := 7) (v := undef) rfl (by kernel_rfl) (by kernel_rfl) (by kernel_rfl) (fun _ _ _ h => h) (Or.inr ⟨by rfl, rfl⟩) ?_
        try simp only [Act.put, List.getElem_toArray, List.getElem_cons_zero, List.getElem_cons_succ, List.setIfInBounds_toArray, List.set_cons_zero, List.set_cons_succ]
        refine monoR_take laterPre (i := 8) (v := undef) rfl (by kernel_rfl) (by kernel_rfl) (by kernel_rfl) (fun _ _ _ h => h) (Or.inr ⟨by rfl, rfl⟩) ?_
        try simp only [Act.put, List.getElem_toArray, List.getElem_cons_zero, List.getElem_cons_succ, List.setIfInBounds_toArray, List.set_cons_zero, List.set_cons_succ]
        refine monoR_take laterPre (i := 4) (v := undef) rfl (by kernel_rfl) (by kernel_rfl) (by kernel_rfl) (fun _ _ _ h => h) (Or.inr ⟨by rfl, rfl⟩) ?_
        try simp only [Act.put, List.getElem_toArray, List.getElem_cons_zero, List.getElem_cons_succ, List.setIfInBounds_toArray, List.set_cons_zero, List.set_cons_succ]
        refine monoR_take laterPre (i := 5) (v := undef) rfl (by kernel_rfl) (by kernel_rfl) (by kernel_rfl) (fun _ _ _ h => h) (Or.inr ⟨by rfl, rfl⟩) ?_
        try simp only [Act.put, List.getElem_toArray, List.getElem_cons_zero, List.getElem_cons_succ, List.setIfInBounds_toArray, List.set_cons_zero, List.set_cons_succ]
        refine monoR_take laterPre (i := 9) (v := undef) rfl (by kernel_rfl) (by kernel_rfl) (by kernel_rfl) (fun _ _ _ h => h) (Or.inr ⟨by rfl, rfl⟩) ?_
        try simp only [Act.put, List.getElem_toArray, List.getElem_cons_zero, List.getElem_cons_succ, List.setIfInBounds_toArray, List.set_cons_zero, List.set_cons_succ]
        refine monoR_take laterPre (i := 10) (v := undef) rfl (by kernel_rfl) (by kernel_rfl) (by kernel_rfl) (fun _ _ _ h => h) (Or.inr ⟨by rfl, rfl⟩) ?_
        try simp only [Act.put, List.getElem_toArray, List.getElem_cons_zero, List.getElem_cons_succ, List.setIfInBounds_toArray, List.set_cons_zero, List.set_cons_succ]
        refine monoR_take laterPre (i := 11) (v := ?_) rfl (by kernel_rfl) (by kernel_rfl) (by kernel_rfl) (fun _ _ _ h => h) (Or.inl ⟨by rfl, ?_⟩) ?_
        rotate_left 1
        · (intro wL hLater; go_simp; try with_reducible rfl)
        try simp only [Act.put, List.getElem_toArray, List.getElem_cons_zero, List.getElem_cons_succ, List.setIfInBounds_toArray, List.set_cons_zero, List.set_cons_succ]
        refine monoR_take laterPre (i := 12) (v := ?_) rfl (by kernel_rfl) (by kernel_rfl) (by kernel_rfl) (fun _ _ _ h => h) (Or.inl ⟨by rfl, ?_⟩) ?_
        rotate_left 1
        · (intro wL hLater; go_simp; try with_reducible rfl)
        try simp only [Act.put, List.getElem_toArray, List.getElem_cons_zero, List.getElem_cons_succ, List.setIfInBounds_toArray, List.set_cons_zero, List.set_cons_succ]
        refine monoR_take laterPre (i := 13) (v := ?_) rfl (by kernel_rfl) (by kernel_rfl) (by kernel_rfl) (fun _ _ _ h => h) (Or.inl ⟨by rfl, ?_⟩) ?_
        rotate_left 1
        · (intro wL hLater; go_simp; try with_reducible rfl)
        try simp only [Act.put, List.getElem_toArray, List.getElem_cons_zero, List.getElem_cons_succ, List.setIfInBounds_toArray, List.set_cons_zero, List.set_cons_succ]
        refine monoR_take laterPre (i := 14) (v := ?_) rfl (by kernel_rfl) (by kernel_rfl) (by kernel_rfl) (fun _ _ _ h => h) (Or.inl ⟨by rfl, ?_⟩) ?_
        rotate_left 1
        · (intro wL hLater; go_simp; try with_reducible rfl)
        try simp only [Act.put, List.getElem_toArray, List.getElem_cons_zero, List.getElem_cons_succ, List.setIfInBounds_toArray, List.set_cons_zero, List.set_cons_succ]
        refine monoR_take laterPre (i := 15) (v := ?_) rfl (by kernel_rfl) (by kernel_rfl) (by kernel_rfl) (fun _ _ _ h => h) (Or.inl ⟨by rfl, ?_⟩) ?_
        rotate_left 1
        · (intro wL hLater; go_simp; try with_reducible rfl)
        try simp only [Act.put, List.getElem_toArray, List.getElem_cons_zero, List.getElem_cons_succ, List.setIfInBounds_toArray, List.set_cons_zero, List.set_cons_succ]
        refine monoR_take laterPre (i := 16) (v := ?_) rfl (by kernel_rfl) (by kernel_rfl) (by kernel_rfl) (fun _ _ _ h => h) (Or.inl ⟨by rfl, ?_⟩) ?_
        rotate_left 1
        · (intro wL hLater; go_simp; try with_reducible rfl)
        try simp only [Act.put, List.getElem_toArray, List.getElem_cons_zero, List.getElem_cons_succ, List.setIfInBounds_toArray, List.set_cons_zero, List.set_cons_succ]
        refine monoR_take laterPre (i := 19) (v := ?_) rfl (by kernel_rfl) (by kernel_rfl) (by kernel_rfl) (fun _ _ _ h => h) (Or.inl ⟨by rfl, ?_⟩) ?_
        rotate_left 1
        · (intro wL hLater; go_simp; try with_reducible rfl)
        try simp only [Act.put, List.getElem_toArray, List.getElem_cons_zero, List.getElem_cons_succ, List.setIfInBounds_toArray, List.set_cons_zero, List.set_cons_succ]
        refine monoR_take laterPre (i := 20) (v := ?_) rfl (by kernel_rfl) (by kernel_rfl) (by kernel_rfl) (fun _ _ _ h => h) (Or.inl ⟨by rfl, ?_⟩) ?_
        rotate_left 1
        · (intro wL hLater; go_simp; try with_reducible rfl)
        try simp only [Act.put, List.getElem_toArray, List.getElem_cons_zero, List.getElem_cons_succ, List.setIfInBounds_toArray, List.set_cons_zero, List.set_cons_succ]
        refine monoR_take laterPre (i := 21) (v := ?_) rfl (by kernel_rfl) (by kernel_rfl) (by kernel_rfl) (fun _ _ _ h => h) (Or.inl ⟨by rfl, ?_⟩) ?_
        rotate_left 1
        · (intro wL hLater; go_simp; try with_reducible rfl)
        try simp only [Act.put, List.getElem_toArray, List.getElem_cons_zero, List.getElem_cons_succ, List.setIfInBounds_toArray, List.set_cons_zero, List.set_cons_succ]
        refine monoR_take laterPre (i := 22) (v := ?_) rfl (by kernel_rfl) (by kernel_rfl) (by kernel_rfl) (fun _ _ _ h => h) (Or.inl ⟨by rfl, ?_⟩) ?_
        rotate_left 1
        · (intro wL hLater; have hc := run_convert_by (HMK.out.later hLater); go_simp; try with_reducible rfl)
        try simp only [Act.put, List.getElem_toArray, List.getElem_cons_zero, List.getElem_cons_succ, List.setIfInBounds_toArray, List.set_cons_zero, List.set_cons_succ]
        refine monoR_one (i := 17) (by kernel_rfl) rfl (fun K hK => ?_)
        try simp only [List.getElem_toArray, List.getElem_cons_zero, List.getElem_cons_succ]
        first | rw [if_pos (by rfl)] | skip
        (go_simp; go_at_call 10; (with_reducible refine (CT2 _).out.mono ?_); rintro e w7 ⟨v7, rfl, h7, hb7⟩)
        try go_wp2_with fail
        refine hK.out _ _ (hb7) ?_
        clear hK K
        try simp only [Act.put, List.getElem_toArray, List.getElem_cons_zero, List.getElem_cons_succ, List.setIfInBounds_toArray, List.set_cons_zero, List.set_cons_succ]
        obtain ⟨o7, c7, rfl, _, _⟩ := h7.val
        have B7 := Lib.hid (h7.by HMok.out)
        replace BEL := Lib.hid (BEL.out.trans (hb7.mono BEL.out.size))
        replace HMK := Lib.hid (HMK.out.later hb7)
        clear h7 hb7
        refine monoR_take laterPre (i := 18) (v := ?_) rfl (by kernel_rfl) (by kernel_rfl) (by kernel_rfl) (fun _ _ _ h => h) (Or.inl ⟨by rfl, ?_⟩) ?_
        rotate_left 1
        · (intro wL hLater; have hc := run_convert_by (B7.out.later hLater); go_simp; try with_reducible rfl)
        try simp only [Act.put, List.getElem_toArray, List.getElem_cons_zero, List.getElem_cons_succ, List.setIfInBounds_toArray, List.set_cons_zero, List.set_cons_succ]
        refine monoR_take laterPre (i := 23) (v := ?_) rfl (by kernel_rfl) (by kernel_rfl) (by kernel_rfl) (fun _ _ _ h => h) (Or.inl ⟨by rfl, ?_⟩) ?_
        rotate_left 1
        · (intro wL hLater; go_simp; try with_reducible rfl)
        try simp only [Act.put, List.getElem_toArray, List.getElem_cons_zero, List.getElem_cons_succ, List.setIfInBounds_toArray, List.set_cons_zero, List.set_cons_succ]
        refine monoR_take laterPre (i := 24) (v := ?_) rfl (by kernel_rfl) (by kernel_rfl) (by kernel_rfl) (fun _ _ _ h => h) (Or.inl ⟨by rfl, ?_⟩) ?_
        rotate_left 1
        · (intro wL hLater; go_simp; try with_reducible rfl)
        try simp only [Act.put, List.getElem_toArray, List.getElem_cons_zero, List.getElem_cons_succ, List.setIfInBounds_toArray, List.set_cons_zero, List.set_cons_succ]
        refine monoR_take laterPre (i := 25) (v := ?_) rfl (by kernel_rfl) (by kernel_rfl) (by kernel_rfl) (fun _ _ _ h => h) (Or.inl ⟨by rfl, ?_⟩) ?_
        rotate_left 1
        · (intro wL hLater; go_simp; try with_reducible rfl)
        try simp only [Act.put, List.getElem_toArray, List.getElem_cons_zero, List.getElem_cons_succ, List.setIfInBounds_toArray, List.set_cons_zero, List.set_cons_succ]
        refine monoR_done (by kernel_rfl) ?_ _
        go_wp2_with fail
        go_meet
        exact ⟨rfl, BEL.out⟩
      · have z2 : decide ((0 : Int) < m) = false := by simp; omega
        clear HKN HMT
        refine monoR_begin (R := Later) (by kernel_rfl) ?_
        refine monoR_take laterPre (i := 0) (v := ?_) rfl (by kernel_rfl) (by kernel_rfl) (by kernel_rfl) (fun _ _ _ h => h) (Or.inl ⟨by rfl, ?_⟩) ?_
        rotate_left 1
        · (intro wL hLater; go_simp; try with_reducible rfl)
        try simp only [Act.put, List.getElem_toArray, List.getElem_cons_zero, List.getElem_cons_succ, List.setIfInBounds_toArray, List.set_cons_zero, List.set_cons_succ]
        refine monoR_take laterPre (i := 1) (v := ?_) rfl (by kernel_rfl) (by kernel_rfl) (by kernel_rfl) (fun _ _ _ h => h) (Or.inl ⟨by rfl, ?_⟩) ?_
        rotate_left 1
        · (intro wL hLater; go_simp; try with_reducible rfl)
        try simp only [Act.put, List.getElem_toArray, List.getElem_cons_zero, List.getElem_cons_succ, List.setIfInBounds_toArray, List.set_cons_zero, List.set_cons_succ]
        refine monoR_take laterPre (i := 2) (v := ?_) rfl (by kernel_rfl) (by kernel_rfl) (by kernel_rfl) (fun _ _ _ h => h) (Or.inl ⟨by rfl, ?_⟩) ?_
        rotate_left 1
        · (intro wL hLater; go_simp; try with_reducible rfl)
        try simp only [Act.put, List.getElem_toArray, List.getElem_cons_zero, List.getElem_cons_succ, List.setIfInBounds_toArray, List.set_cons_zero, List.set_cons_succ]
        refine monoR_take laterPre (i := 3) (v := undef) rfl (by kernel_rfl) (by kernel_rfl) (by kernel_rfl) (fun _ _ _ h => h) (Or.inr ⟨by rfl, rfl⟩) ?_
        try simp only [Act.put, List.getElem_toArray, List.getElem_cons_zero, List.getElem_cons_succ, List.setIfInBounds_toArray, List.set_cons_zero, List.set_cons_succ]
        refine monoR_take laterPre (i := 6) (v := undef) rfl (by kernel_rfl) (by kernel_rfl) (by kernel_rfl) (fun _ _ _ h => h) (Or.inr ⟨by rfl, rfl⟩) ?_
        try simp only [Act.put, List.getElem_toArray, List.getElem_cons_zero, List.getElem_cons_succ, List.setIfInBounds_toArray, List.set_cons_zero, List.set_cons_succ]
        refine monoR_take laterPre (i := 7) (v := undef) rfl (by kernel_rfl) (by kernel_rfl) (by kernel_rfl) (fun _ _ _ h => h) (Or.inr ⟨by rfl, rfl⟩) ?_
        try simp only [Act.put, List.getElem_toArray, List.getElem_cons_zero, List.getElem_cons_succ, List.setIfInBounds_toArray, List.set_cons_zero, List.set_cons_succ]
        refine monoR_take laterPre (i := 8) (v := undef) rfl (by kernel_rfl) (by kernel_rfl) (by kernel_rfl) (fun _ _ _ h => h) (Or.inr ⟨by rfl, rfl⟩) ?_
        try simp only [Act.put, List.getElem_toArray, List.getElem_cons_zero, List.getElem_cons_succ, List.setIfInBounds_toArray, List.set_cons_zero, List.set_cons_succ]
        refine monoR_take laterPre (i := 4) (v := undef) rfl (by kernel_rfl) (by kernel_rfl) (by kernel_rfl) (fun _ _ _ h => h) (Or.inr ⟨by rfl, rfl⟩) ?_
        try simp only [Act.put, List.getElem_toArray, List.getElem_cons_zero, List.getElem_cons_succ, List.setIfInBounds_toArray, List.set_cons_zero, List.set_cons_succ]
        refine monoR_take laterPre (i := 5) (v := undef) rfl (by kernel_rfl) (by kernel_rfl) (by kernel_rfl) (fun _ _ _ h => h) (Or.inr ⟨by rfl, rfl⟩) ?_
        try simp only [Act.put, List.getElem_toArray, List.getElem_cons_zero, List.getElem_cons_succ, List.setIfInBounds_toArray, List.set_cons_zero, List.set_cons_succ]
        refine monoR_take laterPre (i := 9) (v := undef) rfl (by kernel_rfl) (by kernel_rfl) (by kernel_rfl) (fun _ _ _ h => h) (Or.inr ⟨by rfl, rfl⟩) ?_
        try simp only [Act.put, List.getElem_toArray, List.getElem_cons_zero, List.getElem_cons_succ, List.setIfInBounds_toArray, List.set_cons_zero, List.set_cons_succ]
        refine monoR_take laterPre (i := 10) (v := undef) rfl (by kernel_rfl) (by kernel_rfl) (by kernel_rfl) (fun _ _ _ h => h) (Or.inr ⟨by rfl, rfl⟩) ?_
        try simp only [Act.put, List.getElem_toArray, List.getElem_cons_zero, List.getElem_cons_succ, List.setIfInBounds_toArray, List.set_cons_zero, List.set_cons_succ]
        refine monoR_take laterPre (i := 11) (v := ?_) rfl (by kernel_rfl) (by kernel_rfl) (by kernel_rfl) (fun _ _ _ h => h) (Or.inl ⟨by rfl, ?_⟩) ?_
        rotate_left 1
        · (intro wL hLater; go_simp; try with_reducible rfl)
        try simp only [Act.put, List.getElem_toArray, List.getElem_cons_zero, List.getElem_cons_succ, List.setIfInBounds_toArray, List.set_cons_zero, List.set_cons_succ]
        refine monoR_take laterPre (i := 12) (v := ?_) rfl (by kernel_rfl) (by kernel_rfl) (by kernel_rfl) (fun _ _ _ h => h) (Or.inl ⟨by rfl, ?_⟩) ?_
        rotate_left 1
        · (intro wL hLater; go_simp; try with_reducible rfl)
        try simp only [Act.put, List.getElem_toArray, List.getElem_cons_zero, List.getElem_cons_succ, List.setIfInBounds_toArray, List.set_cons_zero, List.set_cons_succ]
        refine monoR_take laterPre (i := 13) (v := ?_) rfl (by kernel_rfl) (by kernel_rfl) (by kernel_rfl) (fun _ _ _ h => h) (Or.inl ⟨by rfl, ?_⟩) ?_
        rotate_left 1
        · (intro wL hLater; go_simp; try with_reducible rfl)
        try simp only [Act.put, List.getElem_toArray, List.getElem_cons_zero, List.getElem_cons_succ, List.setIfInBounds_toArray, List.set_cons_zero, List.set_cons_succ]
        refine monoR_take laterPre (i := 14) (v := ?_) rfl (by kernel_rfl) (by kernel_rfl) (by kernel_rfl) (fun _ _ _ h => h) (Or.inl ⟨by rfl, ?_⟩) ?_
        rotate_left 1
        · (intro wL hLater; go_simp; try with_reducible rfl)
        try simp only [Act.put, List.getElem_toArray, List.getElem_cons_zero, List.getElem_cons_succ, List.setIfInBounds_toArray, List.set_cons_zero, List.set_cons_succ]
        refine monoR_take laterPre (i := 15) (v := ?_) rfl (by kernel_rfl) (by kernel_rfl) (by kernel_rfl) (fun _ _ _ h => h) (Or.inl ⟨by rfl, ?_⟩) ?_
        rotate_left 1
        · (intro wL hLater; go_simp; try with_reducible rfl)
        try simp only [Act.put, List.getElem_toArray, List.getElem_cons_zero, List.getElem_cons_succ, List.setIfInBounds_toArray, List.set_cons_zero, List.set_cons_succ]
        refine monoR_take laterPre (i := 16) (v := undef) rfl (by kernel_rfl) (by kernel_rfl) (by kernel_rfl) (fun _ _ _ h => h) (Or.inr ⟨by rfl, rfl⟩) ?_
        try simp only [Act.put, List.getElem_toArray, List.getElem_cons_zero, List.getElem_cons_succ, List.setIfInBounds_toArray, List.set_cons_zero, List.set_cons_succ]
        refine monoR_take laterPre (i := 19) (v := undef) rfl (by kernel_rfl) (by kernel_rfl) (by kernel_rfl) (fun _ _ _ h => h) (Or.inr ⟨by rfl, rfl⟩) ?_
        try simp only [Act.put, List.getElem_toArray, List.getElem_cons_zero, List.getElem_cons_succ, List.setIfInBounds_toArray, List.set_cons_zero, List.set_cons_succ]
        refine monoR_take laterPre (i := 20) (v := undef) rfl (by kernel_rfl) (by kernel_rfl) (by kernel_rfl) (fun _ _ _ h => h) (Or.inr ⟨by rfl, rfl⟩) ?_
        try simp only [Act.put, List.getElem_toArray, List.getElem_cons_zero, List.getElem_cons_succ, List.setIfInBounds_toArray, List.set_cons_zero, List.set_cons_succ]
        refine monoR_take laterPre (i := 21) (v := undef) rfl (by kernel_rfl) (by kernel_rfl) (by kernel_rfl) (fun _ _ _ h => h) (Or.inr ⟨by rfl, rfl⟩) ?_
        try simp only [Act.put, List.getElem_toArray, List.getElem_cons_zero, List.getElem_cons_succ, List.setIfInBounds_toArray, List.set_cons_zero, List.set_cons_succ]
        refine monoR_take laterPre (i := 17) (v := undef) rfl (by kernel_rfl) (by kernel_rfl) (by kernel_rfl) (fun _ _ _ h => h) (Or.inr ⟨by rfl, rfl⟩) ?_
        try simp only [Act.put, List.getElem_toArray, List.getElem_cons_zero, List.getElem_cons_succ, List.setIfInBounds_toArray, List.set_cons_zero, List.set_cons_succ]
        refine monoR_take laterPre (i := 18) (v := undef) rfl (by kernel_rfl) (by kernel_rfl) (by kernel_rfl) (fun _ _ _ h => h) (Or.inr ⟨by rfl, rfl⟩) ?_
        try simp only [Act.put, List.getElem_toArray, List.getElem_cons_zero, List.getElem_cons_succ, List.setIfInBounds_toArray, List.set_cons_zero, List.set_cons_succ]
        refine monoR_take laterPre (i := 22) (v := undef) rfl (by kernel_rfl) (by kernel_rfl) (by kernel_rfl) (fun _ _ _ h => h) (Or.inr ⟨by rfl, rfl⟩) ?_
        try simp only [Act.put, List.getElem_toArray, List.getElem_cons_zero, List.getElem_cons_succ, List.setIfInBounds_toArray, List.set_cons_zero, List.set_cons_succ]
        refine monoR_take laterPre (i := 23) (v := undef) rfl (by kernel_rfl) (by kernel_rfl) (by kernel_rfl) (fun _ _ _ h => h) (Or.inr ⟨by rfl, rfl⟩) ?_
        try simp only [Act.put, List.getElem_toArray, List.getElem_cons_zero, List.getElem_cons_succ, List.setIfInBounds_toArray, List.set_cons_zero, List.set_cons_succ]
        refine monoR_take laterPre (i := 24) (v := ?_) rfl (by kernel_rfl) (by kernel_rfl) (by kernel_rfl) (fun _ _ _ h => h) (Or.inl ⟨by rfl, ?_⟩) ?_
        rotate_left 1
        · (intro wL hLater; go_simp; try with_reducible rfl)
        try simp only [Act.put, List.getElem_toArray, List.getElem_cons_zero, List.getElem_cons_succ, List.setIfInBounds_toArray, List.set_cons_zero, List.set_cons_succ]
        refine monoR_take laterPre (i := 25) (v := ?_) rfl (by kernel_rfl) (by kernel_rfl) (by kernel_rfl) (fun _ _ _ h => h) (Or.inl ⟨by rfl, ?_⟩) ?_
        rotate_left 1
        · (intro wL hLater; go_simp; try with_reducible rfl)
        try simp only [Act.put, List.getElem_toArray, List.getElem_cons_zero, List.getElem_cons_succ, List.setIfInBounds_toArray, List.set_cons_zero, List.set_cons_succ]
        refine monoR_done (by kernel_rfl) ?_ _
        go_wp2_with fail
        go_meet
        exact ⟨rfl, BEL.out⟩
  case rest =>
  clear HBP BEL
  obtain ⟨rfl, BEL⟩ := hcut
  have HBP := Lib.hid (HB.out.later BEL.out)
  go_wp2_with (first
    | (go_at_call 20; (with_reducible refine (CE _ HBP.out).out.mono ?_); rintro e w1 ⟨v1, rfl, h1, hb1⟩; have B1 := Lib.hid (h1.by HSok.out); replace BEL := Lib.hid (BEL.out.trans (hb1.mono BEL.out.size)); clear h1 hb1)
    | (go_at_call 16; (with_reducible refine (CO _ _ B1.out).out.mono ?_); rintro e w2 ⟨v2, rfl, h2, hb2⟩; obtain ⟨o2, c2, rfl, _, _⟩ := h2.val; have r2 := run_convert_by (h2.by HBok.out); replace BEL := Lib.hid (BEL.out.trans (hb2.mono BEL.out.size)); have r3 := run_convert_by (HB.out.later BEL.out); clear h2 hb2))
  go_ret
  exact ⟨rfl, BEL.out⟩
end Go.Proofs.Ytghnephjgffenaa
