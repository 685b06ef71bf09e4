/- The code's Text, GetText; sums of bytes; Seal, Open. Walked. -/
import Derived.Test.YtghnephjgffenaaCodG
import Derived.Test.YtghnephjgffenaaCrcM
import Derived.Laws.BitsAllLaws
namespace Go.Proofs.Ytghnephjgffenaa
set_option linter.unusedVariables false
set_option linter.unusedSimpArgs false
set_option maxRecDepth 100000
open Go.RowKit

theorem numL_txt {s : ByteArray} (h : s.size ≤ 8) : numL s.size ++ nl s = txtL (nl s) := by
  unfold txtL
  rw [nl_len, if_pos h, numL_small h]; rfl
theorem txtL_long {s : ByteArray} (h : ¬ s.size ≤ 8) : txtL (nl s) = [] := by unfold txtL; rw [nl_len, if_neg h]
set_option maxHeartbeats 1000000 in
theorem text_calls' (s : ByteArray) (w : World) :
    Calls Try.prog 10 #[.string s] w fun e w' => ∃ v, e = .returned v ∧ OwnB w' w.heap.size (txtL (nl s)) v ∧ Below w.heap.size w w' := by
  by_cases h : s.size ≤ 8
  · have C := fun w' => Lib.hid (num_calls s.size w')
    have hl : (numL s.size).length ≤ 5 := (numL_len (by omega)).2
    have HT := Lib.hid (numL_txt h)
    have hd : decide ((8 : Int) < s.size) = false := by simp; omega
    generalize numL s.size = l at *
    go_enter Try.func10, Try.ntmps10
    go_wp2_with (first | (go_at_call 8; (with_reducible refine (C _).out.mono ?_); rintro e w1 ⟨v, rfl, hown, hb⟩; obtain ⟨oa, cap, rfl, _, _⟩ := hown.val; have HP := Lib.hid (fun ty => run_append_str ty hown s (by omega) hb.size); have HB := Lib.hid hb; have HO := Lib.hid hown; clear hb hown) | (at_builtin; obtain ⟨v', w', hrun, hown, hgr⟩ := HP.out _; refine Lib.wpList_append_run _ rfl _ _ _ _ rfl _ _ rfl rfl _ _ hrun ?_))
    go_ret
    exact ⟨_, rfl, by rw [← HT.out]; exact hown, below_pushB HO.out HB.out (Nat.le_refl _) hgr HB.out.size⟩
  · have hd : decide ((8 : Int) < s.size) = true := by simp; omega
    have HT := Lib.hid (txtL_long h)
    go_enter Try.func10, Try.ntmps10
    go_wp2
    go_ret
    exact ⟨_, rfl, by rw [HT.out]; exact OwnB.nil _ _, Below.refl _ _⟩
attribute [local go_sem ↓] run_slice_lhI run_slice_hI run_slice_lI
set_option maxHeartbeats 1000000 in
theorem getText_calls (l : List Nat) (v : Value) (w : World) (hB : ByW w l v) :
    Calls Try.prog 14 #[v] w fun e w' => e = .returned (.tuple #[.string (strN (getT l).1), .int .i64 (getT l).2]) ∧ w = w' := by
  have C := Lib.hid (getNum_calls l v w hB)
  obtain ⟨h3, h4, h5, h6⟩ := getN_le hB.ok
  have e : getT l = if (getN l).2 = 0 ∨ (getN l).1 < 0 ∨ 8 < (getN l).1 ∨ (l.length : Int) < (getN l).2 + (getN l).1 then ([], 0)
    else ((l.drop (getN l).2).take (getN l).1.toNat, (getN l).2 + (getN l).1.toNat) := rfl
  rw [e]
  clear e
  generalize (getN l).1 = n at *
  generalize (getN l).2 = k at *
  obtain ⟨oa, cap, rfl, h1, h2⟩ := hB.val
  unfold maxLen at h2
  have HB := Lib.hid hB
  clear hB
  by_cases c1 : k = 0
  · subst c1
    rw [if_pos (.inl rfl)]
    go_enter Try.func14, Try.ntmps14
    go_wp2_with (go_at_call 12; (with_reducible refine C.out.mono ?_); rintro e w1 ⟨rfl, rfl⟩)
    go_ret2
    exact ⟨rfl, rfl⟩
  · have q1 : ((k : Int) == 0) = false := by simp; omega
    by_cases c2 : n < 0
    · rw [if_pos (.inr (.inl c2))]
      go_enter Try.func14, Try.ntmps14
      go_wp2_with (go_at_call 12; (with_reducible refine C.out.mono ?_); rintro e w1 ⟨rfl, rfl⟩)
      go_ret2
      exact ⟨rfl, rfl⟩
    · by_cases c3 : 8 < n
      · rw [if_pos (.inr (.inr (.inl c3)))]
        go_enter Try.func14, Try.ntmps14
        go_wp2_with (go_at_call 12; (with_reducible refine C.out.mono ?_); rintro e w1 ⟨rfl, rfl⟩)
        go_ret2
        exact ⟨rfl, rfl⟩
      · obtain ⟨m, rfl⟩ : ∃ m : Nat, n = m := ⟨n.toNat, by omega⟩
        by_cases c4 : (l.length : Int) < k + m
        · rw [if_pos (.inr (.inr (.inr c4)))]
          have q4 : decide ((l.length : Int) - k < m) = true := by simp; omega
          go_enter Try.func14, Try.ntmps14
          go_wp2_with (go_at_call 12; (with_reducible refine C.out.mono ?_); rintro e w1 ⟨rfl, rfl⟩)
          go_ret2
          exact ⟨rfl, rfl⟩
        · rw [if_neg (by omega)]
          have q4 : decide ((l.length : Int) - k < m) = false := by simp; omega
          have q5 : (k : Int) + m = ((k + m : Nat) : Int) := by omega
          have hV := HB.out.part k (k + m) cap (by omega) (by omega) (by omega) (Nat.le_refl _)
          have hr := run_convert_by hV
          have e1 : (l.take (k + m)).drop k = (l.drop k).take m := by rw [List.drop_take]; congr 1; omega
          rw [e1, show k + m - k = m by omega] at hr
          have s0 : (0 : Int) ≤ (k : Int) := by omega
          have s1 : (k : Int) ≤ (k : Int) + m := by omega
          have s2 : (k : Int) + m ≤ cap := by omega
          clear hV e1 q5
          go_enter Try.func14, Try.ntmps14
          go_wp2_with (go_at_call 12; (with_reducible refine C.out.mono ?_); rintro e w1 ⟨rfl, rfl⟩)
          go_ret2
          exact ⟨rfl, rfl⟩

/-! ### Sums -/
theorem and_one (d : Nat) (h : d < 2 ^ 32) : bits .and .u32 (d : Int) 1 = ((d % 2 : Nat) : Int) := by
  have := u32_and_nat d 1 h (by decide)
  rw [Nat.and_one_is_mod] at this
  exact this
theorem xor_p (d : Nat) (h : d < 2 ^ 32) : bits .xor .u32 ((d : Int) / 2) 3988292384 = ((d / 2 ^^^ crcP : Nat) : Int) := by
  have := u32_xor_nat (d / 2) crcP (by omega) (by decide)
  exact this
set_option maxHeartbeats 1000000 in
theorem shifted_calls (c : Nat) (hc : c < 2 ^ 32) (w : World) :
    Calls Try.prog 28 #[.int .u32 c] w fun e w' => e = .returned (.int .u32 (bitsS 8 c)) ∧ w = w' := by
  go_enter Try.func28, Try.ntmps28
  go_wp2
  go_loop [0, 4] (fun s i => ∃ k : Nat, k ≤ 8 ∧ i = .int .i64 k ∧ s = .int .u32 (bitsS k c)) (fun _ i => 8 - (intOf i).toNat)
  case atStart => exact ⟨0, by omega, rfl, rfl⟩
  case round =>
    obtain ⟨k, hk, rfl, rfl⟩ := hrel
    have hlt := bitsS_lt k hc
    have HS := Lib.hid (bitsS_succ k c)
    have e1 := and_one (bitsS k c) hlt
    have HX := Lib.hid (xor_p (bitsS k c) hlt)
    by_cases h8 : k < 8
    · generalize bitsS k c = d at *
      by_cases hd : d % 2 = 1
      · have HE := Lib.hid (show bitS d = (d / 2) ^^^ crcP by unfold bitS; rw [if_pos hd])
        rw [hd] at e1
        go_wp2
        go_round
        case rel => exact ⟨k + 1, by omega, by go_num, by rw [HS.out, HE.out, HX.out]⟩
        case measure => simp [intOf]; omega
      · have HE := Lib.hid (show bitS d = d / 2 by unfold bitS; rw [if_neg hd])
        rw [show d % 2 = 0 by omega] at e1
        go_wp2
        go_round
        case rel => exact ⟨k + 1, by omega, by go_num, by rw [HS.out, HE.out]; go_num⟩
        case measure => simp [intOf]; omega
    · obtain rfl : k = 8 := by omega
      generalize hq : bitsS 8 c = d at *
      have HQ := Lib.hid hq
      clear hq
      go_wp2
      go_ret
      exact ⟨ret_int (by rw [HQ.out]), rfl⟩
theorem xor_b (d x : Nat) (h : d < 2 ^ 32) (hx : x < 256) : bits .xor .u32 (d : Int) (x : Int) = ((d ^^^ x : Nat) : Int) :=
  u32_xor_nat d x (by omega) (by omega)
theorem xor_n (d : Nat) (h : d < 2 ^ 32) : bits .xor .u32 4294967295 (d : Int) = ((d ^^^ 4294967295 : Nat) : Int) := by
  have := u32_xor_nat 4294967295 d (by decide) (by omega)
  rw [Nat.xor_comm] at this
  exact this
theorem sumS_snoc (c : Nat) (l : List Nat) (x : Nat) : sumS c (l ++ [x]) = byteS (sumS c l) x := by
  unfold sumS; rw [List.foldl_append]; rfl
set_option maxHeartbeats 2000000 in
theorem sum_calls (l : List Nat) (v : Value) (w : World) (hB : ByW w l v) :
    Calls Try.prog 18 #[v] w fun e w' => e = .returned (.int .u32 (crcS l)) ∧ w = w' := by
  obtain ⟨oa, cap, b, o, rfl, hB⟩ := hB
  have h1 := hB.len
  have h2 := hB.max
  unfold maxLen at h2
  have HB := Lib.hid hB
  clear hB
  generalize hn : l.length = n at *
  have HN := Lib.hid hn
  clear hn
  go_enter Try.func18, Try.ntmps18
  go_wp2
  go_loop [3, 8] (fun s i => ∃ k : Nat, k ≤ n ∧ i = .int .i64 k ∧ s = .int .u32 (sumS 4294967295 (l.take k))) (fun _ i => n - (intOf i).toNat)
  case atStart => exact ⟨0, by omega, rfl, rfl⟩
  case round =>
    obtain ⟨k, hk, rfl, rfl⟩ := hrel
    have hlt := sumS_lt (l.take k) (c := 4294967295) (by decide) (fun x hx => HB.out.ok x (List.mem_of_mem_take hx))
    by_cases h8 : k < n
    · obtain ⟨x, hx⟩ := getB (l := l) (k := k) (by rw [HN.out]; exact h8)
      obtain ⟨rfl, hb⟩ := HB.out.at0 (by rw [HN.out]; omega)
      have hc := HB.out.cell k x hx
      have hx8 := HB.out.ok x (List.mem_of_getElem? hx)
      have HS := Lib.hid (show sumS 4294967295 (l.take (k + 1)) = byteS (sumS 4294967295 (l.take k)) x by rw [takeB hx, sumS_snoc])
      clear hx
      generalize sumS 4294967295 (l.take k) = d at *
      have e1 := xor_b d x hlt hx8
      have hxl : d ^^^ x < 2 ^ 32 := Nat.xor_lt_two_pow hlt (by omega)
      have C := fun w' => Lib.hid (shifted_calls (d ^^^ x) hxl w')
      have HE := Lib.hid (show byteS d x = bitsS 8 (d ^^^ x) from rfl)
      clear hxl
      generalize d ^^^ x = q at *
      go_wp2_with (go_at_call 28; (with_reducible refine (C _).out.mono ?_); rintro e w1 ⟨rfl, rfl⟩)
      go_round
      case rel => exact ⟨k + 1, by omega, by go_num, by rw [HS.out, HE.out]⟩
      case measure => simp [intOf]; omega
    · obtain rfl : k = n := by omega
      have e : l.take k = l := List.take_of_length_le (by rw [HN.out]; omega)
      rw [e] at hlt ⊢
      have HE := Lib.hid (show crcS l = sumS 4294967295 l ^^^ 4294967295 from rfl)
      generalize sumS 4294967295 l = d at *
      have E1 := Lib.hid (xor_n d hlt)
      clear e
      go_wp2
      go_ret
      exact ⟨ret_int (by rw [HE.out]; exact E1.out), rfl⟩
end Go.Proofs.Ytghnephjgffenaa
