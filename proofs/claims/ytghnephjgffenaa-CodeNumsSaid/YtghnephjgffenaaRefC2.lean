/- The document's answer for the number and the text with which bytes begin. Walked. -/
import Derived.Test.YtghnephjgffenaaCodN
namespace Go.Proofs.Ytghnephjgffenaa
set_option linter.unusedVariables false
set_option linter.unusedSimpArgs false
set_option maxRecDepth 100000
open Go.RowKit

theorem lowN_le5 {l : List Nat} (h : l.length ≤ 5) : lowN l < 34359738368 :=
  Nat.lt_of_lt_of_le (lowN_lt l) (Nat.pow_le_pow_right (by omega) h)
theorem hi_step {l : List Nat} {m j x : Nat} (hj : j < m) (hm : m ≤ l.length) (hx : l[j]? = some x) : lowN ((l.take m).drop j) = x % 128 + 128 * lowN ((l.take m).drop (j + 1)) := by
  have h1 : (l.take m)[j]? = some x := by rw [List.getElem?_take_of_lt hj, hx]
  obtain ⟨h2, e⟩ := List.getElem?_eq_some_iff.1 h1
  rw [List.drop_eq_getElem_cons h2, e, lowN]
def HiRel (l : List Nat) (k : Nat) (u i : Value) : Prop := ∃ j : Nat, j ≤ k + 1 ∧ i = .int .i64 ((j : Int) - 1) ∧ u = .int .i64 (lowN ((l.take (k + 1)).drop j))
set_option maxHeartbeats 4000000 in
theorem refGetNum_calls (l : List Nat) (v : Value) (w : World) (hB : ByW w l v) :
    Calls Try.prog 13 #[v] w fun e w' => e = .returned (.tuple #[.int .i64 (getN l).1, .int .i64 (getN l).2]) ∧ w = w' := by
  obtain ⟨oa, cap, b, o, rfl, hB⟩ := hB
  have h1 := hB.len
  have h2 := hB.max
  unfold maxLen at h2
  have HB := Lib.hid hB
  clear hB
  generalize hn : l.length = n at *
  have HN := Lib.hid hn
  clear hn
  go_enter Try.func13, Try.ntmps13
  go_wp2
  go_loop [4] (fun i => ∃ k : Nat, k ≤ 5 ∧ k ≤ n ∧ i = .int .i64 k ∧ Hid (HighN l k)) (fun i => 5 - (intOf i).toNat)
  case atStart => exact ⟨0, by omega, by omega, rfl, Lib.hid (HighN.zero l)⟩
  case round =>
    obtain ⟨k, hk5, hkn, rfl, HH⟩ := hrel
    by_cases hl : k < n
    · obtain ⟨x, hx⟩ := getB (l := l) (k := k) (by rw [HN.out]; exact hl)
      obtain ⟨rfl, hb⟩ := HB.out.at0 (by rw [HN.out]; omega)
      have hc := HB.out.cell k x hx
      have hx8 := HB.out.ok x (List.mem_of_getElem? hx)
      have q1 : ((k : Int) == (n : Int)) = false := by simp; omega
      by_cases h5 : k < 5
      · have q2 : ((k : Int) == 5) = false := by simp; omega
        by_cases h7 : x ≤ 127
        · have q3 : decide ((127 : Int) < x) = false := by simp; omega
          have HX := Lib.hid hx
          clear hx
          by_cases h0 : 0 < k ∧ x = 0
          · obtain ⟨h0, rfl⟩ := h0
            have HG := Lib.hid ((getN_last HH.out h5 HX.out h7).trans (if_pos ⟨h0, rfl⟩))
            go_wp2
            go_ret2
            exact ⟨by rw [HG.out]; rfl, rfl⟩
          · have hL : lowN (l.take (k + 1)) = lowN (l.take k) + 128 ^ k * x := by
              rw [takeB HX.out, lowN_snoc, List.length_take_of_le (by rw [HN.out]; omega), Nat.mod_eq_of_lt (by omega)]
            have HG := Lib.hid ((getN_last HH.out h5 HX.out h7).trans (if_neg h0))
            rw [← hL] at HG
            have HT : (l.take (k + 1)).length ≤ 5 := by simp; omega
            have q4 : decide (0 < k) = false ∨ (decide (0 < k) = true ∧ ((x : Int) == 0) = false) := by
              rcases Nat.eq_zero_or_pos k with h | h
              · exact .inl (by simp; omega)
              · exact .inr ⟨by simp; omega, by simp; omega⟩
            clear hL h0
            rcases q4 with q4 | ⟨q4, q6⟩
            all_goals
              go_wp2
              go_loop [5, 6] (fun u i => HiRel l k u i) (fun _ i => (intOf i + 1).toNat)
              case atStart => exact ⟨k + 1, Nat.le_refl _, by go_num, by rw [List.drop_eq_nil_of_le (by rw [List.length_take]; omega)]; rfl⟩
              case round =>
                obtain ⟨j, hj, rfl, rfl⟩ := hrel
                rcases Nat.eq_zero_or_pos j with rfl | hj0
                · rw [List.drop_zero]
                  have hT := lowN_le5 HT
                  generalize lowN (l.take (k + 1)) = T at *
                  by_cases t1 : T ≤ 4294967295
                  · have HG2 := Lib.hid (HG.out.trans (if_pos t1))
                    by_cases t2 : T % 2 = 0
                    · have HZ := Lib.hid (zag_even t2)
                      have q5 : ((T : Int) % 2 == 0) = true := by simp; omega
                      go_wp2
                      go_ret2
                      exact ⟨by rw [HG2.out, HZ.out]; rfl, rfl⟩
                    · have HZ := Lib.hid (show zag T = -(((T : Int) + 1) / 2) by rw [zag_odd t2]; omega)
                      have q5 : ((T : Int) % 2 == 0) = false := by simp; omega
                      go_wp2
                      go_ret2
                      exact ⟨by rw [HG2.out, HZ.out]; rfl, rfl⟩
                  · have HG2 := Lib.hid (HG.out.trans (if_neg t1))
                    have q5 : decide ((4294967295 : Int) < T) = true := by simp; omega
                    go_wp2
                    go_ret2
                    exact ⟨by rw [HG2.out]; rfl, rfl⟩
                · obtain ⟨j, rfl⟩ : ∃ i, j = i + 1 := ⟨j - 1, by omega⟩
                  rw [show ((j + 1 : Nat) : Int) - 1 = (j : Int) by omega]
                  obtain ⟨y, hy⟩ := getB (l := l) (k := j) (by rw [HN.out]; omega)
                  have hcy := HB.out.cell j y hy
                  have hy8 := HB.out.ok y (List.mem_of_getElem? hy)
                  have HS := Lib.hid (hi_step (l := l) (m := k + 1) (j := j) (by omega) (by rw [HN.out]; omega) hy)
                  have hlo : lowN ((l.take (k + 1)).drop (j + 1)) < 34359738368 := lowN_le5 (by simp; omega)
                  clear hy
                  generalize lowN ((l.take (k + 1)).drop (j + 1)) = A at *
                  go_wp2
                  go_round
                  case rel => exact ⟨j, by omega, by go_num, by rw [HS.out]; go_num⟩
                  case measure => simp [intOf]
        · have HH2 := Lib.hid (HH.out.step hx (by omega))
          have q3 : decide ((127 : Int) < x) = true := by simp; omega
          clear hx
          go_wp2
          go_round
          case rel => exact ⟨k + 1, by omega, by omega, by go_num, HH2⟩
          case measure => simp [intOf]; omega
      · obtain rfl : k = 5 := by omega
        have HG := Lib.hid (getN_five HH.out (by rw [HN.out]; omega))
        go_wp2
        go_ret2
        exact ⟨by rw [HG.out]; rfl, rfl⟩
    · have HG := Lib.hid (getN_end HH.out (by rw [HN.out]; omega) (by omega))
      have q1 : ((k : Int) == (n : Int)) = true := by simp; omega
      go_wp2
      go_ret2
      exact ⟨by rw [HG.out]; rfl, rfl⟩

attribute [local go_sem ↓] run_slice_lhI run_slice_hI run_slice_lI
set_option maxHeartbeats 1000000 in
theorem refGetText_calls (l : List Nat) (v : Value) (w : World) (hB : ByW w l v) :
    Calls Try.prog 15 #[v] w fun e w' => e = .returned (.tuple #[.string (strN (getT l).1), .int .i64 (getT l).2]) ∧ w = w' := by
  have C := Lib.hid (refGetNum_calls l v w hB)
  obtain ⟨h3, h4, h5, h6⟩ := getN_le hB.ok
  have e : getT l = if (getN l).2 = 0 ∨ (getN l).1 < 0 ∨ 8 < (getN l).1 ∨ (l.length : Int) < (getN l).2 + (getN l).1 then ([], 0)
    else ((l.drop (getN l).2).take (getN l).1.toNat, (getN l).2 + (getN l).1.toNat) := rfl
  rw [e]
  clear e
  generalize (getN l).1 = n at *
  generalize (getN l).2 = k at *
  obtain ⟨oa, cap, rfl, h1, h2⟩ := hB.val
  unfold maxLen at h2
  have HB := Lib.hid hB
  clear hB
  by_cases c1 : k = 0
  · subst c1
    rw [if_pos (.inl rfl)]
    go_enter Try.func15, Try.ntmps15
    go_wp2_with (go_at_call 13; (with_reducible refine C.out.mono ?_); rintro e w1 ⟨rfl, rfl⟩)
    go_ret2
    exact ⟨rfl, rfl⟩
  · have q1 : ((k : Int) == 0) = false := by simp; omega
    by_cases c2 : n < 0
    · rw [if_pos (.inr (.inl c2))]
      go_enter Try.func15, Try.ntmps15
      go_wp2_with (go_at_call 13; (with_reducible refine C.out.mono ?_); rintro e w1 ⟨rfl, rfl⟩)
      go_ret2
      exact ⟨rfl, rfl⟩
    · by_cases c3 : 8 < n
      · rw [if_pos (.inr (.inr (.inl c3)))]
        go_enter Try.func15, Try.ntmps15
        go_wp2_with (go_at_call 13; (with_reducible refine C.out.mono ?_); rintro e w1 ⟨rfl, rfl⟩)
        go_ret2
        exact ⟨rfl, rfl⟩
      · obtain ⟨m, rfl⟩ : ∃ m : Nat, n = m := ⟨n.toNat, by omega⟩
        by_cases c4 : (l.length : Int) < k + m
        · rw [if_pos (.inr (.inr (.inr c4)))]
          have q4 : decide ((l.length : Int) < k + m) = true := by simp; omega
          go_enter Try.func15, Try.ntmps15
          go_wp2_with (go_at_call 13; (with_reducible refine C.out.mono ?_); rintro e w1 ⟨rfl, rfl⟩)
          go_ret2
          exact ⟨rfl, rfl⟩
        · rw [if_neg (by omega)]
          have q4 : decide ((l.length : Int) < k + m) = false := by simp; omega
          have hV := HB.out.part k (k + m) cap (by omega) (by omega) (by omega) (Nat.le_refl _)
          have hr := run_convert_by hV
          have e1 : (l.take (k + m)).drop k = (l.drop k).take m := by rw [List.drop_take]; congr 1; omega
          rw [e1, show k + m - k = m by omega] at hr
          have s0 : (0 : Int) ≤ (k : Int) := by omega
          have s1 : (k : Int) ≤ (k : Int) + m := by omega
          have s2 : (k : Int) + m ≤ cap := by omega
          clear hV e1
          go_enter Try.func15, Try.ntmps15
          go_wp2_with (go_at_call 13; (with_reducible refine C.out.mono ?_); rintro e w1 ⟨rfl, rfl⟩)
          go_ret2
          exact ⟨rfl, rfl⟩
end Go.Proofs.Ytghnephjgffenaa
