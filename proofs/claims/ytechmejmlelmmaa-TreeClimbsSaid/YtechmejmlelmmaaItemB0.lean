/- Walks of the document's answer for texts, and of names. -/
import Derived.Test.YtechmejmlelmmaaItemA
namespace Go.Proofs.Ytechmejmlelmmaa
set_option linter.unusedVariables false
set_option linter.unusedSimpArgs false
set_option maxRecDepth 100000
open Go.RowKit

theorem txt_of {s : ByteArray} (h8 : s.size ≤ 8) : txtB s = lows s.data.toList := by simp [txtB, h8]
theorem txt_far {s : ByteArray} (h8 : 8 < s.size) : txtB s = false := by simp [txtB]; omega
theorem txt_no {s : ByteArray} (h : lows s.data.toList = false) : txtB s = false := by simp [txtB, h]

set_option maxHeartbeats 400000 in
theorem letters_calls (s : ByteArray) (n : Int) (w : World) (hs : s.size ≤ maxLen) :
    Calls Try.prog 44 #[.string s, .int .i64 n] w fun e w' => e = .returned (.bool (txtB s && decide (n ≤ s.size))) ∧ w = w' := by
  unfold maxLen at hs
  go_enter Try.func44, Try.ntmps44
  go_wp2
  go_loop [5] (fun i => ∃ k : Nat, k ≤ s.size ∧ k ≤ 8 ∧ i = .int .i64 k ∧ lows (s.data.toList.take k) = true) (fun i => s.size - (intOf i).toNat)
  case atStart => exact ⟨0, Nat.zero_le _, by omega, rfl, by simp [lows]⟩
  case round =>
    obtain ⟨k, hk, hk8, rfl, hl⟩ := hrel
    by_cases hlt : k < s.size
    · by_cases h8 : k = 8
      · subst h8
        have HZ := Lib.hid (txt_far hlt)
        have HL := Lib.hid hl
        clear hl
        go_wp2
        go_ret
        exact ⟨ret_bool (by rw [HZ.out]; rfl), rfl⟩
      · have hn := lows_snoc s k hlt hl
        have HN := Lib.hid hn
        have HF := Lib.hid (lows_false s k hlt)
        clear hn
        have HL := Lib.hid hl
        clear hl
        have g8 : ((k : Int) == 8) = false := by rw [beq_eq_false_iff_ne]; omega
        by_cases a1 : s[k].toNat < 97
        · have HZ := Lib.hid (txt_no (HF.out (not_low_lt a1)))
          clear HF HN
          go_wp2
          go_ret
          exact ⟨ret_bool (by rw [HZ.out]; rfl), rfl⟩
        · by_cases a2 : 122 < s[k].toNat
          · have HZ := Lib.hid (txt_no (HF.out (not_low_gt a2)))
            clear HF HN
            go_wp2
            go_ret
            exact ⟨ret_bool (by rw [HZ.out]; rfl), rfl⟩
          · have hz := HN.out
            rw [low_of (by omega) (by omega)] at hz
            have HZ := Lib.hid hz
            clear hz HF HN
            have hk9 : k + 1 ≤ 8 := by omega
            clear h8 g8
            have g8 : ((k : Int) == 8) = false := by rw [beq_eq_false_iff_ne]; omega
            go_wp2
            go_round
            case rel => exact ⟨k + 1, by omega, hk9, by go_num, HZ.out⟩
            case measure => simp [intOf]; omega
    · have e : k = s.size := by omega
      subst e
      have HL := Lib.hid (lows_all s hl)
      have HT := Lib.hid (txt_of hk8)
      clear hl
      go_wp2
      go_ret
      exact ⟨ret_bool (by rw [HT.out, HL.out]; simp), rfl⟩

theorem size_zero_lit (s : ByteArray) (h : s.size = 0) : s = ⟨#[]⟩ := by
  cases s with
  | mk d => have : d.size = 0 := h; rw [Array.size_eq_zero_iff.1 this]

set_option maxHeartbeats 400000 in
theorem name_calls (s : ByteArray) (w : World) :
    Calls Try.prog 52 #[.string s] w fun e w' => e = .returned (.bool (nameB s)) ∧ w = w' := by
  have H := Lib.hid (text_calls s w)
  by_cases h : s.size = 0
  · have e := size_zero_lit s h
    subst e
    go_enter Try.func52, Try.ntmps52
    go_wp2
    go_ret
    exact ⟨ret_bool rfl, rfl⟩
  · have e : nameB s = txtB s := by simp [nameB]; omega
    rw [e]
    clear e
    have h1 : s.toList ≠ [] := by
      intro hz
      exact h (by have := congrArg List.length hz; rw [toList_size] at this; simpa using this)
    have h2 : s.toList.isEmpty = false := by rw [List.isEmpty_eq_false_iff]; exact h1
    generalize txtB s = r at *
    clear h
    go_enter Try.func52, Try.ntmps52
    go_wp2_with (go_at_call 54; refine (H.out).mono ?_; rintro e w' ⟨rfl, rfl⟩)
    go_ret
    exact ⟨rfl, rfl⟩

set_option maxHeartbeats 400000 in
theorem refText_calls (s : ByteArray) (w : World) (hs : s.size ≤ maxLen) :
    Calls Try.prog 32 #[.string s] w fun e w' => e = .returned (.bool (txtB s)) ∧ w = w' := by
  have H := Lib.hid (letters_calls s 0 w hs)
  have e : txtB s = (txtB s && decide ((0 : Int) ≤ s.size)) := by
    have : (0 : Int) ≤ s.size := by omega
    simp
  rw [e]
  clear e
  generalize (txtB s && decide ((0 : Int) ≤ s.size)) = r at *
  go_enter Try.func32, Try.ntmps32
  go_wp2_with (go_at_call 44; refine (H.out).mono ?_; rintro e w' ⟨rfl, rfl⟩)
  go_ret
  exact ⟨rfl, rfl⟩

end Go.Proofs.Ytechmejmlelmmaa
