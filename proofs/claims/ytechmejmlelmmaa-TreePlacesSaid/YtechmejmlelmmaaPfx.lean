/- HasPrefix: the library's walks. -/
import Derived.Test.YtechmejmlelmmaaHasM
import Derived.Test.YtechmejmlelmmaaOwn
namespace Go.Proofs.Ytechmejmlelmmaa
set_option linter.unusedVariables false
set_option linter.unusedSimpArgs false
set_option maxRecDepth 100000
open Go.RowKit

/-! ### HasPrefix -/
theorem beg_false {s t : ByteArray} (h : s.size < t.size) : begB s t = false := by
  unfold begB
  cases h1 : t.data.toList.isPrefixOf s.data.toList with
  | false => rfl
  | true =>
    have h3 := (List.isPrefixOf_iff_prefix.1 h1).length_le
    have e1 : t.data.toList.length = t.size := by simp
    have e2 : s.data.toList.length = s.size := by simp
    omega
theorem beg_take {s t : ByteArray} (h : t.size ≤ s.size) : begB s t = (s.data.toList.take t.size == t.data.toList) := by
  unfold begB
  rw [Bool.eq_iff_iff, List.isPrefixOf_iff_prefix, beq_iff_eq, List.prefix_iff_eq_take]
  have e1 : t.data.toList.length = t.size := by simp
  rw [e1]
  exact eq_comm

set_option maxHeartbeats 1000000 in
theorem prefix1_calls (s t : ByteArray) (w : World) (hs : s.size ≤ maxLen) (ht : t.size ≤ maxLen) :
    Calls Try.prog 51 #[.string s, .string t] w fun e w' => e = .returned (.bool (begB s t)) ∧ w = w' := by
  unfold maxLen at hs ht
  by_cases h : t.size ≤ s.size
  · have E := Lib.hid (beg_take h)
    have h1 : (t.size : Int) ≤ (s.size : Int) := by omega
    go_enter Try.func51, Try.ntmps51
    go_wp2_with fail
    go_ret
    refine ⟨ret_bool ?_, rfl⟩
    rw [E.out]
    rw [ByteArray.toList_eq, ByteArray.toList_eq]
    simp [ByteArray.data_extract]
  · have E := Lib.hid (beg_false (s := s) (t := t) (by omega))
    have h1 : (s.size : Int) < (t.size : Int) := by omega
    go_enter Try.func51, Try.ntmps51
    go_wp2_with fail
    go_ret
    exact ⟨ret_bool E.out.symm, rfl⟩
theorem prefix_calls (s t : ByteArray) (w : World) (hs : s.size ≤ maxLen) (ht : t.size ≤ maxLen) :
    Calls Try.prog 43 #[.string s, .string t] w fun e w' => e = .returned (.bool (begB s t)) ∧ w = w' := by
  have H := Lib.hid (prefix1_calls s t w hs ht)
  go_enter Try.func43, Try.ntmps43
  go_wp2_with (go_at_call 51; refine (H.out).mono ?_; rintro e w' ⟨rfl, rfl⟩)
  go_ret
  exact ⟨rfl, rfl⟩

end Go.Proofs.Ytechmejmlelmmaa
