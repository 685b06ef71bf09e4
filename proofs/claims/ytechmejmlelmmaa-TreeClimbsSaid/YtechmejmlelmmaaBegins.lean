/- Whether a text begins with another one: the document's answer, walked. -/
import Derived.Test.YtechmejmlelmmaaHasM
import Derived.Test.YtechmejmlelmmaaOwn
import Derived.Deep.CutBlock
import Derived.Deep.DeepCutAuto
namespace Go.Proofs.Ytechmejmlelmmaa
set_option linter.unusedVariables false
set_option linter.unusedSimpArgs false
set_option maxRecDepth 100000
open Go.RowKit

/-! ### begins -/
theorem beg_short {s t : ByteArray} {k : Nat} (h1 : s.size ≤ k) (h2 : k < t.size) : begB s t = false := by
  unfold begB
  cases h : t.data.toList.isPrefixOf s.data.toList with
  | false => rfl
  | true =>
    have h3 := (List.isPrefixOf_iff_prefix.1 h).length_le
    have e1 : t.data.toList.length = t.size := by simp
    have e2 : s.data.toList.length = s.size := by simp
    omega
theorem beg_step {s t : ByteArray} {k : Nat} (hs : k < s.size) (ht : k < t.size) (h : s.data.toList.take k = t.data.toList.take k) (e : s[k] = t[k]) : s.data.toList.take (k + 1) = t.data.toList.take (k + 1) := by
  rw [take_snoc s k hs, take_snoc t k ht, h, e]
theorem beg_diff {s t : ByteArray} {k : Nat} (hs : k < s.size) (ht : k < t.size) (e : s[k] ≠ t[k]) : begB s t = false := by
  unfold begB
  cases h : t.data.toList.isPrefixOf s.data.toList with
  | false => rfl
  | true =>
    obtain ⟨r, hr⟩ := List.isPrefixOf_iff_prefix.1 h
    have e1 : s.data.toList[k]? = t.data.toList[k]? := by
      rw [← hr, List.getElem?_append_left (by simpa using ht)]
    have e2 : s.data.toList[k]? = some s[k] := by
      rw [List.getElem?_eq_getElem (by simpa using hs)]; rfl
    have e3 : t.data.toList[k]? = some t[k] := by
      rw [List.getElem?_eq_getElem (by simpa using ht)]; rfl
    rw [e2, e3] at e1
    exact absurd (Option.some.inj e1) e
theorem beg_all {s t : ByteArray} (h : s.data.toList.take t.size = t.data.toList.take t.size) : begB s t = true := by
  unfold begB
  rw [List.isPrefixOf_iff_prefix]
  have e : t.data.toList.take t.size = t.data.toList := List.take_of_length_le (by simp)
  rw [e] at h
  exact ⟨s.data.toList.drop t.size, by rw [← h]; exact List.take_append_drop _ _⟩

set_option maxHeartbeats 1000000 in
theorem begins_calls (s t : ByteArray) (w : World) (hs : s.size ≤ maxLen) (ht : t.size ≤ maxLen) :
    Calls Try.prog 37 #[.string s, .string t] w fun e w' => e = .returned (.bool (begB s t)) ∧ Below w.heap.size w w' := by
  unfold maxLen at hs ht
  go_enter Try.func37, Try.ntmps37
  go_wp2_with fail
  go_loopw [5] (fun i wr => ∃ k : Nat, k ≤ t.size ∧ i = .int .i64 k ∧ Hid (s.data.toList.take k = t.data.toList.take k) ∧ Below w.heap.size w wr) (fun i _ => t.size - (intOf i).toNat)
  case atStart => exact ⟨0, Nat.zero_le _, rfl, by simp [Hid], Below.refl _ _⟩
  case round =>
    obtain ⟨k, hk, rfl, HS, hb⟩ := hrel
    have HB := Lib.hid hb
    clear hb
    by_cases hlt : k < t.size
    · by_cases hls : k < s.size
      · have d1 : decide ((s.size : Int) ≤ (k : Int)) = false := by simp; omega
        have k0 : (0 : Int) ≤ (k : Int) := by omega
        have k1 : (k : Int) < (s.size : Int) := by omega
        have k2 : (k : Int) < (t.size : Int) := by omega
        by_cases e : s[k] = t[k]
        · have HN := Lib.hid (beg_step hls hlt HS.out e)
          have d2 : ((s[k].toNat : Int) != (t[k].toNat : Int)) = false := by rw [e]; simp
          clear e
          go_wp2_with fail
          refine wp_region_quiet_below (by kernel_rfl) (by kernel_rfl) ?_
          repeat (first | go_big_quiet_step (fail) | quiet_step (fail))
          refine wpQuiet_nil ?_
          intro w7 hw'
          have hb' := Lib.hid (regrown_below hw')
          clear hw'
          go_wp2_with fail
          go_roundw
          case rel => exact ⟨k + 1, by omega, by go_num, HN.out, HB.out.trans (hb'.out.mono HB.out.size)⟩
          case measure => simp [intOf]; omega
        · have HZ := Lib.hid (beg_diff hls hlt e)
          have d2 : ((s[k].toNat : Int) != (t[k].toNat : Int)) = true := by
            rw [bne_iff_ne]; intro h; exact e (UInt8.toNat_inj.1 (by omega))
          clear e
          go_wp2_with fail
          refine wp_region_quiet_below (by kernel_rfl) (by kernel_rfl) ?_
          repeat (first | go_big_quiet_step (fail) | quiet_step (fail))
          refine wpQuiet_nil ?_
          intro w7 hw'
          have hb' := Lib.hid (regrown_below hw')
          clear hw'
          go_wp2_with fail
          go_ret
          exact ⟨ret_bool HZ.out.symm, HB.out.trans (hb'.out.mono HB.out.size)⟩
      · have d1 : decide ((s.size : Int) ≤ (k : Int)) = true := by simp; omega
        have HZ := Lib.hid (beg_short (s := s) (t := t) (k := k) (by omega) hlt)
        go_wp2_with fail
        refine wp_region_quiet_below (by kernel_rfl) (by kernel_rfl) ?_
        repeat (first | go_big_quiet_step (fail) | quiet_step (fail))
        refine wpQuiet_nil ?_
        intro w7 hw'
        have hb' := Lib.hid (regrown_below hw')
        clear hw'
        go_wp2_with fail
        go_ret
        exact ⟨ret_bool HZ.out.symm, HB.out.trans (hb'.out.mono HB.out.size)⟩
    · have e : k = t.size := by omega
      subst e
      have HZ := Lib.hid (beg_all HS.out)
      go_wp2_with fail
      go_ret
      exact ⟨ret_bool HZ.out.symm, HB.out⟩

end Go.Proofs.Ytechmejmlelmmaa
