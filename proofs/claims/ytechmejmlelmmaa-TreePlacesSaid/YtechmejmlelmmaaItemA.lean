/- Walks of layer 2's texts and versions, and of the document's answer for them. -/
import Derived.Test.YtechmejmlelmmaaPMay
import Derived.Test.YtechmejmlelmmaaKit
namespace Go.Proofs.Ytechmejmlelmmaa
set_option linter.unusedVariables false
set_option linter.unusedSimpArgs false
set_option maxRecDepth 100000
open Go.RowKit

def low (c : UInt8) : Bool := decide (97 ≤ c.toNat) && decide (c.toNat ≤ 122)
def lows (l : List UInt8) : Bool := l.all low
def txtB (s : ByteArray) : Bool := decide (s.size ≤ 8) && lows s.data.toList
def nameB (s : ByteArray) : Bool := decide (1 ≤ s.size) && txtB s

def feq (x y : Nat) : Bool := FloatKind.f64.format.order x y == some .eq
theorem feq_self {x : Nat} (h : Fl.wb x = true) : feq x x = true := by
  have h1 := (Fl.wb_int h).1
  have h2 := Fl.order_int h1 h1
  unfold feq
  have h3 : FloatKind.f64.format.order x x = some (compare (Fl.iv x) (Fl.iv x)) := h2
  rw [h3]
  simp

theorem low_of {c : UInt8} (h1 : 97 ≤ c.toNat) (h2 : c.toNat ≤ 122) : low c = true := by simp [low, h1, h2]
theorem not_low_lt {c : UInt8} (h : c.toNat < 97) : low c = false := by simp [low]; omega
theorem not_low_gt {c : UInt8} (h : 122 < c.toNat) : low c = false := by simp [low]; omega

theorem take_snoc (s : ByteArray) (k : Nat) (h : k < s.size) : s.data.toList.take (k + 1) = s.data.toList.take k ++ [s[k]] := by
  rw [List.take_succ_eq_append_getElem (by simpa using h)]; rfl

theorem lows_snoc (s : ByteArray) (k : Nat) (h : k < s.size) (hl : lows (s.data.toList.take k) = true) : lows (s.data.toList.take (k + 1)) = low s[k] := by
  rw [take_snoc s k h]
  unfold lows at *
  rw [List.all_append, hl]; simp

theorem lows_false (s : ByteArray) (k : Nat) (h : k < s.size) (hl : low s[k] = false) : lows s.data.toList = false := by
  unfold lows
  rw [List.all_eq_false]
  refine ⟨s[k], ?_, by rw [hl]; simp⟩
  have h' : k < s.data.size := h
  show s.data[k] ∈ s.data.toList
  exact Array.mem_toList_iff.2 (Array.getElem_mem h')

theorem lows_all (s : ByteArray) (h : lows (s.data.toList.take s.size) = true) : lows s.data.toList = true := by
  rwa [List.take_of_length_le (by simp)] at h

set_option maxHeartbeats 400000 in
theorem text_calls (s : ByteArray) (w : World) :
    Calls Try.prog 54 #[.string s] w fun e w' => e = .returned (.bool (txtB s)) ∧ w = w' := by
  by_cases h8 : s.size ≤ 8
  · have e : txtB s = lows s.data.toList := by simp [txtB, h8]
    rw [e]
    have h9 : ¬ (8 : Int) < s.size := by omega
    clear e
    go_enter Try.func54, Try.ntmps54
    go_wp2
    go_loop [3, 9] (fun _ i => ∃ k : Nat, k ≤ s.size ∧ i = .int .i64 k ∧ lows (s.data.toList.take k) = true) (fun _ i => s.size - (intOf i).toNat)
    case atStart => exact ⟨0, Nat.zero_le _, rfl, by simp [lows]⟩
    case round =>
      obtain ⟨k, hk, rfl, hl⟩ := hrel
      by_cases hlt : k < s.size
      · have hn := lows_snoc s k hlt hl
        have HN := Lib.hid hn
        have HF := Lib.hid (lows_false s k hlt)
        clear hn
        have HL := Lib.hid hl
        clear hl
        by_cases a1 : s[k].toNat < 97
        · have hz := HF.out (not_low_lt a1)
          have HZ := Lib.hid hz
          clear hz HF HN
          go_wp2
          go_ret
          exact ⟨ret_bool HZ.out.symm, rfl⟩
        · by_cases a2 : 122 < s[k].toNat
          · have hz := HF.out (not_low_gt a2)
            have HZ := Lib.hid hz
            clear hz HF HN
            go_wp2
            go_ret
            exact ⟨ret_bool HZ.out.symm, rfl⟩
          · have hz := HN.out
            rw [low_of (by omega) (by omega)] at hz
            have HZ := Lib.hid hz
            clear hz HF HN
            go_wp2
            go_round
            case rel => exact ⟨k + 1, by omega, by go_num, HZ.out⟩
            case measure => simp [intOf]; omega
      · have e : k = s.size := by omega
        subst e
        have HL := Lib.hid (lows_all s hl)
        clear hl
        go_wp2
        go_ret
        exact ⟨ret_bool HL.out.symm, rfl⟩
  · have e : txtB s = false := by simp [txtB, h8]
    rw [e]
    have h9 : (8 : Int) < s.size := by omega
    go_enter Try.func54, Try.ntmps54
    go_wp2
    go_ret
    exact ⟨rfl, rfl⟩

end Go.Proofs.Ytechmejmlelmmaa
