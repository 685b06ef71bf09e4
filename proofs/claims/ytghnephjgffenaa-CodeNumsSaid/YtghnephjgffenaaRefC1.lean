/- The document's answer for numbers and texts as bytes. Walked. -/
import Derived.Test.YtghnephjgffenaaCodN
namespace Go.Proofs.Ytghnephjgffenaa
set_option linter.unusedVariables false
set_option linter.unusedSimpArgs false
set_option maxRecDepth 100000
open Go.RowKit

def RNumRel (u : Nat) (w0 : World) (x b : Value) (wr : World) : Prop := ∃ (r : Nat) (d : List Nat), x = .int .i64 r ∧ Hid (NumInv u w0 b r d wr)
set_option maxHeartbeats 2000000 in
theorem refNum_in (n : Int) (w : World) (h1 : -2147483648 ≤ n) (h2 : n ≤ 2147483647) :
    Calls Try.prog 9 #[.int .i64 n] w fun e w' => ∃ v, e = .returned v ∧ OwnB w' w.heap.size (numL n) v ∧ Below w.heap.size w w' := by
  have hz := zig_le.2 ⟨h1, h2⟩
  have hN : numL n = digs (zig n) := by unfold numL; rw [if_pos ⟨h1, h2⟩]
  have hp : 0 ≤ n → (zig n : Int) = 2 * n := zig_pos
  have hm : n < 0 → (zig n : Int) = -2 * n - 1 := zig_neg
  rw [hN]
  clear hN
  generalize zig n = u at *
  have I := Lib.hid (show NumInv u w (.slice none 0 0) u [] w from ⟨rfl, by simpa using hz, by simp, OwnB.nil _ _, Below.refl _ _⟩)
  have q1 : decide (n < (-2147483648 : Int)) = false := by simp; omega
  have q2 : decide ((2147483647 : Int) < n) = false := by simp; omega
  by_cases hn : n < 0
  · have e := hm hn
    have e2 : -2 * n - 1 = (u : Int) := by omega
    have E := Lib.hid e2
    clear hp hm e e2
    go_enter Try.func9, Try.ntmps9
    go_wp2
    go_loopw [3, 4] (fun x b wr => RNumRel u w x b wr) (fun x _ _ => (intOf x).toNat)
    case atStart => exact ⟨u, [], by rw [E.out], I⟩
    case round =>
      obtain ⟨r, d, rfl, I⟩ := hrel
      have hr8 := I.out.r_le
      by_cases hr : r ≤ 127
      · have P := fun ty => push_byte ty I.out.own I.out.bel I.out.bel.size r (r : Int) rfl (by omega) (by have := I.out.len; omega)
        have HP := Lib.hid P
        have HD := Lib.hid ((I.out.digs).trans (by rw [digs_small hr]))
        have q : decide ((127 : Int) < r) = false := by simp; omega
        obtain ⟨oa, cap, rfl, _, _⟩ := I.out.own.val
        clear P I
        go_wp2_with (at_builtin; obtain ⟨v', w', hrun, hown, hgr⟩ := HP.out _; refine Lib.wpList_append_run _ rfl _ _ _ _ rfl _ _ rfl rfl _ _ hrun ?_)
        go_ret
        exact ⟨_, rfl, by rw [HD.out]; exact hown, hgr⟩
      · have P := fun ty => push_byte ty I.out.own I.out.bel I.out.bel.size (128 + r % 128) ((r : Int) % 128 + 128) (by omega) (by omega) (by have := I.out.len; omega)
        have P2 := fun ty => push_byte ty I.out.own I.out.bel I.out.bel.size (128 + r % 128) (128 + (r : Int) % 128) (by omega) (by omega) (by have := I.out.len; omega)
        have HP := Lib.hid P
        have HP2 := Lib.hid P2
        have q : decide ((127 : Int) < r) = true := by simp; omega
        obtain ⟨oa, cap, rfl, _, _⟩ := I.out.own.val
        clear P P2
        go_wp2_with (at_builtin; first | (obtain ⟨v', w', hrun, hown, hgr⟩ := HP.out _; refine Lib.wpList_append_run _ rfl _ _ _ _ rfl _ _ rfl rfl _ _ hrun ?_) | (obtain ⟨v', w', hrun, hown, hgr⟩ := HP2.out _; refine Lib.wpList_append_run _ rfl _ _ _ _ rfl _ _ rfl rfl _ _ hrun ?_))
        have NI := Lib.hid (I.out.more hr hown hgr)
        go_roundw
        case rel => exact ⟨r / 128, _, by go_num, NI⟩
        case measure => simp [intOf]; omega
  · have e := hp (by omega)
    have e2 : 2 * n = (u : Int) := by omega
    have E := Lib.hid e2
    clear hp hm e e2
    go_enter Try.func9, Try.ntmps9
    go_wp2
    go_loopw [3, 4] (fun x b wr => RNumRel u w x b wr) (fun x _ _ => (intOf x).toNat)
    case atStart => exact ⟨u, [], by rw [E.out], I⟩
    case round =>
      obtain ⟨r, d, rfl, I⟩ := hrel
      have hr8 := I.out.r_le
      by_cases hr : r ≤ 127
      · have P := fun ty => push_byte ty I.out.own I.out.bel I.out.bel.size r (r : Int) rfl (by omega) (by have := I.out.len; omega)
        have HP := Lib.hid P
        have HD := Lib.hid ((I.out.digs).trans (by rw [digs_small hr]))
        have q : decide ((127 : Int) < r) = false := by simp; omega
        obtain ⟨oa, cap, rfl, _, _⟩ := I.out.own.val
        clear P I
        go_wp2_with (at_builtin; obtain ⟨v', w', hrun, hown, hgr⟩ := HP.out _; refine Lib.wpList_append_run _ rfl _ _ _ _ rfl _ _ rfl rfl _ _ hrun ?_)
        go_ret
        exact ⟨_, rfl, by rw [HD.out]; exact hown, hgr⟩
      · have P := fun ty => push_byte ty I.out.own I.out.bel I.out.bel.size (128 + r % 128) ((r : Int) % 128 + 128) (by omega) (by omega) (by have := I.out.len; omega)
        have P2 := fun ty => push_byte ty I.out.own I.out.bel I.out.bel.size (128 + r % 128) (128 + (r : Int) % 128) (by omega) (by omega) (by have := I.out.len; omega)
        have HP := Lib.hid P
        have HP2 := Lib.hid P2
        have q : decide ((127 : Int) < r) = true := by simp; omega
        obtain ⟨oa, cap, rfl, _, _⟩ := I.out.own.val
        clear P P2
        go_wp2_with (at_builtin; first | (obtain ⟨v', w', hrun, hown, hgr⟩ := HP.out _; refine Lib.wpList_append_run _ rfl _ _ _ _ rfl _ _ rfl rfl _ _ hrun ?_) | (obtain ⟨v', w', hrun, hown, hgr⟩ := HP2.out _; refine Lib.wpList_append_run _ rfl _ _ _ _ rfl _ _ rfl rfl _ _ hrun ?_))
        have NI := Lib.hid (I.out.more hr hown hgr)
        go_roundw
        case rel => exact ⟨r / 128, _, by go_num, NI⟩
        case measure => simp [intOf]; omega
theorem refNum_calls (n : Int) (w : World) :
    Calls Try.prog 9 #[.int .i64 n] w fun e w' => ∃ v, e = .returned v ∧ OwnB w' w.heap.size (numL n) v ∧ Below w.heap.size w w' := by
  by_cases h1 : -2147483648 ≤ n
  · by_cases h2 : n ≤ 2147483647
    · exact refNum_in n w h1 h2
    · have hN : numL n = [] := by unfold numL; rw [if_neg (by omega)]
      rw [hN]
      have h3 : (2147483647 : Int) < n := by omega
      go_enter Try.func9, Try.ntmps9
      go_wp2
      go_ret
      exact ⟨_, rfl, OwnB.nil _ _, Below.refl _ _⟩
  · have hN : numL n = [] := by unfold numL; rw [if_neg (by omega)]
    rw [hN]
    have h3 : n < (-2147483648 : Int) := by omega
    go_enter Try.func9, Try.ntmps9
    go_wp2
    go_ret
    exact ⟨_, rfl, OwnB.nil _ _, Below.refl _ _⟩
set_option maxHeartbeats 2000000 in
theorem refText_calls (s : ByteArray) (w : World) :
    Calls Try.prog 11 #[.string s] w fun e w' => ∃ v, e = .returned v ∧ OwnB w' w.heap.size (txtL (nl s)) v ∧ Below w.heap.size w w' := by
  by_cases h : s.size ≤ 8
  · have HT := Lib.hid (show [2 * s.size] ++ nl s = txtL (nl s) by unfold txtL; rw [nl_len, if_pos h]; rfl)
    have hd : decide ((8 : Int) < s.size) = false := by simp; omega
    have O := own_new (w := w) (base := w.heap.size) [2 * s.size] (Nat.le_refl _) (by unfold maxLen; simp)
    rw [show (byC [2 * s.size]).toArray = #[.int .u8 (2 * (s.size : Int))] by simp [byC]] at O
    have HO := Lib.hid O
    have HP := Lib.hid (fun ty => run_append_str ty O s (by simp; omega) (by simp))
    have HB := Lib.hid ((Below.refl w.heap.size w).alloc (Nat.le_refl _) (.cells #[.int .u8 (2 * (s.size : Int))] 5))
    clear O
    go_enter Try.func11, Try.ntmps11
    go_wp2_with (at_builtin; obtain ⟨v', w', hrun, hown, hgr⟩ := HP.out _; refine Lib.wpList_append_run _ rfl _ _ _ _ rfl _ _ rfl rfl _ _ hrun ?_)
    go_ret
    exact ⟨_, rfl, by rw [← HT.out]; exact hown, below_pushB HO.out HB.out (Nat.le_refl _) hgr (by simp)⟩
  · have hd : decide ((8 : Int) < s.size) = true := by simp; omega
    have HT := Lib.hid (show txtL (nl s) = [] by unfold txtL; rw [nl_len, if_neg h])
    go_enter Try.func11, Try.ntmps11
    go_wp2
    go_ret
    exact ⟨_, rfl, by rw [HT.out]; exact OwnB.nil _ _, Below.refl _ _⟩
end Go.Proofs.Ytghnephjgffenaa
