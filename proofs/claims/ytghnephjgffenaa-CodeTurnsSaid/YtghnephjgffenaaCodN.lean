/- The code's numbers as bytes: turned, back. Walked. -/
import Derived.Test.YtghnephjgffenaaByW
import Derived.Test.YtghnephjgffenaaNumM
namespace Go.Proofs.Ytghnephjgffenaa
set_option linter.unusedVariables false
set_option linter.unusedSimpArgs false
set_option maxRecDepth 100000
open Go.RowKit

theorem zig_pos {n : Int} (h : 0 ≤ n) : (zig n : Int) = 2 * n := by unfold zig; rw [if_neg (by omega)]; omega
theorem zig_neg {n : Int} (h : n < 0) : (zig n : Int) = -2 * n - 1 := by unfold zig; rw [if_pos h]; omega
theorem zag_even {u : Nat} (h : u % 2 = 0) : zag u = (u / 2 : Nat) := by unfold zag; rw [if_pos h]
theorem zag_odd {u : Nat} (h : ¬ u % 2 = 0) : zag u = 0 - (((u + 1) / 2 : Nat) : Int) := by unfold zag; rw [if_neg h]

set_option maxHeartbeats 1000000 in
theorem turned_calls (n : Int) (h1 : -2147483648 ≤ n) (h2 : n ≤ 2147483647) (w : World) :
    Calls Try.prog 23 #[.int .i64 n] w fun e w' => e = .returned (.int .u32 (zig n)) ∧ w = w' := by
  by_cases h : 0 ≤ n
  · have Z := Lib.hid (zig_pos h)
    go_enter Try.func23, Try.ntmps23
    go_wp2
    go_ret
    exact ⟨ret_int (by have := Z.out; omega), rfl⟩
  · have Z := Lib.hid (zig_neg (n := n) (by omega))
    go_enter Try.func23, Try.ntmps23
    go_wp2
    go_ret
    exact ⟨ret_int (by have := Z.out; omega), rfl⟩
set_option maxHeartbeats 1000000 in
theorem back_calls (u : Nat) (h1 : u ≤ 4294967295) (w : World) :
    Calls Try.prog 24 #[.int .u32 u] w fun e w' => e = .returned (.int .i64 (zag u)) ∧ w = w' := by
  by_cases h : u % 2 = 0
  · have Z := Lib.hid (zag_even h)
    have hb : (((u : Int) % 2) == 0) = true := by simp; omega
    go_enter Try.func24, Try.ntmps24
    go_wp2
    go_ret
    exact ⟨ret_int (by have := Z.out; omega), rfl⟩
  · have Z := Lib.hid (zag_odd h)
    have hb : (((u : Int) % 2) == 0) = false := by simp; omega
    go_enter Try.func24, Try.ntmps24
    go_wp2
    go_ret
    exact ⟨ret_int (by have := Z.out; omega), rfl⟩


theorem digs_small {u : Nat} (h : u ≤ 127) : digs u = [u] := by rw [digs, if_pos h]
theorem digs_more {u : Nat} (h : ¬ u ≤ 127) : digs u = (128 + u % 128) :: digs (u / 128) := by rw [digs, if_neg h]
/-- Digits put one behind the other. -/
structure NumInv (u : Nat) (w0 : World) (b : Value) (r : Nat) (d : List Nat) (wr : World) : Prop where
  digs : digs u = d ++ digs r
  le : r * 128 ^ d.length ≤ 4294967295
  len : d.length ≤ 5
  own : OwnB wr w0.heap.size d b
  bel : Below w0.heap.size w0 wr
theorem NumInv.r_le {u : Nat} {w0 : World} {b : Value} {r : Nat} {d : List Nat} {wr : World} (I : NumInv u w0 b r d wr) : r ≤ 4294967295 :=
  Nat.le_trans (Nat.le_mul_of_pos_right r (Nat.pow_pos (by omega))) I.le
theorem NumInv.more {u : Nat} {w0 : World} {b v : Value} {r : Nat} {d : List Nat} {wr w1 : World} (I : NumInv u w0 b r d wr) (hr : ¬ r ≤ 127) (h1 : OwnB w1 w0.heap.size (d ++ [128 + r % 128]) v) (h2 : Below w0.heap.size w0 w1) : NumInv u w0 v (r / 128) (d ++ [128 + r % 128]) w1 := by
  have hl : d.length < 5 := by
    have h := I.le
    rcases Nat.lt_or_ge d.length 5 with h5 | h5
    · exact h5
    · have e : d.length = 5 := by have := I.len; omega
      rw [e] at h; omega
  refine ⟨by rw [I.digs, digs_more hr, List.append_assoc]; rfl, ?_, by simp; omega, h1, h2⟩
  rw [List.length_append, List.length_singleton, Nat.pow_succ, Nat.mul_comm (128 ^ d.length), ← Nat.mul_assoc]
  exact Nat.le_trans (Nat.mul_le_mul_right _ (by omega)) I.le
def NumAct (n : Int) (u : Nat) (w0 : World) (a : Act) (wr : World) : Prop :=
  ∃ (b : Value) (r : Nat) (d : List Nat) (u5 u6 u7 u8 u9 u10 u11 u12 u13 u14 u15 u16 u17 u18 u19 u20 u21 u22 u23 u24 u25 u26 u27 u28 u29 : Value), a = { tmps := #[.int .i64 n, undef, .slice none 0 0, b, .int .u32 r, u5, u6, u7, u8, u9, u10, u11, u12, u13, u14, u15, u16, u17, u18, u19, u20, u21, u22, u23, u24, u25, u26, u27, u28, u29], defers := [] } ∧ NumInv u w0 b r d wr
set_option maxHeartbeats 4000000 in
set_option maxRecDepth 100000 in
theorem num_calls (n : Int) (w : World) :
    Calls Try.prog 8 #[.int .i64 n] w fun e w' => ∃ v, e = .returned v ∧ OwnB w' w.heap.size (numL n) v ∧ Below w.heap.size w w' := by
  by_cases h1 : -2147483648 ≤ n
  · by_cases h2 : n ≤ 2147483647
    · have hz := zig_le.2 ⟨h1, h2⟩
      have hN : numL n = digs (zig n) := by unfold numL; rw [if_pos ⟨h1, h2⟩]
      have hC := fun w' => turned_calls n h1 h2 w'
      rw [hN]
      clear hN
      generalize zig n = u at *
      have HC := Lib.hid hC
      clear hC
      go_enter Try.func8, Try.ntmps8
      go_wp2
      refine wp_scope_jumps 0 (NumAct n u w) (fun a' _ => (intOf (a'.tmps.getD 4 undef)).toNat) rfl ?_ ?_
      · go_wp2_with (go_at_call 23; refine (HC.out _).mono ?_; rintro e w1 ⟨rfl, rfl⟩)
        go_step3
        have I : NumInv u w (.slice none 0 0) u [] w := ⟨rfl, by simpa using hz, by simp, OwnB.nil _ _, Below.refl _ _⟩
        by_cases hr : u ≤ 127
        · have hq : ((u : Int) / 128) = 0 := by omega
          have hq2 : decide ((0 : Int) < (u : Int) / 128) = false := by simp; omega
          have hD := (I.digs).trans (by rw [digs_small hr])
          have P := fun ty => push_byte ty I.own I.bel I.bel.size u ((u : Int) % 128) (by omega) (by omega) (by have := I.len; omega)
          have HP := Lib.hid P
          have HD := Lib.hid hD
          clear P hD I
          go_wp2_with (at_builtin; obtain ⟨v', w', hrun, hown, hgr⟩ := HP.out _; refine Lib.wpList_append_run _ rfl _ _ _ _ rfl _ _ rfl rfl _ _ hrun ?_)
          simp only [Exit.jump]
          go_ret
          exact ⟨_, rfl, by rw [HD.out]; exact hown, hgr⟩
        · have hq2 : decide ((0 : Int) < (u : Int) / 128) = true := by simp; omega
          have P := fun ty => push_byte ty I.own I.bel I.bel.size (128 + u % 128) ((u : Int) % 128 + 128) (by omega) (by omega) (by have := I.len; omega)
          have HP := Lib.hid P
          have HI := Lib.hid I
          clear P I
          go_wp2_with (at_builtin; obtain ⟨v', w', hrun, hown, hgr⟩ := HP.out _; refine Lib.wpList_append_run _ rfl _ _ _ _ rfl _ _ rfl rfl _ _ hrun ?_)
          go_step3
          have NI := HI.out.more hr hown hgr
          rw [show ((u : Int) / 128) = ((u / 128 : Nat) : Int) by omega]
          exact ⟨rfl, ⟨v', u / 128, [] ++ [128 + u % 128], _, _, _, _, _, _, _, _, _, _, _, _, _, _, _, _, _, _, _, _, _, _, _, _, _, rfl, NI⟩⟩
      · rintro a' w' ⟨b, r, d, u5, u6, u7, u8, u9, u10, u11, u12, u13, u14, u15, u16, u17, u18, u19, u20, u21, u22, u23, u24, u25, u26, u27, u28, u29, rfl, I⟩
        have hz := I.r_le
        obtain ⟨oa, cap, rfl, _, _⟩ := I.own.val
        by_cases hr : r ≤ 127
        · have hq : ((r : Int) / 128) = 0 := by omega
          have hq2 : decide ((0 : Int) < (r : Int) / 128) = false := by simp; omega
          have hD := (I.digs).trans (by rw [digs_small hr])
          have P := fun ty => push_byte ty I.own I.bel I.bel.size r ((r : Int) % 128) (by omega) (by omega) (by have := I.len; omega)
          have HP := Lib.hid P
          have HD := Lib.hid hD
          clear P hD I
          go_wp2_with (at_builtin; obtain ⟨v', w', hrun, hown, hgr⟩ := HP.out _; refine Lib.wpList_append_run _ rfl _ _ _ _ rfl _ _ rfl rfl _ _ hrun ?_)
          simp only [Exit.jump]
          go_ret
          exact ⟨_, rfl, by rw [HD.out]; exact hown, hgr⟩
        · have hq2 : decide ((0 : Int) < (r : Int) / 128) = true := by simp; omega
          have P := fun ty => push_byte ty I.own I.bel I.bel.size (128 + r % 128) ((r : Int) % 128 + 128) (by omega) (by omega) (by have := I.len; omega)
          have HP := Lib.hid P
          have HI := Lib.hid I
          clear P I
          go_wp2_with (at_builtin; obtain ⟨v', w', hrun, hown, hgr⟩ := HP.out _; refine Lib.wpList_append_run _ rfl _ _ _ _ rfl _ _ rfl rfl _ _ hrun ?_)
          go_step3
          have NI := HI.out.more hr hown hgr
          rw [show ((r : Int) / 128) = ((r / 128 : Nat) : Int) by omega]
          exact ⟨rfl, ⟨v', r / 128, d ++ [128 + r % 128], _, _, _, _, _, _, _, _, _, _, _, _, _, _, _, _, _, _, _, _, _, _, _, _, _, rfl, NI⟩, by simp [intOf]; omega⟩
    · have hN : numL n = [] := by unfold numL; rw [if_neg (by omega)]
      rw [hN]
      have h3 : (2147483647 : Int) < n := by omega
      go_enter Try.func8, Try.ntmps8
      go_wp2
      go_step3
      go_wp2
      rw [Exit.noGoto_ret]
      go_ret
      exact ⟨_, rfl, OwnB.nil _ _, Below.refl _ _⟩
  · have hN : numL n = [] := by unfold numL; rw [if_neg (by omega)]
    rw [hN]
    have h3 : n < (-2147483648 : Int) := by omega
    go_enter Try.func8, Try.ntmps8
    go_wp2
    go_step3
    go_wp2
    rw [Exit.noGoto_ret]
    go_ret
    exact ⟨_, rfl, OwnB.nil _ _, Below.refl _ _⟩
end Go.Proofs.Ytghnephjgffenaa
