/- The code's GetNum: the number with which bytes begin. Walked. -/
import Derived.Test.YtghnephjgffenaaCodN
namespace Go.Proofs.Ytghnephjgffenaa
set_option linter.unusedVariables false
set_option linter.unusedSimpArgs false
set_option maxRecDepth 100000
open Go.RowKit

def GetAct (l : List Nat) (v : Value) (w0 : World) (a : Act) (wr : World) : Prop :=
  ∃ (k : Nat) (u7 u8 u9 u10 u11 u12 u13 u14 u15 u16 u17 u18 u19 u20 u21 u22 u23 u24 u25 u26 u27 u28 u29 u30 u31 u32 u33 u34 u35 u36 u37 u38 u39 u40 u41 u42 u43 u44 u45 u46 u47 u48 u49 u50 u51 u52 : Value), a = { tmps := #[v, undef, .int .i64 0, .int .i64 0, .int .i64 k, .int .u64 (lowN (l.take k)), .int .u64 (128 ^ k : Nat), u7, u8, u9, u10, u11, u12, u13, u14, u15, u16, u17, u18, u19, u20, u21, u22, u23, u24, u25, u26, u27, u28, u29, u30, u31, u32, u33, u34, u35, u36, u37, u38, u39, u40, u41, u42, u43, u44, u45, u46, u47, u48, u49, u50, u51, u52], defers := [] } ∧ k ≤ 5 ∧ k ≤ l.length ∧ Hid (HighN l k) ∧ w0 = wr
set_option maxHeartbeats 2000000 in
set_option maxRecDepth 100000 in
theorem getNum_calls (l : List Nat) (v : Value) (w : World) (hB : ByW w l v) :
    Calls Try.prog 12 #[v] w fun e w' => e = .returned (.tuple #[.int .i64 (getN l).1, .int .i64 (getN l).2]) ∧ w = w' := by
  obtain ⟨oa, cap, b, o, rfl, hB⟩ := hB
  have h1 := hB.len
  have h2 := hB.max
  unfold maxLen at h2
  go_enter Try.func12, Try.ntmps12
  go_wp2
  refine wp_scope_jumps 0 (GetAct l (.slice oa l.length cap) w) (fun a' _ => (5 - intOf (a'.tmps.getD 4 undef)).toNat) rfl ?_ ?_
  · go_wp2
    go_step3
    have HH := Lib.hid (HighN.zero l)
    by_cases hl : 0 < l.length
    · obtain ⟨x, hx⟩ := getB hl
      obtain ⟨rfl, hb⟩ := hB.at0 (by omega)
      have hc := hB.cell 0 x hx
      try simp only [Nat.add_zero] at hc
      have hx8 := hB.ok x (List.mem_of_getElem? hx)
      have hlow := lowN_lt (l.take 0)
      rw [List.length_take_of_le (by omega)] at hlow
      have hq : ((0 : Int) == (l.length : Int)) = false := by simp; omega
      by_cases h7 : x ≤ 127
      · have HG := Lib.hid (getN_last HH.out (by omega) hx h7)
        have HB := Lib.hid hB
        clear hB hx HH
        generalize lowN (l.take 0) = A at *
        have hd1 : decide ((x : Int) < 128) = true := by simp; omega
        have hmod : ((x : Int) % 128) = x := by omega
        have hA : A < 1 := by first | exact hlow | simpa using hlow
        clear hlow
        obtain rfl : A = 0 := by omega
        have HC := fun w' => Lib.hid (back_calls x (by omega) w')
        have HG2 := HG.out
        rw [if_neg (by omega), if_pos (by omega), show 0 + 128 ^ 0 * x = x by omega] at HG2
        have HG3 := Lib.hid HG2
        clear HG HG2
        go_wp2_with (go_at_call 24; (with_reducible refine (HC _).out.mono ?_); rintro e w' ⟨rfl, rfl⟩)
        simp only [Exit.jump]
        go_ret2
        exact ⟨by rw [HG3.out]; first | rfl | (simp; done), rfl⟩
      · have HH2 := Lib.hid (HH.out.step hx (by omega))
        have hlow2 : lowN (l.take (0 + 1)) = lowN (l.take 0) + 1 * (x % 128) := by
          rw [takeB hx, lowN_snoc, List.length_take_of_le (by omega)]
        have HB := Lib.hid hB
        clear hB hx HH
        have hA : lowN (l.take 0) < 1 := by first | exact hlow | simpa using hlow
        clear hlow
        generalize lowN (l.take 0) = A at *
        generalize hX : lowN (l.take (0 + 1)) = X at *
        have HX := Lib.hid hX
        have HL := Lib.hid hlow2
        clear hlow2 hX
        have hd1 : decide ((x : Int) < 128) = false := by simp; omega
        obtain rfl : A = 0 := by omega
        go_wp2
        go_step3
        have e5 : ((x : Int) % 128) = ((lowN (l.take (0 + 1)) : Nat) : Int) := by rw [HX.out, HL.out]; omega
        rw [e5]
        exact ⟨rfl, 0 + 1, _, _, _, _, _, _, _, _, _, _, _, _, _, _, _, _, _, _, _, _, _, _, _, _, _, _, _, _, _, _, _, _, _, _, _, _, _, _, _, _, _, _, _, _, _, _, rfl, by omega, by omega, HH2, rfl⟩
    · have hk : 0 = l.length := by omega
      have HG := Lib.hid (getN_end HH.out hk (by omega))
      have hq : ((0 : Int) == (l.length : Int)) = true := by simp; omega
      clear hB HH
      go_wp2
      simp only [Exit.jump]
      go_ret2
      exact ⟨by rw [HG.out]; rfl, rfl⟩
  · rintro a' w' ⟨k, u7, u8, u9, u10, u11, u12, u13, u14, u15, u16, u17, u18, u19, u20, u21, u22, u23, u24, u25, u26, u27, u28, u29, u30, u31, u32, u33, u34, u35, u36, u37, u38, u39, u40, u41, u42, u43, u44, u45, u46, u47, u48, u49, u50, u51, u52, rfl, hk5, hkl, HH, hw⟩
    subst hw
    obtain rfl | rfl | rfl | rfl | rfl | rfl : k = 0 ∨ k = 1 ∨ k = 2 ∨ k = 3 ∨ k = 4 ∨ k = 5 := by omega
    · rw [show ((128 ^ 0 : Nat) : Int) = 1 from rfl]
      by_cases hl : 0 < l.length
      · obtain ⟨x, hx⟩ := getB hl
        obtain ⟨rfl, hb⟩ := hB.at0 (by omega)
        have hc := hB.cell 0 x hx
        try simp only [Nat.add_zero] at hc
        have hx8 := hB.ok x (List.mem_of_getElem? hx)
        have hlow := lowN_lt (l.take 0)
        rw [List.length_take_of_le (by omega)] at hlow
        have hq : ((0 : Int) == (l.length : Int)) = false := by simp; omega
        by_cases h7 : x ≤ 127
        · have HG := Lib.hid (getN_last HH.out (by omega) hx h7)
          have HB := Lib.hid hB
          clear hB hx HH
          generalize lowN (l.take 0) = A at *
          have hd1 : decide ((x : Int) < 128) = true := by simp; omega
          have hmod : ((x : Int) % 128) = x := by omega
          have hA : A < 1 := by first | exact hlow | simpa using hlow
          clear hlow
          obtain rfl : A = 0 := by omega
          have HC := fun w' => Lib.hid (back_calls x (by omega) w')
          have HG2 := HG.out
          rw [if_neg (by omega), if_pos (by omega), show 0 + 128 ^ 0 * x = x by omega] at HG2
          have HG3 := Lib.hid HG2
          clear HG HG2
          go_wp2_with (go_at_call 24; (with_reducible refine (HC _).out.mono ?_); rintro e w' ⟨rfl, rfl⟩)
          simp only [Exit.jump]
          go_ret2
          exact ⟨by rw [HG3.out]; first | rfl | (simp; done), rfl⟩
        · have HH2 := Lib.hid (HH.out.step hx (by omega))
          have hlow2 : lowN (l.take (0 + 1)) = lowN (l.take 0) + 1 * (x % 128) := by
            rw [takeB hx, lowN_snoc, List.length_take_of_le (by omega)]
          have HB := Lib.hid hB
          clear hB hx HH
          have hA : lowN (l.take 0) < 1 := by first | exact hlow | simpa using hlow
          clear hlow
          generalize lowN (l.take 0) = A at *
          generalize hX : lowN (l.take (0 + 1)) = X at *
          have HX := Lib.hid hX
          have HL := Lib.hid hlow2
          clear hlow2 hX
          have hd1 : decide ((x : Int) < 128) = false := by simp; omega
          obtain rfl : A = 0 := by omega
          go_wp2
          go_step3
          have e5 : ((x : Int) % 128) = ((lowN (l.take (0 + 1)) : Nat) : Int) := by rw [HX.out, HL.out]; omega
          rw [e5]
          exact ⟨rfl, ⟨0 + 1, _, _, _, _, _, _, _, _, _, _, _, _, _, _, _, _, _, _, _, _, _, _, _, _, _, _, _, _, _, _, _, _, _, _, _, _, _, _, _, _, _, _, _, _, _, _, rfl, by omega, by omega, HH2, rfl⟩, by simp [intOf]⟩
      · have hk : 0 = l.length := by omega
        have HG := Lib.hid (getN_end HH.out hk (by omega))
        have hq : ((0 : Int) == (l.length : Int)) = true := by simp; omega
        clear hB HH
        go_wp2
        simp only [Exit.jump]
        go_ret2
        exact ⟨by rw [HG.out]; rfl, rfl⟩
    · rw [show ((128 ^ 1 : Nat) : Int) = 128 from rfl]
      by_cases hl : 1 < l.length
      · obtain ⟨x, hx⟩ := getB hl
        obtain ⟨rfl, hb⟩ := hB.at0 (by omega)
        have hc := hB.cell 1 x hx
        try simp only [Nat.add_zero] at hc
        have hx8 := hB.ok x (List.mem_of_getElem? hx)
        have hlow := lowN_lt (l.take 1)
        rw [List.length_take_of_le (by omega)] at hlow
        have hq : ((1 : Int) == (l.length : Int)) = false := by simp; omega
        by_cases h7 : x ≤ 127
        · have HG := Lib.hid (getN_last HH.out (by omega) hx h7)
          have HB := Lib.hid hB
          clear hB hx HH
          generalize lowN (l.take 1) = A at *
          have hd1 : decide ((x : Int) < 128) = true := by simp; omega
          have hmod : ((x : Int) % 128) = x := by omega
          have hA : A < 128 := by first | exact hlow | simpa using hlow
          clear hlow
          by_cases hx0 : x = 0
          · subst hx0
            have HG2 := HG.out
            rw [if_pos ⟨by omega, rfl⟩] at HG2
            have HG3 := Lib.hid HG2
            clear HG HG2
            go_wp2
            simp only [Exit.jump]
            go_ret2
            exact ⟨by rw [HG3.out]; rfl, rfl⟩
          · have hx1 : ((x : Int) == 0) = false := by simp; omega
            by_cases hz : A + 128 * x ≤ 4294967295
            · have hz1 : decide ((4294967295 : Int) < (A : Int) + (x : Int) * 128) = false := by simp; omega
              have HC := fun w' => Lib.hid (back_calls (A + 128 * x) hz w')
              have HE := Lib.hid (show (A : Int) + (x : Int) * 128 = ((A + 128 * x : Nat) : Int) by omega)
              have HG2 := HG.out
              rw [if_neg (by omega), if_pos (by first | exact hz | simpa using hz)] at HG2
              have HG3 := Lib.hid HG2
              clear HG HG2
              go_wp2_with (go_at_call 24; rw [HE.out]; (with_reducible refine (HC _).out.mono ?_); rintro e w' ⟨rfl, rfl⟩)
              simp only [Exit.jump]
              go_ret2
              exact ⟨by rw [HG3.out]; first | rfl | (simp; done), rfl⟩
            · exact absurd hz (by omega)
        · have HH2 := Lib.hid (HH.out.step hx (by omega))
          have hlow2 : lowN (l.take (1 + 1)) = lowN (l.take 1) + 128 * (x % 128) := by
            rw [takeB hx, lowN_snoc, List.length_take_of_le (by omega)]
          have HB := Lib.hid hB
          clear hB hx HH
          have hA : lowN (l.take 1) < 128 := by first | exact hlow | simpa using hlow
          clear hlow
          generalize lowN (l.take 1) = A at *
          generalize hX : lowN (l.take (1 + 1)) = X at *
          have HX := Lib.hid hX
          have HL := Lib.hid hlow2
          clear hlow2 hX
          have hd1 : decide ((x : Int) < 128) = false := by simp; omega
          go_wp2
          go_step3
          have e5 : ((A : Int) + (x : Int) % 128 * 128) = ((lowN (l.take (1 + 1)) : Nat) : Int) := by rw [HX.out, HL.out]; omega
          rw [e5]
          exact ⟨rfl, ⟨1 + 1, _, _, _, _, _, _, _, _, _, _, _, _, _, _, _, _, _, _, _, _, _, _, _, _, _, _, _, _, _, _, _, _, _, _, _, _, _, _, _, _, _, _, _, _, _, _, rfl, by omega, by omega, HH2, rfl⟩, by simp [intOf]⟩
      · have hk : 1 = l.length := by omega
        have HG := Lib.hid (getN_end HH.out hk (by omega))
        have hq : ((1 : Int) == (l.length : Int)) = true := by simp; omega
        clear hB HH
        go_wp2
        simp only [Exit.jump]
        go_ret2
        exact ⟨by rw [HG.out]; rfl, rfl⟩
    · rw [show ((128 ^ 2 : Nat) : Int) = 16384 from rfl]
      by_cases hl : 2 < l.length
      · obtain ⟨x, hx⟩ := getB hl
        obtain ⟨rfl, hb⟩ := hB.at0 (by omega)
        have hc := hB.cell 2 x hx
        try simp only [Nat.add_zero] at hc
        have hx8 := hB.ok x (List.mem_of_getElem? hx)
        have hlow := lowN_lt (l.take 2)
        rw [List.length_take_of_le (by omega)] at hlow
        have hq : ((2 : Int) == (l.length : Int)) = false := by simp; omega
        by_cases h7 : x ≤ 127
        · have HG := Lib.hid (getN_last HH.out (by omega) hx h7)
          have HB := Lib.hid hB
          clear hB hx HH
          generalize lowN (l.take 2) = A at *
          have hd1 : decide ((x : Int) < 128) = true := by simp; omega
          have hmod : ((x : Int) % 128) = x := by omega
          have hA : A < 16384 := by first | exact hlow | simpa using hlow
          clear hlow
          by_cases hx0 : x = 0
          · subst hx0
            have HG2 := HG.out
            rw [if_pos ⟨by omega, rfl⟩] at HG2
            have HG3 := Lib.hid HG2
            clear HG HG2
            go_wp2
            simp only [Exit.jump]
            go_ret2
            exact ⟨by rw [HG3.out]; rfl, rfl⟩
          · have hx1 : ((x : Int) == 0) = false := by simp; omega
            by_cases hz : A + 16384 * x ≤ 4294967295
            · have hz1 : decide ((4294967295 : Int) < (A : Int) + (x : Int) * 16384) = false := by simp; omega
              have HC := fun w' => Lib.hid (back_calls (A + 16384 * x) hz w')
              have HE := Lib.hid (show (A : Int) + (x : Int) * 16384 = ((A + 16384 * x : Nat) : Int) by omega)
              have HG2 := HG.out
              rw [if_neg (by omega), if_pos (by first | exact hz | simpa using hz)] at HG2
              have HG3 := Lib.hid HG2
              clear HG HG2
              go_wp2_with (go_at_call 24; rw [HE.out]; (with_reducible refine (HC _).out.mono ?_); rintro e w' ⟨rfl, rfl⟩)
              simp only [Exit.jump]
              go_ret2
              exact ⟨by rw [HG3.out]; first | rfl | (simp; done), rfl⟩
            · exact absurd hz (by omega)
        · have HH2 := Lib.hid (HH.out.step hx (by omega))
          have hlow2 : lowN (l.take (2 + 1)) = lowN (l.take 2) + 16384 * (x % 128) := by
            rw [takeB hx, lowN_snoc, List.length_take_of_le (by omega)]
          have HB := Lib.hid hB
          clear hB hx HH
          have hA : lowN (l.take 2) < 16384 := by first | exact hlow | simpa using hlow
          clear hlow
          generalize lowN (l.take 2) = A at *
          generalize hX : lowN (l.take (2 + 1)) = X at *
          have HX := Lib.hid hX
          have HL := Lib.hid hlow2
          clear hlow2 hX
          have hd1 : decide ((x : Int) < 128) = false := by simp; omega
          go_wp2
          go_step3
          have e5 : ((A : Int) + (x : Int) % 128 * 16384) = ((lowN (l.take (2 + 1)) : Nat) : Int) := by rw [HX.out, HL.out]; omega
          rw [e5]
          exact ⟨rfl, ⟨2 + 1, _, _, _, _, _, _, _, _, _, _, _, _, _, _, _, _, _, _, _, _, _, _, _, _, _, _, _, _, _, _, _, _, _, _, _, _, _, _, _, _, _, _, _, _, _, _, rfl, by omega, by omega, HH2, rfl⟩, by simp [intOf]⟩
      · have hk : 2 = l.length := by omega
        have HG := Lib.hid (getN_end HH.out hk (by omega))
        have hq : ((2 : Int) == (l.length : Int)) = true := by simp; omega
        clear hB HH
        go_wp2
        simp only [Exit.jump]
        go_ret2
        exact ⟨by rw [HG.out]; rfl, rfl⟩
    · rw [show ((128 ^ 3 : Nat) : Int) = 2097152 from rfl]
      by_cases hl : 3 < l.length
      · obtain ⟨x, hx⟩ := getB hl
        obtain ⟨rfl, hb⟩ := hB.at0 (by omega)
        have hc := hB.cell 3 x hx
        try simp only [Nat.add_zero] at hc
        have hx8 := hB.ok x (List.mem_of_getElem? hx)
        have hlow := lowN_lt (l.take 3)
        rw [List.length_take_of_le (by omega)] at hlow
        have hq : ((3 : Int) == (l.length : Int)) = false := by simp; omega
        by_cases h7 : x ≤ 127
        · have HG := Lib.hid (getN_last HH.out (by omega) hx h7)
          have HB := Lib.hid hB
          clear hB hx HH
          generalize lowN (l.take 3) = A at *
          have hd1 : decide ((x : Int) < 128) = true := by simp; omega
          have hmod : ((x : Int) % 128) = x := by omega
          have hA : A < 2097152 := by first | exact hlow | simpa using hlow
          clear hlow
          by_cases hx0 : x = 0
          · subst hx0
            have HG2 := HG.out
            rw [if_pos ⟨by omega, rfl⟩] at HG2
            have HG3 := Lib.hid HG2
            clear HG HG2
            go_wp2
            simp only [Exit.jump]
            go_ret2
            exact ⟨by rw [HG3.out]; rfl, rfl⟩
          · have hx1 : ((x : Int) == 0) = false := by simp; omega
            by_cases hz : A + 2097152 * x ≤ 4294967295
            · have hz1 : decide ((4294967295 : Int) < (A : Int) + (x : Int) * 2097152) = false := by simp; omega
              have HC := fun w' => Lib.hid (back_calls (A + 2097152 * x) hz w')
              have HE := Lib.hid (show (A : Int) + (x : Int) * 2097152 = ((A + 2097152 * x : Nat) : Int) by omega)
              have HG2 := HG.out
              rw [if_neg (by omega), if_pos (by first | exact hz | simpa using hz)] at HG2
              have HG3 := Lib.hid HG2
              clear HG HG2
              go_wp2_with (go_at_call 24; rw [HE.out]; (with_reducible refine (HC _).out.mono ?_); rintro e w' ⟨rfl, rfl⟩)
              simp only [Exit.jump]
              go_ret2
              exact ⟨by rw [HG3.out]; first | rfl | (simp; done), rfl⟩
            · exact absurd hz (by omega)
        · have HH2 := Lib.hid (HH.out.step hx (by omega))
          have hlow2 : lowN (l.take (3 + 1)) = lowN (l.take 3) + 2097152 * (x % 128) := by
            rw [takeB hx, lowN_snoc, List.length_take_of_le (by omega)]
          have HB := Lib.hid hB
          clear hB hx HH
          have hA : lowN (l.take 3) < 2097152 := by first | exact hlow | simpa using hlow
          clear hlow
          generalize lowN (l.take 3) = A at *
          generalize hX : lowN (l.take (3 + 1)) = X at *
          have HX := Lib.hid hX
          have HL := Lib.hid hlow2
          clear hlow2 hX
          have hd1 : decide ((x : Int) < 128) = false := by simp; omega
          go_wp2
          go_step3
          have e5 : ((A : Int) + (x : Int) % 128 * 2097152) = ((lowN (l.take (3 + 1)) : Nat) : Int) := by rw [HX.out, HL.out]; omega
          rw [e5]
          exact ⟨rfl, ⟨3 + 1, _, _, _, _, _, _, _, _, _, _, _, _, _, _, _, _, _, _, _, _, _, _, _, _, _, _, _, _, _, _, _, _, _, _, _, _, _, _, _, _, _, _, _, _, _, _, rfl, by omega, by omega, HH2, rfl⟩, by simp [intOf]⟩
      · have hk : 3 = l.length := by omega
        have HG := Lib.hid (getN_end HH.out hk (by omega))
        have hq : ((3 : Int) == (l.length : Int)) = true := by simp; omega
        clear hB HH
        go_wp2
        simp only [Exit.jump]
        go_ret2
        exact ⟨by rw [HG.out]; rfl, rfl⟩
    · rw [show ((128 ^ 4 : Nat) : Int) = 268435456 from rfl]
      by_cases hl : 4 < l.length
      · obtain ⟨x, hx⟩ := getB hl
        obtain ⟨rfl, hb⟩ := hB.at0 (by omega)
        have hc := hB.cell 4 x hx
        try simp only [Nat.add_zero] at hc
        have hx8 := hB.ok x (List.mem_of_getElem? hx)
        have hlow := lowN_lt (l.take 4)
        rw [List.length_take_of_le (by omega)] at hlow
        have hq : ((4 : Int) == (l.length : Int)) = false := by simp; omega
        by_cases h7 : x ≤ 127
        · have HG := Lib.hid (getN_last HH.out (by omega) hx h7)
          have HB := Lib.hid hB
          clear hB hx HH
          generalize lowN (l.take 4) = A at *
          have hd1 : decide ((x : Int) < 128) = true := by simp; omega
          have hmod : ((x : Int) % 128) = x := by omega
          have hA : A < 268435456 := by first | exact hlow | simpa using hlow
          clear hlow
          by_cases hx0 : x = 0
          · subst hx0
            have HG2 := HG.out
            rw [if_pos ⟨by omega, rfl⟩] at HG2
            have HG3 := Lib.hid HG2
            clear HG HG2
            go_wp2
            simp only [Exit.jump]
            go_ret2
            exact ⟨by rw [HG3.out]; rfl, rfl⟩
          · have hx1 : ((x : Int) == 0) = false := by simp; omega
            by_cases hz : A + 268435456 * x ≤ 4294967295
            · have hz1 : decide ((4294967295 : Int) < (A : Int) + (x : Int) * 268435456) = false := by simp; omega
              have HC := fun w' => Lib.hid (back_calls (A + 268435456 * x) hz w')
              have HE := Lib.hid (show (A : Int) + (x : Int) * 268435456 = ((A + 268435456 * x : Nat) : Int) by omega)
              have HG2 := HG.out
              rw [if_neg (by omega), if_pos (by first | exact hz | simpa using hz)] at HG2
              have HG3 := Lib.hid HG2
              clear HG HG2
              go_wp2_with (go_at_call 24; rw [HE.out]; (with_reducible refine (HC _).out.mono ?_); rintro e w' ⟨rfl, rfl⟩)
              simp only [Exit.jump]
              go_ret2
              exact ⟨by rw [HG3.out]; first | rfl | (simp; done), rfl⟩
            · have hz1 : decide ((4294967295 : Int) < (A : Int) + (x : Int) * 268435456) = true := by simp; omega
              have HG2 := HG.out
              rw [if_neg (by omega), if_neg (by first | exact hz | simpa using hz)] at HG2
              have HG3 := Lib.hid HG2
              clear HG HG2
              go_wp2
              simp only [Exit.jump]
              go_ret2
              exact ⟨by rw [HG3.out]; rfl, rfl⟩
        · have HH2 := Lib.hid (HH.out.step hx (by omega))
          have hlow2 : lowN (l.take (4 + 1)) = lowN (l.take 4) + 268435456 * (x % 128) := by
            rw [takeB hx, lowN_snoc, List.length_take_of_le (by omega)]
          have HB := Lib.hid hB
          clear hB hx HH
          have hA : lowN (l.take 4) < 268435456 := by first | exact hlow | simpa using hlow
          clear hlow
          generalize lowN (l.take 4) = A at *
          generalize hX : lowN (l.take (4 + 1)) = X at *
          have HX := Lib.hid hX
          have HL := Lib.hid hlow2
          clear hlow2 hX
          have hd1 : decide ((x : Int) < 128) = false := by simp; omega
          go_wp2
          go_step3
          have e5 : ((A : Int) + (x : Int) % 128 * 268435456) = ((lowN (l.take (4 + 1)) : Nat) : Int) := by rw [HX.out, HL.out]; omega
          rw [e5]
          exact ⟨rfl, ⟨4 + 1, _, _, _, _, _, _, _, _, _, _, _, _, _, _, _, _, _, _, _, _, _, _, _, _, _, _, _, _, _, _, _, _, _, _, _, _, _, _, _, _, _, _, _, _, _, _, rfl, by omega, by omega, HH2, rfl⟩, by simp [intOf]⟩
      · have hk : 4 = l.length := by omega
        have HG := Lib.hid (getN_end HH.out hk (by omega))
        have hq : ((4 : Int) == (l.length : Int)) = true := by simp; omega
        clear hB HH
        go_wp2
        simp only [Exit.jump]
        go_ret2
        exact ⟨by rw [HG.out]; rfl, rfl⟩
    · rw [show ((128 ^ 5 : Nat) : Int) = 34359738368 from rfl]
      have hl : 5 ≤ l.length := by omega
      have HG := Lib.hid (getN_five HH.out hl)
      clear hB HH
      by_cases he : l.length = 5
      · have hq : ((5 : Int) == (l.length : Int)) = true := by simp; omega
        go_wp2
        simp only [Exit.jump]
        go_ret2
        exact ⟨by rw [HG.out]; rfl, rfl⟩
      · have hq : ((5 : Int) == (l.length : Int)) = false := by simp; omega
        go_wp2
        simp only [Exit.jump]
        go_ret2
        exact ⟨by rw [HG.out]; rfl, rfl⟩

end Go.Proofs.Ytghnephjgffenaa
