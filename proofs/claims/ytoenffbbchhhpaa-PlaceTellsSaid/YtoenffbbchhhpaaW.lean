/- Walks of layer 1's functions and of the document's answer for them. -/
import Derived.Test.YtoenffbbchhhpaaRows
import Derived.Test.YtoenffbbchhhpaaFl
import Derived.WalkKit
import Derived.WalkSpells
import Derived.WalkLawsBesides
import Derived.Lib.Hide
namespace Go.Proofs.Ytoenffbbchhhpaa
open Go.RowKit

theorem toIntegral_number (name : String) (b : Nat) (s : Bool) (m : Nat) (i : Int) (h : FloatKind.f64.decode b = .number s m i) :
    Extern.MathFloor.toIntegral name .zero #[.float .f64 b] = pure (.float .f64 (FloatKind.f64.encode ((Ieee.Datum.number s m i).integral .zero))) := by
  have key : ∀ d, FloatKind.f64.decode b = d → Extern.MathFloor.toIntegral name .zero #[.float .f64 b] =
      (match d with
      | .nan s t => if FloatKind.f64.format.quiet t = t then pure (.float .f64 b) else do
        let kept ← choose (.extern "math.Floor,Ceil,Trunc,RoundToEven.signallingNaN kept" 2)
        pure (.float .f64 (if kept == 1 then b else FloatKind.f64.encode (.nan s (FloatKind.f64.format.quiet t))))
      | d => pure (.float .f64 (FloatKind.f64.encode (d.integral .zero)))) := by
    intro d hd; subst hd; rfl
  exact key _ h

theorem run_trunc (b : Nat) (w : World) (hl : Fl.geLo b = true) (hh : Fl.leHi b = true) :
    (callFunc 14 #[.float .f64 b]).run Try.prog w = .ok (.value (.float .f64 (Fl.trunc b))) w := by
  rw [run_callFunc_extern (e := Extern.MathFloor.toIntegral "math.archTrunc" .zero) Try.func14 (by kernel_rfl) (by kernel_rfl) (by kernel_rfl) (by kernel_rfl)]
  obtain ⟨s, m, e, hr, hm⟩ := Fl.finite_of_range hl hh
  rw [toIntegral_number _ b s m _ hr]
  unfold Fl.trunc
  rw [hr]
  rfl

set_option maxHeartbeats 400000 in
theorem trunc_calls (b : Nat) (w : World) (hl : Fl.geLo b = true) (hh : Fl.leHi b = true) :
    Calls Try.prog 13 #[.float .f64 b] w fun e w' => e = .returned (.float .f64 (Fl.trunc b)) ∧ w = w' := by
  have h := run_trunc b w hl hh
  go_enter Try.func13, Try.ntmps13
  go_wp2
  go_ret
  exact ⟨rfl, rfl⟩

theorem inR (b : Nat) : (FloatKind.f64.format.order b 13875379345695965184 == some .gt || FloatKind.f64.format.order b 13875379345695965184 == some .eq) = Fl.geLo b := rfl
theorem inH (b : Nat) : (FloatKind.f64.format.order b 4652007308841189376 == some .lt || FloatKind.f64.format.order b 4652007308841189376 == some .eq) = Fl.leHi b := rfl
theorem inT (b : Nat) (hl : Fl.geLo b = true) (hh : Fl.leHi b = true) : (FloatKind.f64.format.order b (Fl.trunc b) == some .eq) = Fl.wb b := by
  simp only [Fl.wb, hl, hh, Bool.true_and]; rfl

set_option maxHeartbeats 400000 in
theorem whole_calls (b : Nat) (w : World) :
    Calls Try.prog 11 #[.float .f64 b] w fun e w' => e = .returned (.bool (Fl.wb b)) ∧ w = w' := by
  have e1 := inR b
  have e2 := inH b
  cases hl : Fl.geLo b
  · rw [show Fl.wb b = false by simp [Fl.wb, hl]]
    rw [hl] at e1
    go_enter Try.func11, Try.ntmps11
    go_wp2
    go_ret
    exact ⟨rfl, rfl⟩
  · cases hh : Fl.leHi b
    · rw [show Fl.wb b = false by simp [Fl.wb, hh]]
      rw [hl] at e1
      rw [hh] at e2
      go_enter Try.func11, Try.ntmps11
      go_wp2
      go_ret
      exact ⟨rfl, rfl⟩
    · have e3 := inT b hl hh
      rw [hl] at e1
      rw [hh] at e2
      generalize Fl.wb b = r at *
      have c := trunc_calls b w hl hh
      have C := Lib.hid c
      clear c hl hh
      go_enter Try.func11, Try.ntmps11
      go_wp2_with (go_at_call 13; refine (C.out).mono ?_; rintro e w' ⟨rfl, rfl⟩)
      go_ret
      exact ⟨rfl, rfl⟩

set_option maxHeartbeats 400000 in
theorem part_calls (b : Nat) (w : World) :
    Calls Try.prog 12 #[.float .f64 b] w fun e w' => e = .returned (.bool (Fl.wb b)) ∧ w = w' := by
  have e1 := inR b
  have e2 := inH b
  cases hl : Fl.geLo b
  · rw [show Fl.wb b = false by simp [Fl.wb, hl]]
    rw [hl] at e1
    go_enter Try.func12, Try.ntmps12
    go_wp2
    go_ret
    exact ⟨rfl, rfl⟩
  · cases hh : Fl.leHi b
    · rw [show Fl.wb b = false by simp [Fl.wb, hh]]
      rw [hl] at e1
      rw [hh] at e2
      go_enter Try.func12, Try.ntmps12
      go_wp2
      go_ret
      exact ⟨rfl, rfl⟩
    · have e3 : (FloatKind.f64.format.order (floatOfInt .f64 (Fl.iv b)) b == some .eq) = Fl.wb b :=
        Fl.back_wb hl hh (Fl.ofInt_int (by have := (Fl.trunc_int hl hh).2; omega))
      have c1 := run_convert_float_int (P := Try.prog) w 22 3 .f64 .i64 b (Fl.iv b) (by kernel_rfl) (by kernel_rfl) (Fl.toInt_range hl hh)
      have c2 := run_convert_int_float (P := Try.prog) w 3 22 .i64 .f64 (Fl.iv b) (by kernel_rfl) (by kernel_rfl)
      rw [hl] at e1
      rw [hh] at e2
      generalize Fl.wb b = r at *
      generalize Fl.iv b = n at *
      clear hl hh
      go_enter Try.func12, Try.ntmps12
      go_wp2
      go_ret
      exact ⟨rfl, rfl⟩

def mayB (a b : Nat) : Bool := Fl.wb a && Fl.wb b

set_option maxHeartbeats 400000 in
theorem may_calls (a b : Nat) (w : World) :
    Calls Try.prog 7 #[.complex .f64 a b] w fun e w' => e = .returned (.bool (mayB a b)) ∧ w = w' := by
  have H := fun x => Lib.hid (whole_calls x w)
  unfold mayB
  cases ha : Fl.wb a <;> cases hb : Fl.wb b <;>
  ( go_enter Try.func7, Try.ntmps7
    go_wp2_with (go_at_call 11; refine ((H _).out).mono ?_; (try rw [ha]); (try rw [hb]); rintro e w' ⟨rfl, rfl⟩)
    go_ret
    exact ⟨rfl, rfl⟩ )

set_option maxHeartbeats 400000 in
theorem place_calls (a b : Nat) (w : World) :
    Calls Try.prog 8 #[.complex .f64 a b] w fun e w' => e = .returned (.bool (mayB a b)) ∧ w = w' := by
  have H := fun x => Lib.hid (part_calls x w)
  unfold mayB
  cases ha : Fl.wb a <;> cases hb : Fl.wb b <;>
  ( go_enter Try.func8, Try.ntmps8
    go_wp2_with (go_at_call 12; refine ((H _).out).mono ?_; (try rw [ha]); (try rw [hb]); rintro e w' ⟨rfl, rfl⟩)
    go_ret
    exact ⟨rfl, rfl⟩ )

def farV (a b c d : Nat) : Int := if mayB a b && mayB c d then (Fl.iv a - Fl.iv c) * (Fl.iv a - Fl.iv c) + (Fl.iv b - Fl.iv d) * (Fl.iv b - Fl.iv d) else -1

theorem may_parts {a b : Nat} (h : mayB a b = true) : Fl.IsInt a (Fl.iv a) ∧ Fl.IsInt b (Fl.iv b) ∧ (Fl.iv a).natAbs ≤ 1000 ∧ (Fl.iv b).natAbs ≤ 1000 := by
  unfold mayB at h
  simp only [Bool.and_eq_true] at h
  have h1 := Fl.wb_int h.1
  have h2 := Fl.wb_int h.2
  exact ⟨h1.1, h2.1, h1.2, h2.2⟩

theorem sq_bd {p : Int} (h1 : -2000 ≤ p) (h2 : p ≤ 2000) : 0 ≤ p * p ∧ p * p ≤ 4000000 := by
  constructor
  · rcases Int.lt_or_le p 0 with h | h
    · have := Int.mul_nonneg_of_nonpos_of_nonpos (Int.le_of_lt h) (Int.le_of_lt h); exact this
    · exact Int.mul_nonneg h h
  · have := Int.mul_nonneg (show 0 ≤ 2000 - p by omega) (show 0 ≤ 2000 + p by omega)
    have e : (2000 - p) * (2000 + p) = 4000000 - p * p := by
      rw [Int.sub_mul, Int.mul_add, Int.mul_add, Int.mul_comm 2000 p]; omega
    omega

set_option maxHeartbeats 1000000 in
theorem far_calls (a b c d : Nat) (w : World) :
    Calls Try.prog 9 #[.complex .f64 a b, .complex .f64 c d] w fun e w' => e = .returned (.int .i64 (farV a b c d)) ∧ w = w' := by
  unfold farV
  cases h1 : mayB a b
  · have H := fun x y => Lib.hid (may_calls x y w)
    go_enter Try.func9, Try.ntmps9
    go_wp2_with (go_at_call 7; refine ((H _ _).out).mono ?_; rw [h1]; rintro e w' ⟨rfl, rfl⟩)
    go_ret
    exact ⟨rfl, rfl⟩
  · cases h2 : mayB c d
    · have H1 := Lib.hid (may_calls a b w)
      have H2 := Lib.hid (may_calls c d w)
      go_enter Try.func9, Try.ntmps9
      go_wp2_with fail
      refine ((H1).out).mono ?_
      rw [h1]; rintro e w' ⟨rfl, rfl⟩
      go_wp2_with fail
      refine ((H2).out).mono ?_
      rw [h2]; rintro e w' ⟨rfl, rfl⟩
      go_wp2
      go_ret
      exact ⟨rfl, rfl⟩
    · have H1 := Lib.hid (may_calls a b w)
      have H2 := Lib.hid (may_calls c d w)
      obtain ⟨ia, ib, ba, bb⟩ := may_parts h1
      obtain ⟨ic, id, bc, bd⟩ := may_parts h2
      obtain ⟨re, hre, ire⟩ := Fl.diff_int ia ic (by omega)
      obtain ⟨im, him, iim⟩ := Fl.diff_int ib id (by omega)
      have hs : cSumBits .sub .f64 a b c d = some (re, im) := by
        have e1 : floatBits .sub .f64 a c = some re := hre
        have e2 : floatBits .sub .f64 b d = some im := him
        simp [cSumBits, e1, e2]
      have k1 := run_complex_sum (P := Try.prog) w .sub (.inr rfl) 24 .f64 a b c d re im hs
      have k2 := run_convert_float_int (P := Try.prog) w 22 3 .f64 .i64 re _ (by kernel_rfl) (by kernel_rfl) (Fl.toIntVal_int ire (by omega))
      have k3 := run_convert_float_int (P := Try.prog) w 22 3 .f64 .i64 im _ (by kernel_rfl) (by kernel_rfl) (Fl.toIntVal_int iim (by omega))
      simp only [Bool.and_self, if_true]
      generalize hp : Fl.iv a - Fl.iv c = p at *
      generalize hq : Fl.iv b - Fl.iv d = q at *
      have hp1 : -2000 ≤ p := by omega
      have hp2 : p ≤ 2000 := by omega
      have hq1 : -2000 ≤ q := by omega
      have hq2 : q ≤ 2000 := by omega
      obtain ⟨sp1, sp2⟩ := sq_bd hp1 hp2
      obtain ⟨sq1, sq2⟩ := sq_bd hq1 hq2
      clear hp hq ia ib ba bb ic id bc bd hre him ire iim hs
      have h1' := Lib.hid h1
      have h2' := Lib.hid h2
      clear h1 h2
      go_enter Try.func9, Try.ntmps9
      go_wp2_with fail
      refine ((H1).out).mono ?_
      rw [h1'.out]; rintro e w' ⟨rfl, rfl⟩
      go_wp2_with fail
      refine ((H2).out).mono ?_
      rw [h2'.out]; rintro e w' ⟨rfl, rfl⟩
      go_wp2
      go_ret
      exact ⟨rfl, rfl⟩

theorem farV_bd (a b c d : Nat) : -1 ≤ farV a b c d ∧ farV a b c d ≤ 8000000 := by
  unfold farV
  split
  · rename_i h
    simp only [Bool.and_eq_true] at h
    obtain ⟨_, _, b1, b2⟩ := may_parts h.1
    obtain ⟨_, _, b3, b4⟩ := may_parts h.2
    have h1 := sq_bd (p := Fl.iv a - Fl.iv c) (by omega) (by omega)
    have h2 := sq_bd (p := Fl.iv b - Fl.iv d) (by omega) (by omega)
    omega
  · omega

def nearB (a b c d : Nat) (n : Int) : Bool := decide (0 ≤ farV a b c d) && decide (farV a b c d ≤ n)

set_option maxHeartbeats 400000 in
theorem near_calls (a b c d : Nat) (n : Int) (w : World) :
    Calls Try.prog 10 #[.complex .f64 a b, .complex .f64 c d, .int .i64 n] w fun e w' => e = .returned (.bool (nearB a b c d n)) ∧ w = w' := by
  have H := Lib.hid (far_calls a b c d w)
  obtain ⟨h1, h2⟩ := farV_bd a b c d
  unfold nearB
  generalize farV a b c d = f at *
  by_cases h0 : f = -1
  · subst h0
    go_enter Try.func10, Try.ntmps10
    go_wp2_with (go_at_call 9; refine (H.out).mono ?_; rintro e w' ⟨rfl, rfl⟩)
    go_ret
    exact ⟨rfl, rfl⟩
  · have h3 : (f != -1) = true := by simp [h0]
    have h4 : decide (0 ≤ f) = true := by simp; omega
    rw [h4]
    have h4' : 0 ≤ f := by omega
    clear h4 h0
    go_enter Try.func10, Try.ntmps10
    go_wp2_with (go_at_call 9; refine (H.out).mono ?_; rintro e w' ⟨rfl, rfl⟩)
    go_ret
    exact ⟨by simp, rfl⟩

set_option maxHeartbeats 1000000 in
theorem refFar_calls (a b c d : Nat) (w : World) :
    Calls Try.prog 6 #[.complex .f64 a b, .complex .f64 c d] w fun e w' => e = .returned (.int .i64 (farV a b c d)) ∧ w = w' := by
  unfold farV
  have H1 := Lib.hid (place_calls a b w)
  have H2 := Lib.hid (place_calls c d w)
  cases h1 : mayB a b
  · have h1' := Lib.hid h1
    clear h1
    generalize mayB c d = q at *
    go_enter Try.func6, Try.ntmps6
    go_wp2_with fail
    refine ((H1).out).mono ?_
    rw [h1'.out]; rintro e w' ⟨rfl, rfl⟩
    go_wp2_with fail
    refine ((H2).out).mono ?_
    rintro e w' ⟨rfl, rfl⟩
    go_wp2
    go_ret
    exact ⟨rfl, rfl⟩
  · cases h2 : mayB c d
    · have h1' := Lib.hid h1
      have h2' := Lib.hid h2
      clear h1 h2
      go_enter Try.func6, Try.ntmps6
      go_wp2_with fail
      refine ((H1).out).mono ?_
      rw [h1'.out]; rintro e w' ⟨rfl, rfl⟩
      go_wp2_with fail
      refine ((H2).out).mono ?_
      rw [h2'.out]; rintro e w' ⟨rfl, rfl⟩
      go_wp2
      go_ret
      exact ⟨rfl, rfl⟩
    · obtain ⟨ia, ib, ba, bb⟩ := may_parts h1
      obtain ⟨ic, id, bc, bd⟩ := may_parts h2
      have k1 := run_convert_float_int (P := Try.prog) w 22 3 .f64 .i64 a _ (by kernel_rfl) (by kernel_rfl) (Fl.toIntVal_int ia (by omega))
      have k2 := run_convert_float_int (P := Try.prog) w 22 3 .f64 .i64 b _ (by kernel_rfl) (by kernel_rfl) (Fl.toIntVal_int ib (by omega))
      have k3 := run_convert_float_int (P := Try.prog) w 22 3 .f64 .i64 c _ (by kernel_rfl) (by kernel_rfl) (Fl.toIntVal_int ic (by omega))
      have k4 := run_convert_float_int (P := Try.prog) w 22 3 .f64 .i64 d _ (by kernel_rfl) (by kernel_rfl) (Fl.toIntVal_int id (by omega))
      simp only [Bool.and_self, if_true]
      clear ia ib ic id
      generalize Fl.iv a = x at *
      generalize Fl.iv b = y at *
      generalize Fl.iv c = z at *
      generalize Fl.iv d = u at *
      have hp1 : -2000 ≤ x - z := by omega
      have hp2 : x - z ≤ 2000 := by omega
      have hq1 : -2000 ≤ y - u := by omega
      have hq2 : y - u ≤ 2000 := by omega
      obtain ⟨sp1, sp2⟩ := sq_bd hp1 hp2
      obtain ⟨sq1, sq2⟩ := sq_bd hq1 hq2
      have x1 : -1000 ≤ x := by omega
      have x2 : x ≤ 1000 := by omega
      have y1 : -1000 ≤ y := by omega
      have y2 : y ≤ 1000 := by omega
      have z1 : -1000 ≤ z := by omega
      have z2 : z ≤ 1000 := by omega
      have u1 : -1000 ≤ u := by omega
      have u2 : u ≤ 1000 := by omega
      clear ba bb bc bd
      have h1' := Lib.hid h1
      have h2' := Lib.hid h2
      clear h1 h2
      go_enter Try.func6, Try.ntmps6
      go_wp2_with fail
      refine ((H1).out).mono ?_
      rw [h1'.out]; rintro e w' ⟨rfl, rfl⟩
      go_wp2_with fail
      refine ((H2).out).mono ?_
      rw [h2'.out]; rintro e w' ⟨rfl, rfl⟩
      go_wp2
      go_ret
      exact ⟨rfl, rfl⟩

theorem up_far : farV 0 0 4613937818241073152 4616189618054758400 = 25 := by decide +kernel
theorem up_may : mayB 4652007308841189376 13875379345695965184 = true := by decide +kernel
theorem up_near : nearB 0 0 4607182418800017408 0 1 = true := by decide +kernel

set_option maxHeartbeats 400000 in
theorem up_calls (w : World) : Calls Try.prog 5 #[] w fun e w' => e = .returned (.bool true) ∧ w = w' := by
  have H1 := Lib.hid (far_calls 0 0 4613937818241073152 4616189618054758400 w)
  have H2 := Lib.hid (may_calls 4652007308841189376 13875379345695965184 w)
  have H3 := Lib.hid (near_calls 0 0 4607182418800017408 0 1 w)
  rw [up_far] at H1
  rw [up_may] at H2
  rw [up_near] at H3
  go_enter Try.func5, Try.ntmps5
  go_wp2_with (first | (go_at_call 9; refine (H1.out).mono ?_; rintro e w' ⟨rfl, rfl⟩) | (go_at_call 7; refine (H2.out).mono ?_; rintro e w' ⟨rfl, rfl⟩) | (go_at_call 10; refine (H3.out).mono ?_; rintro e w' ⟨rfl, rfl⟩))
  go_ret
  exact ⟨rfl, rfl⟩

set_option maxHeartbeats 1000000 in
theorem tells_calls (a b c d : Nat) (n : Int) (w : World) :
    Calls Try.prog 3 #[.float .f64 a, .float .f64 b, .float .f64 c, .float .f64 d, .int .i64 n] w fun e w' => e = .returned (.bool true) ∧ w = w' := by
  have H5 := Lib.hid (up_calls w)
  have H6 := Lib.hid (refFar_calls a b c d w)
  have H7 := Lib.hid (may_calls a b w)
  have H8 := Lib.hid (place_calls a b w)
  have H9 := Lib.hid (far_calls a b c d w)
  have H10 := Lib.hid (near_calls a b c d n w)
  unfold nearB at H10
  generalize mayB a b = m at *
  generalize farV a b c d = f at *
  by_cases hf : 0 ≤ f
  · rw [decide_eq_true hf] at H10
    go_enter Try.func3, Try.ntmps3
    go_wp2_with (first | (go_at_call 5; refine (H5.out).mono ?_; rintro e w' ⟨rfl, rfl⟩) | (go_at_call 6; refine (H6.out).mono ?_; rintro e w' ⟨rfl, rfl⟩) | (go_at_call 7; refine (H7.out).mono ?_; rintro e w' ⟨rfl, rfl⟩) | (go_at_call 8; refine (H8.out).mono ?_; rintro e w' ⟨rfl, rfl⟩) | (go_at_call 9; refine (H9.out).mono ?_; rintro e w' ⟨rfl, rfl⟩) | (go_at_call 10; refine (H10.out).mono ?_; rintro e w' ⟨rfl, rfl⟩))
    go_ret
    exact ⟨by simp, rfl⟩
  · rw [decide_eq_false hf] at H10
    go_enter Try.func3, Try.ntmps3
    go_wp2_with (first | (go_at_call 5; refine (H5.out).mono ?_; rintro e w' ⟨rfl, rfl⟩) | (go_at_call 6; refine (H6.out).mono ?_; rintro e w' ⟨rfl, rfl⟩) | (go_at_call 7; refine (H7.out).mono ?_; rintro e w' ⟨rfl, rfl⟩) | (go_at_call 8; refine (H8.out).mono ?_; rintro e w' ⟨rfl, rfl⟩) | (go_at_call 9; refine (H9.out).mono ?_; rintro e w' ⟨rfl, rfl⟩) | (go_at_call 10; refine (H10.out).mono ?_; rintro e w' ⟨rfl, rfl⟩))
    go_ret
    exact ⟨by simp, rfl⟩

end Go.Proofs.Ytoenffbbchhhpaa
