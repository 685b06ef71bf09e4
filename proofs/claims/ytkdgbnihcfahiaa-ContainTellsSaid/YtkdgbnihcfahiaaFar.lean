/- How far two places are apart, whether they are near: the code's walks. -/
import Derived.Test.YtkdgbnihcfahiaaFarM
namespace Go.Proofs.Ytkdgbnihcfahiaa
open Go.RowKit

set_option maxHeartbeats 1000000 in
theorem far_calls (a b c d : Nat) (w : World) :
    Calls Try.prog 32 #[.complex .f64 a b, .complex .f64 c d] w fun e w' => e = .returned (.int .i64 (farV a b c d)) ∧ w = w' := by
  unfold farV
  cases h1 : mayB a b
  · have H := fun x y => Lib.hid (may_calls x y w)
    go_enter Try.func32, Try.ntmps32
    go_wp2_with (go_at_call 43; refine ((H _ _).out).mono ?_; rw [h1]; rintro e w' ⟨rfl, rfl⟩)
    go_ret
    exact ⟨rfl, rfl⟩
  · cases h2 : mayB c d
    · have H1 := Lib.hid (may_calls a b w)
      have H2 := Lib.hid (may_calls c d w)
      go_enter Try.func32, Try.ntmps32
      go_wp2_with fail
      refine ((H1).out).mono ?_
      rw [h1]; rintro e w' ⟨rfl, rfl⟩
      go_wp2_with fail
      refine ((H2).out).mono ?_
      rw [h2]; rintro e w' ⟨rfl, rfl⟩
      go_wp2
      go_ret
      exact ⟨rfl, rfl⟩
    · have H1 := Lib.hid (may_calls a b w)
      have H2 := Lib.hid (may_calls c d w)
      obtain ⟨ia, ib, ba, bb⟩ := may_parts h1
      obtain ⟨ic, id, bc, bd⟩ := may_parts h2
      obtain ⟨re, hre, ire⟩ := Fl.diff_int ia ic (by omega)
      obtain ⟨im, him, iim⟩ := Fl.diff_int ib id (by omega)
      have hs : cSumBits .sub .f64 a b c d = some (re, im) := by
        have e1 : floatBits .sub .f64 a c = some re := hre
        have e2 : floatBits .sub .f64 b d = some im := him
        simp [cSumBits, e1, e2]
      have k1 := run_complex_sum (P := Try.prog) w .sub (.inr rfl) 28 .f64 a b c d re im hs
      have k2 := run_convert_float_int (P := Try.prog) w 22 3 .f64 .i64 re _ (by kernel_rfl) (by kernel_rfl) (Fl.toIntVal_int ire (by omega))
      have k3 := run_convert_float_int (P := Try.prog) w 22 3 .f64 .i64 im _ (by kernel_rfl) (by kernel_rfl) (Fl.toIntVal_int iim (by omega))
      simp only [Bool.and_self, if_true]
      generalize hp : Fl.iv a - Fl.iv c = p at *
      generalize hq : Fl.iv b - Fl.iv d = q at *
      have hp1 : -2000 ≤ p := by omega
      have hp2 : p ≤ 2000 := by omega
      have hq1 : -2000 ≤ q := by omega
      have hq2 : q ≤ 2000 := by omega
      obtain ⟨sp1, sp2⟩ := sq_bd hp1 hp2
      obtain ⟨sq1, sq2⟩ := sq_bd hq1 hq2
      clear hp hq ia ib ba bb ic id bc bd hre him ire iim hs
      have h1' := Lib.hid h1
      have h2' := Lib.hid h2
      clear h1 h2
      go_enter Try.func32, Try.ntmps32
      go_wp2_with fail
      refine ((H1).out).mono ?_
      rw [h1'.out]; rintro e w' ⟨rfl, rfl⟩
      go_wp2_with fail
      refine ((H2).out).mono ?_
      rw [h2'.out]; rintro e w' ⟨rfl, rfl⟩
      go_wp2
      go_ret
      exact ⟨rfl, rfl⟩

set_option maxHeartbeats 400000 in
theorem near_calls (a b c d : Nat) (n : Int) (w : World) :
    Calls Try.prog 19 #[.complex .f64 a b, .complex .f64 c d, .int .i64 n] w fun e w' => e = .returned (.bool (nearB a b c d n)) ∧ w = w' := by
  have H := Lib.hid (far_calls a b c d w)
  obtain ⟨h1, h2⟩ := farV_bd a b c d
  unfold nearB
  generalize farV a b c d = f at *
  by_cases h0 : f = -1
  · subst h0
    go_enter Try.func19, Try.ntmps19
    go_wp2_with (go_at_call 32; refine (H.out).mono ?_; rintro e w' ⟨rfl, rfl⟩)
    go_ret
    exact ⟨rfl, rfl⟩
  · have h3 : (f != -1) = true := by simp [h0]
    have h4 : decide (0 ≤ f) = true := by simp; omega
    rw [h4]
    have h4' : 0 ≤ f := by omega
    clear h4 h0
    go_enter Try.func19, Try.ntmps19
    go_wp2_with (go_at_call 32; refine (H.out).mono ?_; rintro e w' ⟨rfl, rfl⟩)
    go_ret
    exact ⟨by simp, rfl⟩

end Go.Proofs.Ytkdgbnihcfahiaa
