/- How far two places are apart, and the document's answer: the walk. -/
import Derived.Test.YtgfepbcolcmdgaaPMay
namespace Go.Proofs.Ytgfepbcolcmdgaa
open Go.RowKit

def farV (a b c d : Nat) : Int := if mayB a b && mayB c d then (Fl.iv a - Fl.iv c) * (Fl.iv a - Fl.iv c) + (Fl.iv b - Fl.iv d) * (Fl.iv b - Fl.iv d) else -1

theorem may_parts {a b : Nat} (h : mayB a b = true) : Fl.IsInt a (Fl.iv a) ∧ Fl.IsInt b (Fl.iv b) ∧ (Fl.iv a).natAbs ≤ 1000 ∧ (Fl.iv b).natAbs ≤ 1000 := by
  unfold mayB at h
  simp only [Bool.and_eq_true] at h
  have h1 := Fl.wb_int h.1
  have h2 := Fl.wb_int h.2
  exact ⟨h1.1, h2.1, h1.2, h2.2⟩

theorem sq_bd {p : Int} (h1 : -2000 ≤ p) (h2 : p ≤ 2000) : 0 ≤ p * p ∧ p * p ≤ 4000000 := by
  constructor
  · rcases Int.lt_or_le p 0 with h | h
    · have := Int.mul_nonneg_of_nonpos_of_nonpos (Int.le_of_lt h) (Int.le_of_lt h); exact this
    · exact Int.mul_nonneg h h
  · have := Int.mul_nonneg (show 0 ≤ 2000 - p by omega) (show 0 ≤ 2000 + p by omega)
    have e : (2000 - p) * (2000 + p) = 4000000 - p * p := by
      rw [Int.sub_mul, Int.mul_add, Int.mul_add, Int.mul_comm 2000 p]; omega
    omega

theorem farV_bd (a b c d : Nat) : -1 ≤ farV a b c d ∧ farV a b c d ≤ 8000000 := by
  unfold farV
  split
  · rename_i h
    simp only [Bool.and_eq_true] at h
    obtain ⟨_, _, b1, b2⟩ := may_parts h.1
    obtain ⟨_, _, b3, b4⟩ := may_parts h.2
    have h1 := sq_bd (p := Fl.iv a - Fl.iv c) (by omega) (by omega)
    have h2 := sq_bd (p := Fl.iv b - Fl.iv d) (by omega) (by omega)
    omega
  · omega

def nearB (a b c d : Nat) (n : Int) : Bool := decide (0 ≤ farV a b c d) && decide (farV a b c d ≤ n)

set_option maxHeartbeats 1000000 in
theorem refFar_calls (a b c d : Nat) (w : World) :
    Calls Try.prog 24 #[.complex .f64 a b, .complex .f64 c d] w fun e w' => e = .returned (.int .i64 (farV a b c d)) ∧ w = w' := by
  unfold farV
  have H1 := Lib.hid (place_calls a b w)
  have H2 := Lib.hid (place_calls c d w)
  cases h1 : mayB a b
  · have h1' := Lib.hid h1
    clear h1
    generalize mayB c d = q at *
    go_enter Try.func24, Try.ntmps24
    go_wp2_with fail
    refine ((H1).out).mono ?_
    rw [h1'.out]; rintro e w' ⟨rfl, rfl⟩
    go_wp2_with fail
    refine ((H2).out).mono ?_
    rintro e w' ⟨rfl, rfl⟩
    go_wp2
    go_ret
    exact ⟨rfl, rfl⟩
  · cases h2 : mayB c d
    · have h1' := Lib.hid h1
      have h2' := Lib.hid h2
      clear h1 h2
      go_enter Try.func24, Try.ntmps24
      go_wp2_with fail
      refine ((H1).out).mono ?_
      rw [h1'.out]; rintro e w' ⟨rfl, rfl⟩
      go_wp2_with fail
      refine ((H2).out).mono ?_
      rw [h2'.out]; rintro e w' ⟨rfl, rfl⟩
      go_wp2
      go_ret
      exact ⟨rfl, rfl⟩
    · obtain ⟨ia, ib, ba, bb⟩ := may_parts h1
      obtain ⟨ic, id, bc, bd⟩ := may_parts h2
      have k1 := run_convert_float_int (P := Try.prog) w 22 3 .f64 .i64 a _ (by kernel_rfl) (by kernel_rfl) (Fl.toIntVal_int ia (by omega))
      have k2 := run_convert_float_int (P := Try.prog) w 22 3 .f64 .i64 b _ (by kernel_rfl) (by kernel_rfl) (Fl.toIntVal_int ib (by omega))
      have k3 := run_convert_float_int (P := Try.prog) w 22 3 .f64 .i64 c _ (by kernel_rfl) (by kernel_rfl) (Fl.toIntVal_int ic (by omega))
      have k4 := run_convert_float_int (P := Try.prog) w 22 3 .f64 .i64 d _ (by kernel_rfl) (by kernel_rfl) (Fl.toIntVal_int id (by omega))
      simp only [Bool.and_self, if_true]
      clear ia ib ic id
      generalize Fl.iv a = x at *
      generalize Fl.iv b = y at *
      generalize Fl.iv c = z at *
      generalize Fl.iv d = u at *
      have hp1 : -2000 ≤ x - z := by omega
      have hp2 : x - z ≤ 2000 := by omega
      have hq1 : -2000 ≤ y - u := by omega
      have hq2 : y - u ≤ 2000 := by omega
      obtain ⟨sp1, sp2⟩ := sq_bd hp1 hp2
      obtain ⟨sq1, sq2⟩ := sq_bd hq1 hq2
      have x1 : -1000 ≤ x := by omega
      have x2 : x ≤ 1000 := by omega
      have y1 : -1000 ≤ y := by omega
      have y2 : y ≤ 1000 := by omega
      have z1 : -1000 ≤ z := by omega
      have z2 : z ≤ 1000 := by omega
      have u1 : -1000 ≤ u := by omega
      have u2 : u ≤ 1000 := by omega
      clear ba bb bc bd
      have h1' := Lib.hid h1
      have h2' := Lib.hid h2
      clear h1 h2
      go_enter Try.func24, Try.ntmps24
      go_wp2_with fail
      refine ((H1).out).mono ?_
      rw [h1'.out]; rintro e w' ⟨rfl, rfl⟩
      go_wp2_with fail
      refine ((H2).out).mono ?_
      rw [h2'.out]; rintro e w' ⟨rfl, rfl⟩
      go_wp2
      go_ret
      exact ⟨rfl, rfl⟩

end Go.Proofs.Ytgfepbcolcmdgaa
