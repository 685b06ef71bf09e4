/- 'PlaceMoves' returns true, whatever it is given: the walk. -/
import Derived.Test.YtoenffbbchhhpaaW
namespace Go.Proofs.Ytoenffbbchhhpaa
open Go.RowKit

theorem farV_swap (a b c d : Nat) : farV a b c d = farV c d a b := by
  unfold farV
  rw [Bool.and_comm]
  split
  · have h1 : ∀ x y : Int, (x - y) * (x - y) = (y - x) * (y - x) := by
      intro x y
      rw [show y - x = -(x - y) by omega, Int.neg_mul_neg]
    rw [h1 (Fl.iv a), h1 (Fl.iv b)]
  · rfl

theorem farV_self (a b : Nat) (h : mayB a b = true) : farV a b a b = 0 := by
  unfold farV; rw [h]; simp

theorem farV_pos {a b c d : Nat} (h : mayB a b = true) (h' : mayB c d = true) : 0 ≤ farV a b c d := by
  unfold farV; rw [h, h']
  simp only [Bool.and_self, if_true]
  have sq : ∀ x : Int, 0 ≤ x * x := by
    intro x
    rcases Int.lt_or_le x 0 with h | h
    · exact Int.mul_nonneg_of_nonpos_of_nonpos (Int.le_of_lt h) (Int.le_of_lt h)
    · exact Int.mul_nonneg h h
  have := sq (Fl.iv a - Fl.iv c)
  have := sq (Fl.iv b - Fl.iv d)
  omega

theorem farV_neg {a b c d : Nat} (h : (mayB a b && mayB c d) = false) : farV a b c d = -1 := by
  unfold farV; rw [h]; rfl

theorem tri1 (x y z : Int) : (x - y) * (x - y) ≤ 2 * ((x - z) * (x - z) + (z - y) * (z - y)) := by
  have sq : ∀ x : Int, 0 ≤ x * x := by
    intro x
    rcases Int.lt_or_le x 0 with h | h
    · exact Int.mul_nonneg_of_nonpos_of_nonpos (Int.le_of_lt h) (Int.le_of_lt h)
    · exact Int.mul_nonneg h h
  have key : ∀ p q : Int, (p + q) * (p + q) ≤ 2 * (p * p + q * q) := by
    intro p q
    have := sq (p - q)
    rw [Int.sub_mul, Int.mul_sub, Int.mul_sub, Int.mul_comm q p] at this
    rw [Int.add_mul, Int.mul_add, Int.mul_add, Int.mul_comm q p]
    omega
  have := key (x - z) (z - y)
  rwa [show x - z + (z - y) = x - y by omega] at this

theorem farV_tri {a b c d e f : Nat} (h1 : mayB a b = true) (h2 : mayB c d = true) (h3 : mayB e f = true) : farV a b c d ≤ 2 * (farV a b e f + farV e f c d) := by
  unfold farV; rw [h1, h2, h3]
  simp only [Bool.and_self, if_true]
  have t1 := tri1 (Fl.iv a) (Fl.iv c) (Fl.iv e)
  have t2 := tri1 (Fl.iv b) (Fl.iv d) (Fl.iv f)
  omega

/-- Moved alike. -/
theorem farV_moved {a b c d e f p q r s : Nat} (h1 : mayB a b = true) (h2 : mayB c d = true) (h3 : mayB e f = true)
    (hp : Fl.IsInt p (Fl.iv a + Fl.iv e)) (hq : Fl.IsInt q (Fl.iv b + Fl.iv f)) (hr : Fl.IsInt r (Fl.iv c + Fl.iv e)) (hs : Fl.IsInt s (Fl.iv d + Fl.iv f))
    (h4 : mayB p q = true) (h5 : mayB r s = true) : farV p q r s = farV a b c d := by
  unfold farV
  rw [h1, h2, h4, h5, Fl.iv_int hp, Fl.iv_int hq, Fl.iv_int hr, Fl.iv_int hs]
  simp only [Bool.and_self, if_true]
  rw [show Fl.iv a + Fl.iv e - (Fl.iv c + Fl.iv e) = Fl.iv a - Fl.iv c by omega, show Fl.iv b + Fl.iv f - (Fl.iv d + Fl.iv f) = Fl.iv b - Fl.iv d by omega]

theorem sum_words {a b e f : Nat} (h1 : mayB a b = true) (h3 : mayB e f = true) :
    ∃ p q, cSumBits .add .f64 a b e f = some (p, q) ∧ Fl.IsInt p (Fl.iv a + Fl.iv e) ∧ Fl.IsInt q (Fl.iv b + Fl.iv f) := by
  obtain ⟨ia, ib, ba, bb⟩ := may_parts h1
  obtain ⟨ie, jf, be, bf⟩ := may_parts h3
  obtain ⟨p, hp, ip⟩ := Fl.sum_int ia ie (by omega)
  obtain ⟨q, hq, iq⟩ := Fl.sum_int ib jf (by omega)
  have e1 : floatBits .add .f64 a e = some p := hp
  have e2 : floatBits .add .f64 b f = some q := hq
  exact ⟨p, q, by simp [cSumBits, e1, e2], ip, iq⟩

set_option maxHeartbeats 2000000 in
theorem moves_not (a b c d e f : Nat) (w : World) (h : (mayB a b && mayB c d && mayB e f) = false) :
    Calls Try.prog 4 #[.float .f64 a, .float .f64 b, .float .f64 c, .float .f64 d, .float .f64 e, .float .f64 f] w fun r w' => r = .returned (.bool true) ∧ w = w' := by
  have H5 := Lib.hid (up_calls w)
  have H7 := Lib.hid (fun x y => may_calls x y w)
  have H9 := Lib.hid (far_calls a b c d w)
  have hf := farV_bd a b c d
  have hb : (decide (0 ≤ farV a b c d)) = (mayB a b && mayB c d) := by
    cases hm : (mayB a b && mayB c d)
    · rw [farV_neg hm]; rfl
    · simp only [Bool.and_eq_true] at hm
      simpa using farV_pos hm.1 hm.2
  generalize farV a b c d = v at *
  have hb' := Lib.hid hb
  clear hb
  cases h1 : mayB a b
  · have h1' := Lib.hid h1
    rw [h1] at hb'
    have hv := hb'.out
    simp only [Bool.false_and, decide_eq_false_iff_not] at hv
    clear h1 h hb'
    go_enter Try.func4, Try.ntmps4
    go_wp2_with (first | (go_at_call 5; refine (H5.out).mono ?_; rintro e w' ⟨rfl, rfl⟩) | (go_at_call 9; refine (H9.out).mono ?_; rintro e w' ⟨rfl, rfl⟩) | (go_at_call 7; refine (H7.out _ _).mono ?_; rw [h1'.out]; rintro e w' ⟨rfl, rfl⟩))
    go_ret
    exact ⟨by simp [hv], rfl⟩
  · cases h2 : mayB c d
    · have h1' := Lib.hid h1
      have h2' := Lib.hid h2
      rw [h1, h2] at hb'
      have hv := hb'.out
      simp only [Bool.and_false, decide_eq_false_iff_not] at hv
      clear h1 h2 h hb'
      go_enter Try.func4, Try.ntmps4
      go_wp2_with (first | (go_at_call 5; refine (H5.out).mono ?_; rintro e w' ⟨rfl, rfl⟩) | (go_at_call 9; refine (H9.out).mono ?_; rintro e w' ⟨rfl, rfl⟩) | (go_at_call 7; refine (H7.out _ _).mono ?_; (first | rw [h1'.out] | rw [h2'.out]); rintro e w' ⟨rfl, rfl⟩))
      go_ret
      exact ⟨by simp [hv], rfl⟩
    · have h1' := Lib.hid h1
      have h2' := Lib.hid h2
      rw [h1, h2] at hb' h
      have h3' := Lib.hid (show mayB e f = false by simpa using h)
      have hv := hb'.out
      simp only [Bool.and_true, decide_eq_true_eq] at hv
      clear h1 h2 h hb'
      go_enter Try.func4, Try.ntmps4
      go_wp2_with (first | (go_at_call 5; refine (H5.out).mono ?_; rintro e w' ⟨rfl, rfl⟩) | (go_at_call 9; refine (H9.out).mono ?_; rintro e w' ⟨rfl, rfl⟩) | (go_at_call 7; refine (H7.out _ _).mono ?_; (first | rw [h1'.out] | rw [h2'.out] | rw [h3'.out]); rintro e w' ⟨rfl, rfl⟩))
      go_ret
      exact ⟨by simp [hv], rfl⟩

set_option maxHeartbeats 4000000 in
theorem moves_all (a b c d e f : Nat) (w : World) (h1 : mayB a b = true) (h2 : mayB c d = true) (h3 : mayB e f = true) :
    Calls Try.prog 4 #[.float .f64 a, .float .f64 b, .float .f64 c, .float .f64 d, .float .f64 e, .float .f64 f] w fun r w' => r = .returned (.bool true) ∧ w = w' := by
  obtain ⟨p, q, hpq, ip, iq⟩ := sum_words h1 h3
  obtain ⟨r, s, hrs, ir, is⟩ := sum_words h2 h3
  have k1 := run_complex_sum (P := Try.prog) w .add (.inl rfl) 24 .f64 a b e f p q hpq
  have k2 := run_complex_sum (P := Try.prog) w .add (.inl rfl) 24 .f64 c d e f r s hrs
  have H5 := Lib.hid (up_calls w)
  have M1 := Lib.hid (may_calls a b w)
  have M2 := Lib.hid (may_calls c d w)
  have M3 := Lib.hid (may_calls e f w)
  have M4 := Lib.hid (may_calls p q w)
  have M5 := Lib.hid (may_calls r s w)
  have F1 := Lib.hid (far_calls a b c d w)
  have F2 := Lib.hid (far_calls c d a b w)
  have F3 := Lib.hid (far_calls a b a b w)
  have F4 := Lib.hid (far_calls p q r s w)
  have F5 := Lib.hid (far_calls a b e f w)
  have F6 := Lib.hid (far_calls e f c d w)
  have N1 := Lib.hid (near_calls a b c d (farV a b c d) w)
  have N2 := Lib.hid (near_calls a b c d (farV a b c d - 1) w)
  have tri := farV_tri h1 h2 h3
  have mv := fun h4 h5 => farV_moved h1 h2 h3 ip iq ir is h4 h5
  have e1 : nearB a b c d (farV a b c d) = true := by simp [nearB, farV_pos h1 h2]
  have e2 : nearB a b c d (farV a b c d - 1) = false := by simp [nearB]; omega
  rw [e1] at N1
  rw [e2] at N2
  rw [farV_swap c d a b] at F2
  rw [farV_self a b h1] at F3
  have b1 := farV_pos h1 h2
  have b2 := farV_bd a b c d
  have b3 := farV_pos h1 h3
  have b4 := farV_bd a b e f
  have b5 := farV_pos h3 h2
  have b6 := farV_bd e f c d
  rw [h1] at M1
  rw [h2] at M2
  rw [h3] at M3
  generalize farV a b c d = v at *
  generalize farV a b e f = x at *
  generalize farV e f c d = y at *
  clear h1 h2 h3 ip iq ir is hpq hrs e1 e2
  generalize hm4 : mayB p q = m4 at *
  generalize hm5 : mayB r s = m5 at *
  clear hm4 hm5
  cases m4
  · clear mv
    go_enter Try.func4, Try.ntmps4
    go_wp2_with fail
    refine (H5.out).mono ?_
    rintro e w' ⟨rfl, rfl⟩
    go_wp2_with fail
    refine (M1.out).mono ?_
    rintro e w' ⟨rfl, rfl⟩
    go_wp2_with fail
    refine (M2.out).mono ?_
    rintro e w' ⟨rfl, rfl⟩
    go_wp2_with fail
    refine (M3.out).mono ?_
    rintro e w' ⟨rfl, rfl⟩
    go_wp2_with fail
    refine (F1.out).mono ?_
    rintro e w' ⟨rfl, rfl⟩
    go_wp2_with fail
    refine (F2.out).mono ?_
    rintro e w' ⟨rfl, rfl⟩
    go_wp2_with fail
    refine (F3.out).mono ?_
    rintro e w' ⟨rfl, rfl⟩
    go_wp2_with fail
    refine (M4.out).mono ?_
    rintro e w' ⟨rfl, rfl⟩
    go_wp2_with fail
    refine (F5.out).mono ?_
    rintro e w' ⟨rfl, rfl⟩
    go_wp2_with fail
    refine (F6.out).mono ?_
    rintro e w' ⟨rfl, rfl⟩
    go_wp2_with fail
    refine (N1.out).mono ?_
    rintro e w' ⟨rfl, rfl⟩
    go_wp2_with fail
    refine (N2.out).mono ?_
    rintro e w' ⟨rfl, rfl⟩
    go_wp2
    go_ret
    exact ⟨by simp [*]; try omega, rfl⟩
  · cases m5
    · clear mv
      go_enter Try.func4, Try.ntmps4
      go_wp2_with fail
      refine (H5.out).mono ?_
      rintro e w' ⟨rfl, rfl⟩
      go_wp2_with fail
      refine (M1.out).mono ?_
      rintro e w' ⟨rfl, rfl⟩
      go_wp2_with fail
      refine (M2.out).mono ?_
      rintro e w' ⟨rfl, rfl⟩
      go_wp2_with fail
      refine (M3.out).mono ?_
      rintro e w' ⟨rfl, rfl⟩
      go_wp2_with fail
      refine (F1.out).mono ?_
      rintro e w' ⟨rfl, rfl⟩
      go_wp2_with fail
      refine (F2.out).mono ?_
      rintro e w' ⟨rfl, rfl⟩
      go_wp2_with fail
      refine (F3.out).mono ?_
      rintro e w' ⟨rfl, rfl⟩
      go_wp2_with fail
      refine (M4.out).mono ?_
      rintro e w' ⟨rfl, rfl⟩
      go_wp2_with fail
      refine (M5.out).mono ?_
      rintro e w' ⟨rfl, rfl⟩
      go_wp2_with fail
      refine (F5.out).mono ?_
      rintro e w' ⟨rfl, rfl⟩
      go_wp2_with fail
      refine (F6.out).mono ?_
      rintro e w' ⟨rfl, rfl⟩
      go_wp2_with fail
      refine (N1.out).mono ?_
      rintro e w' ⟨rfl, rfl⟩
      go_wp2_with fail
      refine (N2.out).mono ?_
      rintro e w' ⟨rfl, rfl⟩
      go_wp2
      go_ret
      exact ⟨by simp [*]; try omega, rfl⟩
    · have F4v := mv rfl rfl
      rw [F4v] at F4
      clear mv F4v
      go_enter Try.func4, Try.ntmps4
      go_wp2_with fail
      refine (H5.out).mono ?_
      rintro e w' ⟨rfl, rfl⟩
      go_wp2_with fail
      refine (M1.out).mono ?_
      rintro e w' ⟨rfl, rfl⟩
      go_wp2_with fail
      refine (M2.out).mono ?_
      rintro e w' ⟨rfl, rfl⟩
      go_wp2_with fail
      refine (M3.out).mono ?_
      rintro e w' ⟨rfl, rfl⟩
      go_wp2_with fail
      refine (F1.out).mono ?_
      rintro e w' ⟨rfl, rfl⟩
      go_wp2_with fail
      refine (F2.out).mono ?_
      rintro e w' ⟨rfl, rfl⟩
      go_wp2_with fail
      refine (F3.out).mono ?_
      rintro e w' ⟨rfl, rfl⟩
      go_wp2_with fail
      refine (M4.out).mono ?_
      rintro e w' ⟨rfl, rfl⟩
      go_wp2_with fail
      refine (M5.out).mono ?_
      rintro e w' ⟨rfl, rfl⟩
      go_wp2_with fail
      refine (F4.out).mono ?_
      rintro e w' ⟨rfl, rfl⟩
      go_wp2_with fail
      refine (F5.out).mono ?_
      rintro e w' ⟨rfl, rfl⟩
      go_wp2_with fail
      refine (F6.out).mono ?_
      rintro e w' ⟨rfl, rfl⟩
      go_wp2_with fail
      refine (N1.out).mono ?_
      rintro e w' ⟨rfl, rfl⟩
      go_wp2_with fail
      refine (N2.out).mono ?_
      rintro e w' ⟨rfl, rfl⟩
      go_wp2
      go_ret
      exact ⟨by simp [*]; try omega, rfl⟩

theorem moves_calls (a b c d e f : Nat) (w : World) :
    Calls Try.prog 4 #[.float .f64 a, .float .f64 b, .float .f64 c, .float .f64 d, .float .f64 e, .float .f64 f] w fun r w' => r = .returned (.bool true) ∧ w = w' := by
  cases h : (mayB a b && mayB c d && mayB e f)
  · exact moves_not a b c d e f w h
  · simp only [Bool.and_eq_true] at h
    exact moves_all a b c d e f w h.1.1 h.1.2 h.2

end Go.Proofs.Ytoenffbbchhhpaa
