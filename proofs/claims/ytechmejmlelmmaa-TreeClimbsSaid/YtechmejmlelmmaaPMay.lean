/- Walks of place.May and of the document's answer for it. -/
import Derived.Test.YtechmejmlelmmaaRows
import Derived.Test.YtechmejmlelmmaaFl
import Derived.WalkKit
import Derived.WalkSpells
import Derived.WalkLawsBesides
import Derived.Lib.Hide
namespace Go.Proofs.Ytechmejmlelmmaa
set_option linter.unusedVariables false
set_option linter.unusedSimpArgs false
set_option maxRecDepth 100000
open Go.RowKit

theorem toIntegral_number (name : String) (b : Nat) (s : Bool) (m : Nat) (i : Int) (h : FloatKind.f64.decode b = .number s m i) :
    Extern.MathFloor.toIntegral name .zero #[.float .f64 b] = pure (.float .f64 (FloatKind.f64.encode ((Ieee.Datum.number s m i).integral .zero))) := by
  have key : ∀ d, FloatKind.f64.decode b = d → Extern.MathFloor.toIntegral name .zero #[.float .f64 b] =
      (match d with
      | .nan s t => if FloatKind.f64.format.quiet t = t then pure (.float .f64 b) else do
        let kept ← choose (.extern "math.Floor,Ceil,Trunc,RoundToEven.signallingNaN kept" 2)
        pure (.float .f64 (if kept == 1 then b else FloatKind.f64.encode (.nan s (FloatKind.f64.format.quiet t))))
      | d => pure (.float .f64 (FloatKind.f64.encode (d.integral .zero)))) := by
    intro d hd; subst hd; rfl
  exact key _ h

theorem run_trunc (b : Nat) (w : World) (hl : Fl.geLo b = true) (hh : Fl.leHi b = true) :
    (callFunc 56 #[.float .f64 b]).run Try.prog w = .ok (.value (.float .f64 (Fl.trunc b))) w := by
  rw [run_callFunc_extern (e := Extern.MathFloor.toIntegral "math.archTrunc" .zero) Try.func56 (by kernel_rfl) (by kernel_rfl) (by kernel_rfl) (by kernel_rfl)]
  obtain ⟨s, m, e, hr, hm⟩ := Fl.finite_of_range hl hh
  rw [toIntegral_number _ b s m _ hr]
  unfold Fl.trunc
  rw [hr]
  rfl

set_option maxRecDepth 100000 in
set_option maxHeartbeats 400000 in
theorem trunc_calls (b : Nat) (w : World) (hl : Fl.geLo b = true) (hh : Fl.leHi b = true) :
    Calls Try.prog 55 #[.float .f64 b] w fun e w' => e = .returned (.float .f64 (Fl.trunc b)) ∧ w = w' := by
  have h := run_trunc b w hl hh
  go_enter Try.func55, Try.ntmps55
  go_wp2
  go_ret
  exact ⟨rfl, rfl⟩

theorem inR (b : Nat) : (FloatKind.f64.format.order b 13875379345695965184 == some .gt || FloatKind.f64.format.order b 13875379345695965184 == some .eq) = Fl.geLo b := rfl
theorem inH (b : Nat) : (FloatKind.f64.format.order b 4652007308841189376 == some .lt || FloatKind.f64.format.order b 4652007308841189376 == some .eq) = Fl.leHi b := rfl
theorem inT (b : Nat) (hl : Fl.geLo b = true) (hh : Fl.leHi b = true) : (FloatKind.f64.format.order b (Fl.trunc b) == some .eq) = Fl.wb b := by
  simp only [Fl.wb, hl, hh, Bool.true_and]; rfl

set_option maxRecDepth 100000 in
set_option maxHeartbeats 400000 in
theorem whole_calls (b : Nat) (w : World) :
    Calls Try.prog 53 #[.float .f64 b] w fun e w' => e = .returned (.bool (Fl.wb b)) ∧ w = w' := by
  have e1 := inR b
  have e2 := inH b
  cases hl : Fl.geLo b
  · rw [show Fl.wb b = false by simp [Fl.wb, hl]]
    rw [hl] at e1
    go_enter Try.func53, Try.ntmps53
    go_wp2
    go_ret
    exact ⟨rfl, rfl⟩
  · cases hh : Fl.leHi b
    · rw [show Fl.wb b = false by simp [Fl.wb, hh]]
      rw [hl] at e1
      rw [hh] at e2
      go_enter Try.func53, Try.ntmps53
      go_wp2
      go_ret
      exact ⟨rfl, rfl⟩
    · have e3 := inT b hl hh
      rw [hl] at e1
      rw [hh] at e2
      generalize Fl.wb b = r at *
      have c := trunc_calls b w hl hh
      have C := Lib.hid c
      clear c hl hh
      go_enter Try.func53, Try.ntmps53
      go_wp2_with (go_at_call 55; refine (C.out).mono ?_; rintro e w' ⟨rfl, rfl⟩)
      go_ret
      exact ⟨rfl, rfl⟩

set_option maxRecDepth 100000 in
set_option maxHeartbeats 400000 in
theorem part_calls (b : Nat) (w : World) :
    Calls Try.prog 45 #[.float .f64 b] w fun e w' => e = .returned (.bool (Fl.wb b)) ∧ w = w' := by
  have e1 := inR b
  have e2 := inH b
  cases hl : Fl.geLo b
  · rw [show Fl.wb b = false by simp [Fl.wb, hl]]
    rw [hl] at e1
    go_enter Try.func45, Try.ntmps45
    go_wp2
    go_ret
    exact ⟨rfl, rfl⟩
  · cases hh : Fl.leHi b
    · rw [show Fl.wb b = false by simp [Fl.wb, hh]]
      rw [hl] at e1
      rw [hh] at e2
      go_enter Try.func45, Try.ntmps45
      go_wp2
      go_ret
      exact ⟨rfl, rfl⟩
    · have e3 : (FloatKind.f64.format.order (floatOfInt .f64 (Fl.iv b)) b == some .eq) = Fl.wb b :=
        Fl.back_wb hl hh (Fl.ofInt_int (by have := (Fl.trunc_int hl hh).2; omega))
      have c1 := run_convert_float_int (P := Try.prog) w 40 3 .f64 .i64 b (Fl.iv b) (by kernel_rfl) (by kernel_rfl) (Fl.toInt_range hl hh)
      have c2 := run_convert_int_float (P := Try.prog) w 3 40 .i64 .f64 (Fl.iv b) (by kernel_rfl) (by kernel_rfl)
      rw [hl] at e1
      rw [hh] at e2
      generalize Fl.wb b = r at *
      generalize Fl.iv b = n at *
      clear hl hh
      go_enter Try.func45, Try.ntmps45
      go_wp2
      go_ret
      exact ⟨rfl, rfl⟩

def mayB (a b : Nat) : Bool := Fl.wb a && Fl.wb b

set_option maxRecDepth 100000 in
set_option maxHeartbeats 400000 in
theorem may_calls (a b : Nat) (w : World) :
    Calls Try.prog 48 #[.complex .f64 a b] w fun e w' => e = .returned (.bool (mayB a b)) ∧ w = w' := by
  have H := fun x => Lib.hid (whole_calls x w)
  unfold mayB
  cases ha : Fl.wb a <;> cases hb : Fl.wb b <;>
  ( go_enter Try.func48, Try.ntmps48
    go_wp2_with (go_at_call 53; refine ((H _).out).mono ?_; (try rw [ha]); (try rw [hb]); rintro e w' ⟨rfl, rfl⟩)
    go_ret
    exact ⟨rfl, rfl⟩ )

set_option maxRecDepth 100000 in
set_option maxHeartbeats 400000 in
theorem place_calls (a b : Nat) (w : World) :
    Calls Try.prog 33 #[.complex .f64 a b] w fun e w' => e = .returned (.bool (mayB a b)) ∧ w = w' := by
  have H := fun x => Lib.hid (part_calls x w)
  unfold mayB
  cases ha : Fl.wb a <;> cases hb : Fl.wb b <;>
  ( go_enter Try.func33, Try.ntmps33
    go_wp2_with (go_at_call 45; refine ((H _).out).mono ?_; (try rw [ha]); (try rw [hb]); rintro e w' ⟨rfl, rfl⟩)
    go_ret
    exact ⟨rfl, rfl⟩ )

end Go.Proofs.Ytechmejmlelmmaa
