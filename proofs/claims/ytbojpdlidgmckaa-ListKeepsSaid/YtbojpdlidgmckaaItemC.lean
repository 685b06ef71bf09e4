/- Walks of layer 2: whether an item may be, by the code and by the document's answer; an item out of plain data. -/
import Derived.Test.YtbojpdlidgmckaaItemB
import Derived.Test.YtbojpdlidgmckaaItemQ
namespace Go.Proofs.Ytbojpdlidgmckaa
set_option linter.unusedVariables false
set_option linter.unusedSimpArgs false
open Go.RowKit

def mayI (id : ByteArray) (r c st : Int) (kd : ByteArray) (n : Int) (x y : Nat) : Bool :=
  nameB id && (txtB kd && (verB r c && (inB st 1 1000000 && (inB n (-1000000) 1000000 && mayB x y))))

set_option maxHeartbeats 400000 in
theorem itemMay_calls (id : ByteArray) (r c st : Int) (kd : ByteArray) (n : Int) (x y : Nat) (d : Bool) (w : World) :
    Calls Try.prog 24 #[itemV id r c st kd n x y d] w fun e w' => e = .returned (.bool (mayI id r c st kd n x y)) ∧ Below w.heap.size w w' := by
  have H1 := fun w => Lib.hid (name_calls id w)
  have H2 := fun w => Lib.hid (text_calls kd w)
  have H3 := fun w => Lib.hid (version_calls r c w)
  have H4 := fun a b c w => Lib.hid (within_calls a b c w)
  have H6 := fun w => Lib.hid (may_calls x y w)
  unfold mayI
  go_enter Try.func24, Try.ntmps24
  go_wp2_with (first | (go_at_call 34; refine ((H1 _).out).mono ?_; rintro e w' ⟨rfl, rfl⟩) | (go_at_call 35; refine ((H2 _).out).mono ?_; rintro e w' ⟨rfl, rfl⟩) | (go_at_call 36; refine ((H3 _).out).mono ?_; rintro e w' ⟨rfl, hb⟩; obtain ⟨hc, hf⟩ := bcell hb) | (go_at_call 37; refine ((H4 _ _ _ _).out).mono ?_; rintro e w' ⟨rfl, rfl⟩) | (go_at_call 38; refine ((H6 _).out).mono ?_; rintro e w' ⟨rfl, rfl⟩))
  all_goals
    go_ret
    refine ⟨ret_bool (by simp_all), ?_⟩
    first | exact (Below.refl _ _).alloc (Nat.le_refl _) _ | exact below_new hb

end Go.Proofs.Ytbojpdlidgmckaa
