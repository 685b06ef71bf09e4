/- The document's example of layer 6: the walk. -/
import Derived.Test.YtphomlolfadbpaaVecC
import Derived.Test.YtphomlolfadbpaaVecEq
namespace Go.Proofs.Ytphomlolfadbpaa
open Go.RowKit

def at0 (n : Int) (k : Nat) : Int := if k = 0 then n else 0
theorem up6_with : vecV (withV (fun _ => 0) 1 2) = .agg #[.int .i64 2, .int .i64 0, .int .i64 0, .int .i64 0, .int .i64 0, .int .i64 0, .int .i64 0, .int .i64 0] := (show vecV (withV (fun _ => 0) 1 2) = vecV (at0 2) from vec_congr fun j hj => by
  match j, hj with
  | 0, _ | 1, _ | 2, _ | 3, _ | 4, _ | 5, _ | 6, _ | 7, _ => decide)
set_option maxHeartbeats 2000000 in
theorem up6_calls (w : World) : Calls Try.prog 5 #[] w fun e w' => e = .returned (.bool true) ∧ Below w.heap.size w w' := by
  have H1 := fun w => Lib.hid (vecWith_calls (fun _ => 0) 1 2 w)
  have H2 := fun w => Lib.hid (vecMay_calls (fun _ => 0) w)
  have H3 := fun w => Lib.hid (vecIn_calls (at0 1) (at0 2) w)
  rw [up6_with] at H1
  rw [show mayV (fun _ => 0) = true by decide] at H2
  rw [show inV (at0 1) (at0 2) = true by decide] at H3
  go_enter Try.func5, Try.ntmps5
  go_wp2_with fail
  refine (H1 _).out.mono ?_; rintro e w1 ⟨rfl, hb1⟩
  go_wp2_with fail
  refine (H2 _).out.mono ?_; rintro e w2 ⟨rfl, hb2⟩
  go_wp2_with fail
  refine (H3 _).out.mono ?_; rintro e w3 ⟨rfl, hb3⟩
  go_wp2_with fail
  go_ret
  have b2 := hb1.trans (hb2.mono hb1.size)
  exact ⟨rfl, b2.trans (hb3.mono b2.size)⟩

end Go.Proofs.Ytphomlolfadbpaa
