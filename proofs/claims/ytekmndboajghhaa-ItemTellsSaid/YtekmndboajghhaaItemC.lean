/- Walks of layer 2: whether an item may be, by the code and by the document's answer; an item out of plain data. -/
import Derived.Test.YtekmndboajghhaaItemB
namespace Go.Proofs.Ytekmndboajghhaa
open Go.RowKit

/-- An item's cells, in a value. -/
abbrev itemV (id : ByteArray) (r c st : Int) (kd : ByteArray) (n : Int) (x y : Nat) (d : Bool) : Value :=
  .agg #[.string id, .int .i64 r, .int .i64 c, .int .i64 st, .string kd, .int .i64 n, .complex .f64 x y, .bool d]
/-- A row's cells. -/
abbrev rowV (id : ByteArray) (r c st : Int) (kd : ByteArray) (n : Int) (x y : Nat) (d : Bool) : Value :=
  .agg #[.string id, .int .i64 r, .int .i64 c, .int .i64 st, .string kd, .int .i64 n, .float .f64 x, .float .f64 y, .bool d]

def mayI (id : ByteArray) (r c st : Int) (kd : ByteArray) (n : Int) (x y : Nat) : Bool :=
  nameB id && (txtB kd && (verB r c && (inB st 1 1000000 && (inB n (-1000000) 1000000 && mayB x y))))

set_option maxHeartbeats 400000 in
theorem item_calls (id : ByteArray) (r c st : Int) (kd : ByteArray) (n : Int) (x y : Nat) (d : Bool) (w : World) :
    Calls Try.prog 6 #[rowV id r c st kd n x y d] w fun e w' => e = .returned (itemV id r c st kd n x y d) ∧ Below w.heap.size w w' := by
  go_enter Try.func6, Try.ntmps6
  go_wp2
  exact bodyPost_ret (v := itemV id r c st kd n x y d) (by simp [results, Try.results6, go_sem]) rfl ⟨rfl, ((Below.refl _ _).alloc (Nat.le_refl _) _).alloc (by simp) _⟩

set_option maxHeartbeats 400000 in
theorem itemMay_calls (id : ByteArray) (r c st : Int) (kd : ByteArray) (n : Int) (x y : Nat) (d : Bool) (w : World) :
    Calls Try.prog 9 #[itemV id r c st kd n x y d] w fun e w' => e = .returned (.bool (mayI id r c st kd n x y)) ∧ Below w.heap.size w w' := by
  have H1 := fun w => Lib.hid (name_calls id w)
  have H2 := fun w => Lib.hid (text_calls kd w)
  have H3 := fun w => Lib.hid (version_calls r c w)
  have H4 := fun a b c w => Lib.hid (within_calls a b c w)
  have H6 := fun w => Lib.hid (may_calls x y w)
  unfold mayI
  go_enter Try.func9, Try.ntmps9
  go_wp2_with (first | (go_at_call 7; refine ((H1 _).out).mono ?_; rintro e w' ⟨rfl, rfl⟩) | (go_at_call 15; refine ((H2 _).out).mono ?_; rintro e w' ⟨rfl, rfl⟩) | (go_at_call 17; refine ((H3 _).out).mono ?_; rintro e w' ⟨rfl, hb⟩; obtain ⟨hc, hf⟩ := bcell hb) | (go_at_call 18; refine ((H4 _ _ _ _).out).mono ?_; rintro e w' ⟨rfl, rfl⟩) | (go_at_call 19; refine ((H6 _).out).mono ?_; rintro e w' ⟨rfl, rfl⟩))
  all_goals
    go_ret
    refine ⟨ret_bool (by simp_all), ?_⟩
    first | exact (Below.refl _ _).alloc (Nat.le_refl _) _ | exact below_new hb

end Go.Proofs.Ytekmndboajghhaa
