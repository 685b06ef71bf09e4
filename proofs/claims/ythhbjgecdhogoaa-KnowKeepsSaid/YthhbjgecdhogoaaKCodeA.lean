/- The code's Has and With of what is known, walked. -/
import Derived.Test.YthhbjgecdhogoaaKPlain
import Derived.Test.YthhbjgecdhogoaaKConc
import Derived.Test.YthhbjgecdhogoaaKFrag
import Derived.Test.YthhbjgecdhogoaaVecWith
namespace Go.Proofs.Ythhbjgecdhogoaa
set_option linter.unusedVariables false
set_option linter.unusedSimpArgs false
open Go.RowKit

set_option maxRecDepth 100000 in
set_option maxHeartbeats 2000000 in
theorem knowHas_calls (K : Kn) (id : ByteArray) (r c : Int) (v : Value) (w : World) (hR : FrW w K.l v) (hid : id.size ≤ maxLen) :
    Calls Try.prog 15 #[knV K.star v, .string id, .agg #[.int .i64 r, .int .i64 c]] w fun e w' => e = .returned (.bool (hasK K id r c)) ∧ Below w.heap.size w w' := by
  obtain ⟨ov, cv, rfl⟩ := hR.val
  unfold hasK
  obtain ⟨A, l⟩ := K
  simp only at *
  have G1 := Lib.hid (((Own.new w (knA A (.slice ov l.length cv)) 26).alloc (.cells #[.string id] 9)).alloc (.cells #[.int .i64 r, .int .i64 c] 28))
  have G2 := Lib.hid ((Own.newAt (w.alloc (.cells (knA A (.slice ov l.length cv)) 26)) #[.string id] 9 (b := w.heap.size + 1) (by simp)).alloc (.cells #[.int .i64 r, .int .i64 c] 28))
  have G3 := Lib.hid (Own.newAt ((w.alloc (.cells (knA A (.slice ov l.length cv)) 26)).alloc (.cells #[.string id] 9)) #[.int .i64 r, .int .i64 c] 28 (b := w.heap.size + 1 + 1) (by simp))
  have HB0 := Lib.hid ((((Below.refl w.heap.size w).alloc (Nat.le_refl _) (.cells (knA A (.slice ov l.length cv)) 26)).alloc (by simp) (.cells #[.string id] 9)).alloc (by simp; omega) (.cells #[.int .i64 r, .int .i64 c] 28))
  have HR := Lib.hid (hR.later HB0.out (Nat.le_refl _))
  have CH := fun w' => Lib.hid (vecHas_calls A r c w')
  clear hR
  cases hh : hasV A r c
  · have CD := fun w' h => Lib.hid (containsH_calls (hasFr id r c) l (.slice ov l.length cv) (w.heap.size + 1 + 1) (w.heap.size + 1) w' h)
    rw [Bool.false_or]
    go_enter Try.func15, Try.ntmps15
    go_upto_region 1 with fail
    generalize ((w.alloc (.cells (knA A (.slice ov l.length cv)) 26)).alloc (.cells #[.string id] 9)).alloc (.cells #[.int .i64 r, .int .i64 c] 28) = W at *
    have l1 := G1.out.cell
    have z1 := G1.out.lt
    have l3 := G3.out.cell
    have z3 := G3.out.lt
    have CH1 := CH W
    rw [hh] at CH1
    go_wp2_with (first
      | (go_at_call 32; refine CH1.out.mono ?_; rintro e w3 ⟨rfl, hb3⟩; have l13 := (G1.out.later hb3).cell; have z13 := (G1.out.later hb3).lt; have D := Lib.hid ((CD w3 (HR.out.later hb3 (Nat.le_refl _))).out fun w' hb' k f u hf hu => has1_calls f u r c id _ _ w' hu ((G3.out.later hb3).later hb') ((G2.out.later hb3).later hb')))
      | (go_at_call 33; refine D.out.mono ?_; rintro e w4 ⟨rfl, hb4⟩)
      | fail)
    go_ret
    exact ⟨rfl, HB0.out.trans ((hb3.trans (hb4.mono hb3.size)).mono HB0.out.size)⟩
  · rw [Bool.true_or]
    go_enter Try.func15, Try.ntmps15
    go_upto_region 1 with fail
    generalize ((w.alloc (.cells (knA A (.slice ov l.length cv)) 26)).alloc (.cells #[.string id] 9)).alloc (.cells #[.int .i64 r, .int .i64 c] 28) = W at *
    have l1 := G1.out.cell
    have z1 := G1.out.lt
    have l3 := G3.out.cell
    have z3 := G3.out.lt
    have CH1 := CH W
    rw [hh] at CH1
    go_wp2_with (go_at_call 32; refine CH1.out.mono ?_; rintro e w3 ⟨rfl, hb3⟩)
    go_ret
    exact ⟨rfl, HB0.out.trans (hb3.mono HB0.out.size)⟩

end Go.Proofs.Ythhbjgecdhogoaa
