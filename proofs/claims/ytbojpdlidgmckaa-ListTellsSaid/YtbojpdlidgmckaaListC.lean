/- The code's calls of layer 8: their contracts, and the document's example. Walked. -/
import Derived.Test.YtbojpdlidgmckaaLBoth
namespace Go.Proofs.Ytbojpdlidgmckaa
set_option linter.unusedVariables false
set_option linter.unusedSimpArgs false
open Go.RowKit

abbrev itA (c : UInt8) : Itm := ⟨⟨#[c]⟩, 0, 0, 0, ⟨#[]⟩, 0, 0, 0, false⟩
theorem lsAB : lsB ⟨#[97]⟩ ⟨#[98]⟩ = true := by unfold lsB; rw [ByteArray.toList_eq, ByteArray.toList_eq]; decide
theorem lsAC : lsB ⟨#[97]⟩ ⟨#[99]⟩ = true := by unfold lsB; rw [ByteArray.toList_eq, ByteArray.toList_eq]; decide
theorem lsBC : lsB ⟨#[98]⟩ ⟨#[99]⟩ = true := by unfold lsB; rw [ByteArray.toList_eq, ByteArray.toList_eq]; decide
theorem up8_rise : RiseI [itA 97, itA 99] := riseI_cons.2 ⟨fun x hx => by simp at hx; subst hx; exact lsAC, riseI_cons.2 ⟨fun x hx => by simp at hx, by simp [RiseI, Rise]⟩⟩
theorem up8_put : putI [itA 97, itA 99] (itA 98) = [itA 97, itA 98, itA 99] := by
  unfold putI
  have h1 : lsB ⟨#[99]⟩ ⟨#[98]⟩ = false := ls_asym lsBC
  have h2 : gtB ⟨#[97]⟩ ⟨#[98]⟩ = false := by rw [gt_eq]; exact ls_asym lsAB
  have h3 : gtB ⟨#[99]⟩ ⟨#[98]⟩ = true := by rw [gt_eq]; exact lsBC
  simp [List.filter_cons, lsAB, h1, h2, h3]
theorem up8_row (w : World) : Row 8 ic (w.alloc (.cells (iA (itA 97) ++ iA (itA 99)) 34)) [itA 97, itA 99] (.slice (some ⟨w.heap.size, 0, none⟩) 2 2) := by
  refine ⟨_, 2, w.heap.size, 0, rfl, Nat.le_refl _, by decide, fun _ => ⟨rfl, by simp⟩, fun k i hk j u hu => ?_, fun i hi => ?_⟩
  · have h := (Has.new w (iA (itA 97) ++ iA (itA 99)) 34).cell
    have hj : j < 8 := (List.getElem?_eq_some_iff.1 hu).1
    match k, hk with
    | 0, hk =>
      simp at hk; subst hk
      rw [Nat.zero_mul, Nat.zero_add, h, Array.getElem?_append_left (by simpa using hj)]
      simpa using hu
    | 1, hk =>
      simp at hk; subst hk
      rw [h, Array.getElem?_append_right (by simp)]
      rw [show 0 + 1 * 8 + j - (iA (itA 97)).size = j by simp]
      simpa using hu
    | k + 2, hk => simp at hk
  · simp at hi
    rcases hi with rfl | rfl <;> exact ⟨by decide, by decide⟩
theorem row_nil (w : World) : Row 8 ic w [] (.slice none 0 0) := (OwnI.nil w 0).row (by simp)

set_option maxRecDepth 100000 in
set_option maxHeartbeats 4000000 in
theorem up8_calls (w : World) : Calls Try.prog 5 #[] w fun e w' => e = .returned (.bool true) ∧ Below w.heap.size w w' := by
  have P := Lib.hid (listPut_calls [itA 97, itA 99] (itA 98) _ _ (up8_row w) up8_rise (by simp) ⟨by decide, by decide⟩)
  rw [up8_put] at P
  have M := fun w' => Lib.hid (listMay_calls [] _ w' (row_nil w') (by simp))
  have BEL := Lib.hid ((Below.refl w.heap.size w).alloc (Nat.le_refl _) (.cells (iA (itA 97) ++ iA (itA 99)) 34))
  go_enter Try.func5, Try.ntmps5
  go_wp2_with (first
    | (go_at_call 16; refine P.out.mono ?_; rintro e w1 ⟨v1, rfl, hr, hb⟩; obtain ⟨oa, cap, b, o, rfl, hr⟩ := hr; obtain ⟨rfl, hb0⟩ := hr.at0 (by simp); have c0 := hr.cell 0 _ rfl 0 _ rfl; have c1 := hr.cell 1 _ rfl 0 _ rfl; have c2 := hr.cell 2 _ rfl 0 _ rfl; simp only [Nat.zero_mul, Nat.add_zero, Nat.one_mul] at c0 c1 c2; replace BEL := Lib.hid (BEL.out.trans (hb.mono BEL.out.size)); clear hb hr)
    | (go_at_call 9; refine (M _).out.mono ?_; rintro e w2 ⟨rfl, hb2⟩; replace BEL := Lib.hid (BEL.out.trans (hb2.mono BEL.out.size))))
  go_ret
  exact ⟨rfl, BEL.out⟩
end Go.Proofs.Ytbojpdlidgmckaa
