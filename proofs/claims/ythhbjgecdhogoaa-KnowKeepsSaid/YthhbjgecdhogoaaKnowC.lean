/- The document's example of layer 7: the walk, over the code's own calls. -/
import Derived.Test.YthhbjgecdhogoaaRefOwnK
import Derived.Test.YthhbjgecdhogoaaRefHasK
import Derived.Test.YthhbjgecdhogoaaRefMayK
import Derived.Test.YthhbjgecdhogoaaRefSameK
import Derived.Test.YthhbjgecdhogoaaKCodeA
import Derived.Test.YthhbjgecdhogoaaKCodeE
import Derived.Test.YthhbjgecdhogoaaKCodeC
import Derived.Test.YthhbjgecdhogoaaKCodeD
namespace Go.Proofs.Ythhbjgecdhogoaa
set_option linter.unusedVariables false
set_option linter.unusedSimpArgs false
open Go.RowKit

abbrev txA : ByteArray := ⟨#[97]⟩
def upK : Kn := withK ⟨zeroV, []⟩ txA 2 1
def at1 (k : Nat) : Int := if k = 1 then 1 else 0
theorem frNil (w : World) : FrW w [] (.slice none 0 0) := ⟨fun _ => .slice none 0 0, none, 0, 0, 0, rfl, by simp, by unfold maxLen; omega, fun h => absurd h (by simp), fun k f h => by simp at h, fun k f h => by simp at h⟩
theorem upK_l : upK.l = [⟨[txA], withV zeroV 2 1⟩] := rfl
theorem kup_bey : ∀ j, j < 8 → beyB upK txA j = at1 j := by
  intro j hj
  have h : rawF upK.l txA = maxV zeroV (withV zeroV 2 1) := by
    rw [upK_l]
    unfold rawF rawStep
    simp only [List.foldl_cons, List.foldl_nil]
    rw [if_pos (among_iff.2 (by simp))]
  unfold beyB
  rw [if_pos hj, h]
  match j, hj with
  | 0, _ | 1, _ | 2, _ | 3, _ | 4, _ | 5, _ | 6, _ | 7, _ => decide
theorem kup_plain : (plainB upK).l = [⟨[txA], beyB upK txA⟩] := by
  have hn : namesB upK = [txA] := by
    unfold namesB
    rw [upK_l]
    rfl
  unfold plainB
  simp only
  rw [hn]
  have hz : eqV (beyB upK txA) zeroV = false := by
    cases h : eqV (beyB upK txA) zeroV with
    | false => rfl
    | true =>
      have := eqV_iff.1 h 1 (by omega)
      rw [kup_bey 1 (by omega)] at this
      exact absurd this (by decide)
  unfold grpF grpStep
  simp only [List.foldl_cons, List.foldl_nil, hz]
  rfl
theorem kup_may : mayK nameB ⟨zeroV, [⟨[txA], beyB upK txA⟩]⟩ = true := by
  have e : (⟨zeroV, [⟨[txA], beyB upK txA⟩]⟩ : Kn) = plainB upK := by rw [← kup_plain]; rfl
  have h1 : alikeK (plainB upK) (plainB (plainB upK)) = true := alike_of (eqV_refl _) (plain_l (bey_plain upK)).symm
  have h2 : mayV (beyB upK txA) = true := mayV_iff.2 fun j hj => by
    rw [kup_bey j hj]; unfold at1; split <;> omega
  have h3 : nameB txA = true := by decide
  unfold mayK
  rw [e, h1]
  have h4 : mayV (plainB upK).star = true := mayV_iff.2 fun j hj => by show (0 : Int) ≤ 0 ∧ (0 : Int) ≤ 1000; omega
  rw [h4, kup_plain]
  simp [mayFr, h2, h3]
theorem kup_same : sameK ⟨zeroV, [⟨[txA], beyB upK txA⟩]⟩ ⟨zeroV, [⟨[txA], beyB upK txA⟩]⟩ = true := alike_refl _

set_option maxRecDepth 100000 in
set_option maxHeartbeats 4000000 in
theorem up7_calls (w : World) : Calls Try.prog 6 #[] w fun e w' => e = .returned (.bool true) ∧ Below w.heap.size w w' := by
  have H1 := Lib.hid (show Calls Try.prog 11 #[.agg #[.int .i64 0, .int .i64 0, .int .i64 0, .int .i64 0, .int .i64 0, .int .i64 0, .int .i64 0, .int .i64 0, .slice none 0 0], .string txA, .agg #[.int .i64 2, .int .i64 1]] w (fun e w' => ∃ v', e = .returned (.agg #[.int .i64 0, .int .i64 0, .int .i64 0, .int .i64 0, .int .i64 0, .int .i64 0, .int .i64 0, .int .i64 0, v']) ∧ FrW w' (plainB upK).l v' ∧ Below w.heap.size w w') from knowWith_calls ⟨zeroV, []⟩ txA 2 1 (.slice none 0 0) w (frNil w) (by decide) (by show (flatI upK.l).length ≤ 10000; rw [upK_l]; simp [flatI]) (by simp))
  rw [kup_plain] at H1
  have HQ := fun w' => show (Op.equalIn 10000 23 (.agg #[.int .i64 (beyB upK txA 0), .int .i64 (beyB upK txA 1), .int .i64 (beyB upK txA 2), .int .i64 (beyB upK txA 3), .int .i64 (beyB upK txA 4), .int .i64 (beyB upK txA 5), .int .i64 (beyB upK txA 6), .int .i64 (beyB upK txA 7)]) (.agg #[.int .i64 0, .int .i64 1, .int .i64 0, .int .i64 0, .int .i64 0, .int .i64 0, .int .i64 0, .int .i64 0])).run Try.prog w' = .ok true w' from by
    rw [← show eqV (beyB upK txA) at1 = true from eqV_iff.2 kup_bey]
    exact eqVec7 (beyB upK txA) at1 w'
  have HM := fun v w' h => Lib.hid (show Calls Try.prog 17 #[.agg #[.int .i64 0, .int .i64 0, .int .i64 0, .int .i64 0, .int .i64 0, .int .i64 0, .int .i64 0, .int .i64 0, v]] w' (fun e w'' => e = .returned (.bool true) ∧ Below w'.heap.size w' w'') from by
    have := knowMay_calls nameB rfl ⟨zeroV, [⟨[txA], beyB upK txA⟩]⟩ v w' h (by simp [flatI])
    rw [kup_may] at this; exact this)
  have HS := fun v w' h => Lib.hid (show Calls Try.prog 21 #[.agg #[.int .i64 0, .int .i64 0, .int .i64 0, .int .i64 0, .int .i64 0, .int .i64 0, .int .i64 0, .int .i64 0, v], .agg #[.int .i64 0, .int .i64 0, .int .i64 0, .int .i64 0, .int .i64 0, .int .i64 0, .int .i64 0, .int .i64 0, v]] w' (fun e w'' => e = .returned (.bool true) ∧ Below w'.heap.size w' w'') from by
    have := knowSame_calls ⟨zeroV, [⟨[txA], beyB upK txA⟩]⟩ ⟨zeroV, [⟨[txA], beyB upK txA⟩]⟩ v v w' h h (by simp [flatI]) (by simp [flatI])
    rw [kup_same] at this; exact this)
  generalize beyB upK txA = F at *
  go_enter Try.func6, Try.ntmps6
  go_wp2_with fail
  refine H1.out.mono ?_
  rintro e w1 ⟨v', rfl, hfr, hb1⟩
  obtain ⟨U, oa, cap, b, o, rfl, hF⟩ := hfr
  obtain ⟨rfl, hlt⟩ := hF.at0 (by simp)
  obtain ⟨c0, c1, c2, c3, c4, c5, c6, c7, c8⟩ := fc_cells (w := w1) (o := o) (fun j u hu => by have := hF.cell 0 _ rfl j u hu; simpa using this)
  obtain ⟨oq, cq, bq, oo, hU, hT⟩ := hF.ids 0 _ rfl
  obtain ⟨rfl, hlt2⟩ := hT.at0 (by simp)
  have d0 : w1.cell? ⟨bq, oo, none⟩ = some (.string ⟨#[97]⟩) := hT.cell 0 txA rfl
  have hcap := hF.len
  have hcq := hT.len
  simp only [List.length_cons, List.length_nil] at hcap hcq hU
  rw [hU] at c0
  have HB1 := Lib.hid hb1
  have HFW := Lib.hid (show FrW w1 [⟨[txA], F⟩] (.slice (some ⟨b, o, none⟩) 1 cap) from ⟨U, _, cap, b, o, rfl, hF⟩)
  have B2 : Below w1.heap.size w1 (w1.alloc (.cells #[.int .i64 0, .int .i64 0, .int .i64 0, .int .i64 0, .int .i64 0, .int .i64 0, .int .i64 0, .int .i64 0, .slice (some ⟨b, o, none⟩) 1 cap] 26)) := (Below.refl _ _).alloc (Nat.le_refl _) _
  have HM1 := HM _ _ (HFW.out.later B2 (Nat.le_refl _))
  have HO := Lib.hid (Own.new w1 #[.int .i64 0, .int .i64 0, .int .i64 0, .int .i64 0, .int .i64 0, .int .i64 0, .int .i64 0, .int .i64 0, .slice (some ⟨b, o, none⟩) 1 cap] 26)
  have HB2 := Lib.hid (HB1.out.trans (B2.mono HB1.out.size))
  have HFL := Lib.hid (HFW.out.later B2 (Nat.le_refl _))
  clear hF hT hb1 B2 hU
  go_wp2_with (first
    | (go_at_call 17; refine HM1.out.mono ?_; rintro e w3 ⟨rfl, hb3⟩; have l3 := (HO.out.later hb3).cell; have z3 := (HO.out.later hb3).lt; have HS3 := HS _ _ (HFL.out.later hb3 (Nat.le_refl _)))
    | (go_at_call 21; refine HS3.out.mono ?_; rintro e w4 ⟨rfl, hb4⟩)
    | fail)
  go_ret
  exact ⟨rfl, HB2.out.trans ((hb3.trans (hb4.mono hb3.size)).mono HB2.out.size)⟩

end Go.Proofs.Ythhbjgecdhogoaa
