/- What is known: the document's Same, walked. -/
import Derived.Test.YthhbjgecdhogoaaRefPlainK
import Derived.Test.YthhbjgecdhogoaaRefAlike
import Derived.Deep.RegionHeld3
namespace Go.Proofs.Ythhbjgecdhogoaa
set_option linter.unusedVariables false
set_option linter.unusedSimpArgs false
open Go.RowKit

set_option maxRecDepth 100000 in
set_option maxHeartbeats 8000000 in
theorem refSameK_calls (a b : Kn) (v v' : Value) (w : World) (hR : FrW w a.l v) (hM : FrW w b.l v') (hl1 : (flatI a.l).length ≤ 10000) (hl2 : (flatI b.l).length ≤ 10000) :
    Calls Try.prog 22 #[knV a.star v, knV b.star v'] w fun e w' => e = .returned (.bool (sameK a b)) ∧ Below w.heap.size w w' := by
  obtain ⟨ov, cv, rfl⟩ := hR.val
  obtain ⟨ov', cv', rfl⟩ := hM.val
  have PA := fun w' h => Lib.hid (refPlainK_calls a (.slice ov a.l.length cv) w' h hl1)
  have PB := fun w' h => Lib.hid (refPlainK_calls b (.slice ov' b.l.length cv') w' h hl2)
  have AK := fun va vb w' h h' => Lib.hid (show Calls Try.prog 8 #[knV a.star va, knV b.star vb] w' (fun e w'' => e = .returned (.bool (sameK a b)) ∧ Below w'.heap.size w' w'') from alike_calls (plainB a) (plainB b) va vb w' h h')
  have OA := Lib.hid ((Has.new w (knA a.star (.slice ov a.l.length cv)) 26).alloc (.cells (knA b.star (.slice ov' b.l.length cv')) 26))
  have OB := Lib.hid ((Own.newAt (w.alloc (.cells (knA a.star (.slice ov a.l.length cv)) 26)) (knA b.star (.slice ov' b.l.length cv')) 26 (b := w.heap.size + 1) (by simp)).has)
  have BEL := Lib.hid (((Below.refl w.heap.size w).alloc (Nat.le_refl _) (.cells (knA a.star (.slice ov a.l.length cv)) 26)).alloc (by simp) (.cells (knA b.star (.slice ov' b.l.length cv')) 26))
  have LA := Lib.hid (hR.later BEL.out (Nat.le_refl _))
  have LB := Lib.hid (hM.later BEL.out (Nat.le_refl _))
  clear hR hM hl1 hl2
  generalize sameK a b = res at *
  generalize a.l.length = len at *
  generalize b.l.length = len' at *
  go_enter Try.func22, Try.ntmps22
  go_wp2_with fail
  replace OA := Lib.hid (OA.out.drew)
  replace OB := Lib.hid (OB.out.drew)
  replace LA := Lib.hid (LA.out.later (Below.refl _ _).drew (Nat.le_refl _))
  replace LB := Lib.hid (LB.out.later (Below.refl _ _).drew (Nat.le_refl _))
  replace BEL := Lib.hid (BEL.out.drew)
  go_region_held3 (fun w' => (∀ o, w'.cell? ⟨w.heap.size, o, none⟩ = (knA a.star (.slice ov len cv))[o]?) ∧ ∀ o, w'.cell? ⟨w.heap.size + 1, o, none⟩ = (knA b.star (.slice ov' len' cv'))[o]?) (exact ⟨OA.out.cell, OB.out.cell⟩)
    (first
      | (go_simp; go_at_call_of 10 (Kn.star a); refine (PA _ LA.out).out.mono ?_; rintro e wa ⟨va, rfl, hfa, hb⟩; replace hfa := hfa.fr; obtain ⟨oa, ca, rfl⟩ := hfa.val; have LPA := Lib.hid hfa; replace OA := Lib.hid (OA.out.below hb OA.out.lt); replace OB := Lib.hid (OB.out.below hb OB.out.lt); replace LA := Lib.hid (LA.out.later hb (Nat.le_refl _)); replace LB := Lib.hid (LB.out.later hb (Nat.le_refl _)); (try replace LPB := Lib.hid (LPB.out.later hb (Nat.le_refl _))); replace BEL := Lib.hid (BEL.out.trans (hb.mono BEL.out.size)); clear hb; clear hfa)
      | (go_simp; go_at_call_of 10 (Kn.star b); refine (PB _ LB.out).out.mono ?_; rintro e wb ⟨vb, rfl, hfb, hb⟩; replace hfb := hfb.fr; obtain ⟨ob, cb, rfl⟩ := hfb.val; have LPB := Lib.hid hfb; replace OA := Lib.hid (OA.out.below hb OA.out.lt); replace OB := Lib.hid (OB.out.below hb OB.out.lt); replace LA := Lib.hid (LA.out.later hb (Nat.le_refl _)); replace LB := Lib.hid (LB.out.later hb (Nat.le_refl _)); (try replace LPA := Lib.hid (LPA.out.later hb (Nat.le_refl _))); replace BEL := Lib.hid (BEL.out.trans (hb.mono BEL.out.size)); clear hb; clear hfb)
      | (go_simp; go_at_call 8; refine (AK _ _ _ LPA.out LPB.out).out.mono ?_; rintro e wc ⟨rfl, hb⟩; replace OA := Lib.hid (OA.out.below hb OA.out.lt); replace OB := Lib.hid (OB.out.below hb OB.out.lt); replace BEL := Lib.hid (BEL.out.trans (hb.mono BEL.out.size)); clear hb))
  all_goals
    go_wp2_with fail
    go_ret
    exact ⟨rfl, BEL.out⟩

end Go.Proofs.Ythhbjgecdhogoaa
