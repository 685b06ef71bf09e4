/- KnowJoins, walked. -/
import Derived.Test.YthhbjgecdhogoaaKnowC
import Derived.Test.YthhbjgecdhogoaaKnown
namespace Go.Proofs.Ythhbjgecdhogoaa
set_option linter.unusedVariables false
set_option linter.unusedSimpArgs false
open Go.RowKit

set_option maxRecDepth 100000 in
set_option maxHeartbeats 8000000 in
theorem knowJoins_calls (a b : Kn) (v v' : Value) (w : World) (hR : FrW w a.l v) (hM : FrW w b.l v') :
    Calls Try.prog 4 #[knV a.star v, knV b.star v'] w fun e w' => e = .returned (.bool true) ∧ Below w.heap.size w w' := by
  obtain ⟨ov, cv, rfl⟩ := hR.val
  obtain ⟨ov', cv', rfl⟩ := hM.val
  have UP := fun w' => Lib.hid (up7_calls w')
  have KA := fun w' h => Lib.hid (known_calls a (.slice ov a.l.length cv) w' h)
  have KB := fun w' h => Lib.hid (known_calls b (.slice ov' b.l.length cv') w' h)
  have OA := Lib.hid ((Has.new w (knA a.star (.slice ov a.l.length cv)) 26).alloc (.cells (knA b.star (.slice ov' b.l.length cv')) 26))
  have OB := Lib.hid ((Own.newAt (w.alloc (.cells (knA a.star (.slice ov a.l.length cv)) 26)) (knA b.star (.slice ov' b.l.length cv')) 26 (b := w.heap.size + 1) (by simp)).has)
  have BEL := Lib.hid (((Below.refl w.heap.size w).alloc (Nat.le_refl _) (.cells (knA a.star (.slice ov a.l.length cv)) 26)).alloc (by simp) (.cells (knA b.star (.slice ov' b.l.length cv')) 26))
  have LA := Lib.hid (hR.later BEL.out (Nat.le_refl _))
  have LB := Lib.hid (hM.later BEL.out (Nat.le_refl _))
  by_cases hkk : knownB a = false ∨ knownB b = false
  · have hz : ∃ x y : Int, knownI a = x ∧ knownI b = y ∧ ((x = 0 ∧ y = 0) ∨ (x = 0 ∧ y = 1) ∨ (x = 1 ∧ y = 0)) := by
      refine ⟨_, _, rfl, rfl, ?_⟩
      unfold knownI
      rcases hkk with h | h
      · rw [h]; cases knownB b <;> simp
      · rw [h]; cases knownB a <;> simp
    obtain ⟨x, y, hx, hy, hz⟩ := hz
    rw [hx] at KA
    rw [hy] at KB
    clear hkk hx hy hR hM
    generalize a.l.length = len at *
    generalize b.l.length = len' at *
    rcases hz with ⟨rfl, rfl⟩ | ⟨rfl, rfl⟩ | ⟨rfl, rfl⟩
    all_goals
      go_enter Try.func4, Try.ntmps4
      go_wp2_with (first
        | (go_at_call 6; refine (UP _).out.mono ?_; rintro e w3 ⟨rfl, hb⟩; replace OA := Lib.hid (OA.out.below hb OA.out.lt); replace OB := Lib.hid (OB.out.below hb OB.out.lt); replace LA := Lib.hid (LA.out.later hb (Nat.le_refl _)); replace LB := Lib.hid (LB.out.later hb (Nat.le_refl _)); replace BEL := Lib.hid (BEL.out.trans (hb.mono BEL.out.size)); clear hb)
        | fail)
      replace OA := Lib.hid (OA.out.drew)
      replace OB := Lib.hid (OB.out.drew)
      replace LA := Lib.hid (LA.out.later (Below.refl _ _).drew (Nat.le_refl _))
      replace LB := Lib.hid (LB.out.later (Below.refl _ _).drew (Nat.le_refl _))
      replace BEL := Lib.hid (BEL.out.drew)
      go_region_held3 (fun w' => (∀ o, w'.cell? ⟨w.heap.size, o, none⟩ = (knA a.star (.slice ov len cv))[o]?) ∧ ∀ o, w'.cell? ⟨w.heap.size + 1, o, none⟩ = (knA b.star (.slice ov' len' cv'))[o]?) (exact ⟨OA.out.cell, OB.out.cell⟩) (first
          | (go_simp; go_at_call_of 7 (Kn.star a); refine (KA _ LA.out).out.mono ?_; rintro e wa ⟨rfl, hb⟩; replace OA := Lib.hid (OA.out.below hb OA.out.lt); replace OB := Lib.hid (OB.out.below hb OB.out.lt); replace LA := Lib.hid (LA.out.later hb (Nat.le_refl _)); replace LB := Lib.hid (LB.out.later hb (Nat.le_refl _)); replace BEL := Lib.hid (BEL.out.trans (hb.mono BEL.out.size)); clear hb)
          | (go_simp; go_at_call_of 7 (Kn.star b); refine (KB _ LB.out).out.mono ?_; rintro e wb ⟨rfl, hb⟩; replace OA := Lib.hid (OA.out.below hb OA.out.lt); replace OB := Lib.hid (OB.out.below hb OB.out.lt); replace LA := Lib.hid (LA.out.later hb (Nat.le_refl _)); replace LB := Lib.hid (LB.out.later hb (Nat.le_refl _)); replace BEL := Lib.hid (BEL.out.trans (hb.mono BEL.out.size)); clear hb)
          | fail)
      all_goals
        go_wp2_with fail
        go_ret
        exact ⟨rfl, BEL.out⟩
  have hka : knownB a = true := by cases h : knownB a; exact absurd (.inl h) hkk; rfl
  have hkb : knownB b = true := by cases h : knownB b; exact absurd (.inr h) hkk; rfl
  have hxa : knownI a = 1 := by unfold knownI; rw [hka]; rfl
  have hxb : knownI b = 1 := by unfold knownI; rw [hkb]; rfl
  rw [hxa] at KA
  rw [hxb] at KB
  obtain ⟨a30, a18⟩ := known_flat hka
  obtain ⟨b30, b18⟩ := known_flat hkb
  have hfj : (flatI (a.l ++ b.l)).length ≤ 10000 := by
    have e : flatI (a.l ++ b.l) = flatI a.l ++ flatI b.l := by unfold flatI; simp
    rw [e, List.length_append]; omega
  have KJ := fun w' h h' => Lib.hid (knowJoin_calls a b (.slice ov a.l.length cv) (.slice ov' b.l.length cv') w' h h' hfj (by omega))
  have RJ := fun w' h h' => Lib.hid (refJoin_calls a b (.slice ov a.l.length cv) (.slice ov' b.l.length cv') w' h h' hfj (by omega))
  have KS := fun w' h h' => Lib.hid (knowSame_calls a b (.slice ov a.l.length cv) (.slice ov' b.l.length cv') w' h h' (by omega) (by omega))
  have RS := fun w' h h' => Lib.hid (refSameK_calls a b (.slice ov a.l.length cv) (.slice ov' b.l.length cv') w' h h' (by omega) (by omega))
  have A1 := fun va vb w' h h' => Lib.hid (show Calls Try.prog 8 #[knV (maxV a.star b.star) va, knV (maxV a.star b.star) vb] w' (fun e w'' => e = .returned (.bool true) ∧ Below w'.heap.size w' w'') by
    have := alike_calls (plainB (joinK a b)) (plainB (joinK a b)) va vb w' h h'
    rw [alike_refl] at this; exact this)
  clear hkk hka hkb hxa hxb hR hM a30 a18 b30 b18 hfj
  generalize a.l.length = len at *
  generalize b.l.length = len' at *
  generalize sameK a b = sm at *
  go_enter Try.func4, Try.ntmps4
  go_wp2_with (first
    | (go_at_call 6; refine (UP _).out.mono ?_; rintro e w3 ⟨rfl, hb⟩; replace OA := Lib.hid (OA.out.below hb OA.out.lt); replace OB := Lib.hid (OB.out.below hb OB.out.lt); replace LA := Lib.hid (LA.out.later hb (Nat.le_refl _)); replace LB := Lib.hid (LB.out.later hb (Nat.le_refl _)); replace BEL := Lib.hid (BEL.out.trans (hb.mono BEL.out.size)); clear hb)
    | fail)
  replace OA := Lib.hid (OA.out.drew)
  replace OB := Lib.hid (OB.out.drew)
  replace LA := Lib.hid (LA.out.later (Below.refl _ _).drew (Nat.le_refl _))
  replace LB := Lib.hid (LB.out.later (Below.refl _ _).drew (Nat.le_refl _))
  replace BEL := Lib.hid (BEL.out.drew)
  go_region_held3 (fun w' => (∀ o, w'.cell? ⟨w.heap.size, o, none⟩ = (knA a.star (.slice ov len cv))[o]?) ∧ ∀ o, w'.cell? ⟨w.heap.size + 1, o, none⟩ = (knA b.star (.slice ov' len' cv'))[o]?) (exact ⟨OA.out.cell, OB.out.cell⟩) (first
      | (go_simp; go_at_call_of 7 (Kn.star a); refine (KA _ LA.out).out.mono ?_; rintro e wa ⟨rfl, hb⟩; replace OA := Lib.hid (OA.out.below hb OA.out.lt); replace OB := Lib.hid (OB.out.below hb OB.out.lt); replace LA := Lib.hid (LA.out.later hb (Nat.le_refl _)); replace LB := Lib.hid (LB.out.later hb (Nat.le_refl _)); replace BEL := Lib.hid (BEL.out.trans (hb.mono BEL.out.size)); clear hb)
      | (go_simp; go_at_call_of 7 (Kn.star b); refine (KB _ LB.out).out.mono ?_; rintro e wb ⟨rfl, hb⟩; replace OA := Lib.hid (OA.out.below hb OA.out.lt); replace OB := Lib.hid (OB.out.below hb OB.out.lt); replace LA := Lib.hid (LA.out.later hb (Nat.le_refl _)); replace LB := Lib.hid (LB.out.later hb (Nat.le_refl _)); replace BEL := Lib.hid (BEL.out.trans (hb.mono BEL.out.size)); clear hb)
      | fail)
  go_wp2_with fail
  replace OA := Lib.hid (OA.out.drew)
  replace OB := Lib.hid (OB.out.drew)
  replace LA := Lib.hid (LA.out.later (Below.refl _ _).drew (Nat.le_refl _))
  replace LB := Lib.hid (LB.out.later (Below.refl _ _).drew (Nat.le_refl _))
  replace BEL := Lib.hid (BEL.out.drew)
  go_region_held3 (fun w' => (∀ o, w'.cell? ⟨w.heap.size, o, none⟩ = (knA a.star (.slice ov len cv))[o]?) ∧ ∀ o, w'.cell? ⟨w.heap.size + 1, o, none⟩ = (knA b.star (.slice ov' len' cv'))[o]?) (exact ⟨OA.out.cell, OB.out.cell⟩) (first
      | (go_simp; go_at_call 19; refine (KJ _ LA.out LB.out).out.mono ?_; rintro e wa ⟨va, rfl, hfa, hb⟩; obtain ⟨oa, ca, rfl⟩ := hfa.val; have LPA := Lib.hid hfa; replace OA := Lib.hid (OA.out.below hb OA.out.lt); replace OB := Lib.hid (OB.out.below hb OB.out.lt); replace LA := Lib.hid (LA.out.later hb (Nat.le_refl _)); replace LB := Lib.hid (LB.out.later hb (Nat.le_refl _)); replace BEL := Lib.hid (BEL.out.trans (hb.mono BEL.out.size)); (try replace LPB := Lib.hid (LPB.out.later hb (Nat.le_refl _))); clear hb; clear hfa)
      | (go_simp; go_at_call 20; refine (RJ _ LA.out LB.out).out.mono ?_; rintro e wb ⟨vb, rfl, hfb, hb⟩; replace hfb := hfb.fr; obtain ⟨ob, cb, rfl⟩ := hfb.val; have LPB := Lib.hid hfb; replace OA := Lib.hid (OA.out.below hb OA.out.lt); replace OB := Lib.hid (OB.out.below hb OB.out.lt); replace LA := Lib.hid (LA.out.later hb (Nat.le_refl _)); replace LB := Lib.hid (LB.out.later hb (Nat.le_refl _)); replace BEL := Lib.hid (BEL.out.trans (hb.mono BEL.out.size)); (try replace LPA := Lib.hid (LPA.out.later hb (Nat.le_refl _))); clear hb; clear hfb)
      | (go_simp; go_at_call 8; refine (A1 _ _ _ LPA.out LPB.out).out.mono ?_; rintro e wc ⟨rfl, hb⟩; replace OA := Lib.hid (OA.out.below hb OA.out.lt); replace OB := Lib.hid (OB.out.below hb OB.out.lt); replace LA := Lib.hid (LA.out.later hb (Nat.le_refl _)); replace LB := Lib.hid (LB.out.later hb (Nat.le_refl _)); replace BEL := Lib.hid (BEL.out.trans (hb.mono BEL.out.size)); clear hb)
      | fail)
  clear KJ RJ A1 LPA LPB
  go_wp2_with fail
  replace OA := Lib.hid (OA.out.drew)
  replace OB := Lib.hid (OB.out.drew)
  replace LA := Lib.hid (LA.out.later (Below.refl _ _).drew (Nat.le_refl _))
  replace LB := Lib.hid (LB.out.later (Below.refl _ _).drew (Nat.le_refl _))
  replace BEL := Lib.hid (BEL.out.drew)
  go_region_held3 (fun w' => (∀ o, w'.cell? ⟨w.heap.size, o, none⟩ = (knA a.star (.slice ov len cv))[o]?) ∧ ∀ o, w'.cell? ⟨w.heap.size + 1, o, none⟩ = (knA b.star (.slice ov' len' cv'))[o]?) (exact ⟨OA.out.cell, OB.out.cell⟩) (first
      | (go_simp; go_at_call 21; refine (KS _ LA.out LB.out).out.mono ?_; rintro e wa ⟨rfl, hb⟩; replace OA := Lib.hid (OA.out.below hb OA.out.lt); replace OB := Lib.hid (OB.out.below hb OB.out.lt); replace LA := Lib.hid (LA.out.later hb (Nat.le_refl _)); replace LB := Lib.hid (LB.out.later hb (Nat.le_refl _)); replace BEL := Lib.hid (BEL.out.trans (hb.mono BEL.out.size)); clear hb)
      | (go_simp; go_at_call 22; refine (RS _ LA.out LB.out).out.mono ?_; rintro e wb ⟨rfl, hb⟩; replace OA := Lib.hid (OA.out.below hb OA.out.lt); replace OB := Lib.hid (OB.out.below hb OB.out.lt); replace LA := Lib.hid (LA.out.later hb (Nat.le_refl _)); replace LB := Lib.hid (LB.out.later hb (Nat.le_refl _)); replace BEL := Lib.hid (BEL.out.trans (hb.mono BEL.out.size)); clear hb)
      | fail)
  all_goals
    go_wp2_with fail
    go_ret
    exact ⟨by simp, BEL.out⟩

end Go.Proofs.Ythhbjgecdhogoaa
