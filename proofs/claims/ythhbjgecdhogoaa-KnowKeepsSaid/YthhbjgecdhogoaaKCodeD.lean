/- The code's Same, May and Join of what is known, walked. -/
import Derived.Test.YthhbjgecdhogoaaKCodeB
import Derived.Test.YthhbjgecdhogoaaKFrag
import Derived.Deep.RegionHeld3
import Derived.Deep.RegionLaw
namespace Go.Proofs.Ythhbjgecdhogoaa
set_option linter.unusedVariables false
set_option linter.unusedSimpArgs false
open Go.RowKit

theorem knowPlain_calls (K : Kn) (v : Value) (w : World) (hR : FrW w K.l v) (hlen : (flatI K.l).length ≤ 10000) (hl2 : K.l.length ≤ 10000) :
    Calls Try.prog 9 #[knV K.star v] w fun e w' => ∃ v', e = .returned (knV K.star v') ∧ FrW w' (plainB K).l v' ∧ Below w.heap.size w w' := by
  refine (codePlain_calls K v w hR hlen).mono ?_
  rintro e w' ⟨v', rfl, hf, hb⟩
  exact ⟨v', rfl, hf.fr, hb⟩

/-! ### Same -/
set_option maxRecDepth 100000 in
set_option maxHeartbeats 4000000 in
theorem knowSame_calls (a b : Kn) (v v' : Value) (w : World) (hR : FrW w a.l v) (hM : FrW w b.l v') (hl1 : (flatI a.l).length ≤ 10000) (hl2 : (flatI b.l).length ≤ 10000) :
    Calls Try.prog 21 #[knV a.star v, knV b.star v'] w fun e w' => e = .returned (.bool (sameK a b)) ∧ Below w.heap.size w w' := by
  obtain ⟨ov, cv, rfl⟩ := hR.val
  obtain ⟨ov', cv', rfl⟩ := hM.val
  have OA := Lib.hid ((Own.newAt w (knA a.star (.slice ov a.l.length cv)) 26 (b := w.heap.size) (by first | rfl | simp)).alloc (.cells (knA b.star (.slice ov' b.l.length cv')) 26)).has
  have OB := Lib.hid (Own.newAt (w.alloc (.cells (knA a.star (.slice ov a.l.length cv)) 26)) (knA b.star (.slice ov' b.l.length cv')) 26 (b := w.heap.size + 1) (by first | rfl | simp)).has
  have BEL := Lib.hid (((Below.refl w.heap.size w).alloc (by first | exact Nat.le_refl _ | (simp; omega) | simp) (.cells (knA a.star (.slice ov a.l.length cv)) 26)).alloc (by first | exact Nat.le_refl _ | (simp; omega) | simp) (.cells (knA b.star (.slice ov' b.l.length cv')) 26))
  have LA := Lib.hid (hR.later BEL.out (Nat.le_refl _))
  have LB := Lib.hid (hM.later BEL.out (Nat.le_refl _))
  have PA := fun w' h => Lib.hid (codePlain_calls a (.slice ov a.l.length cv) w' h hl1)
  have PB := fun w' h => Lib.hid (codePlain_calls b (.slice ov' b.l.length cv') w' h hl2)
  have EQ := fun va vb w' h h' => Lib.hid (show Calls Try.prog 40 #[knV a.star va, knV b.star vb] w' (fun e w'' => e = .returned (.bool (sameK a b)) ∧ Below w'.heap.size w' w'') from kEqual_calls (plainB a) (plainB b) va vb w' h h')
  clear hR hM hl1 hl2
  generalize sameK a b = sm at *
  generalize (plainB a).l = ra at *
  generalize (plainB b).l = rb at *
  generalize a.l.length = len at *
  generalize b.l.length = len' at *
  go_enter Try.func21, Try.ntmps21
  go_wp2_with fail
  replace OA := Lib.hid (OA.out.drew)
  replace OB := Lib.hid (OB.out.drew)
  replace LA := Lib.hid (LA.out.later (Below.refl _ _).drew (Nat.le_refl _))
  replace LB := Lib.hid (LB.out.later (Below.refl _ _).drew (Nat.le_refl _))
  replace BEL := Lib.hid (BEL.out.drew)
  go_region_held3 (fun w' => (∀ o, w'.cell? ⟨w.heap.size, o, none⟩ = (knA a.star (.slice ov len cv))[o]?) ∧ ∀ o, w'.cell? ⟨w.heap.size + 1, o, none⟩ = (knA b.star (.slice ov' len' cv'))[o]?) (exact ⟨OA.out.cell, OB.out.cell⟩) (first
      | (go_simp; go_at_call_of 9 (Kn.star a); refine (PA _ LA.out).out.mono ?_; rintro e wa ⟨va, rfl, hfa, hb⟩; obtain ⟨oa, ca, rfl⟩ := hfa.fr.val; have FA := Lib.hid hfa.fr; replace OA := Lib.hid (OA.out.below hb OA.out.lt); replace OB := Lib.hid (OB.out.below hb OB.out.lt); replace LB := Lib.hid (LB.out.later hb (Nat.le_refl _)); replace BEL := Lib.hid (BEL.out.trans (hb.mono BEL.out.size)); clear hb hfa)
      | (go_simp; go_at_call_of 9 (Kn.star b); refine (PB _ LB.out).out.mono ?_; rintro e wb ⟨vb, rfl, hfb, hb⟩; obtain ⟨ob, cb, rfl⟩ := hfb.fr.val; have FB := Lib.hid hfb.fr; replace FA := Lib.hid (FA.out.later hb (Nat.le_refl _)); replace OA := Lib.hid (OA.out.below hb OA.out.lt); replace OB := Lib.hid (OB.out.below hb OB.out.lt); replace BEL := Lib.hid (BEL.out.trans (hb.mono BEL.out.size)); clear hb hfb)
      | (go_simp; go_at_call 40; refine (EQ _ _ _ FA.out FB.out).out.mono ?_; rintro e wc ⟨rfl, hb⟩; replace OA := Lib.hid (OA.out.below hb OA.out.lt); replace OB := Lib.hid (OB.out.below hb OB.out.lt); replace BEL := Lib.hid (BEL.out.trans (hb.mono BEL.out.size)); clear hb)
      | fail)
  all_goals
    go_wp2_with fail
    go_ret
    exact ⟨rfl, BEL.out⟩

/-! ### May -/
theorem not_odd (l : List Fr) : (!(l.any oddB)) = l.all (mayFr nameB) := by
  rw [List.not_any_eq_all_not]
  congr 1
  funext f
  unfold oddB mayFr
  rw [Bool.not_or, Bool.not_not, List.not_any_eq_all_not]
  congr 1
  congr 1
  funext s
  rw [Bool.not_not]
set_option maxRecDepth 100000 in
set_option maxHeartbeats 4000000 in
theorem knowMay_calls (nm : ByteArray → Bool) (hnm : nm = nameB) (a : Kn) (v : Value) (w : World) (hR : FrW w a.l v) (hl1 : (flatI a.l).length ≤ 10000) :
    Calls Try.prog 17 #[knV a.star v] w fun e w' => e = .returned (.bool (mayK nm a)) ∧ Below w.heap.size w w' := by
  subst hnm
  obtain ⟨ov, cv, rfl⟩ := hR.val
  have OA := Lib.hid (Own.newAt w (knA a.star (.slice ov a.l.length cv)) 26 (b := w.heap.size) (by first | rfl | simp)).has
  have BEL := Lib.hid ((Below.refl w.heap.size w).alloc (by first | exact Nat.le_refl _ | (simp; omega) | simp) (.cells (knA a.star (.slice ov a.l.length cv)) 26))
  have LA := Lib.hid (hR.later BEL.out (Nat.le_refl _))
  have PA := fun w' h => Lib.hid (codePlain_calls a (.slice ov a.l.length cv) w' h hl1)
  have EQ := fun va vb w' h h' => Lib.hid (show Calls Try.prog 40 #[knV a.star va, knV a.star vb] w' (fun e w'' => e = .returned (.bool (alikeK a (plainB a))) ∧ Below w'.heap.size w' w'') from kEqual_calls a (plainB a) va vb w' h h')
  have MV := fun w' => Lib.hid (vecMay_calls a.star w')
  have CD := fun w' h => Lib.hid (containsD_calls oddB a.l (.slice ov a.l.length cv) w' h fun w' hb k f u hf hu => odd_calls f u w' hu)
  have e : mayK nameB a = ((mayV a.star && !(a.l.any oddB)) && alikeK a (plainB a)) := by
    unfold mayK
    rw [not_odd]
    cases mayV a.star <;> cases alikeK a (plainB a) <;> cases a.l.all (mayFr nameB) <;> rfl
  rw [e]
  clear e hR hl1
  generalize alikeK a (plainB a) = al at *
  generalize (plainB a).l = ra at *
  generalize a.l.length = len at *
  generalize a.l.any oddB = od at *
  cases hm : mayV a.star
  · rw [hm] at MV
    go_enter Try.func17, Try.ntmps17
    go_wp2_with fail
    replace OA := Lib.hid (OA.out.drew)
    replace BEL := Lib.hid (BEL.out.drew)
    have l1 := OA.out.cell
    have z1 := OA.out.lt
    first | (go_region_law (first
        | (go_simp; go_at_call 38; refine (MV _).out.mono ?_; rintro e wa ⟨rfl, hb⟩; have BELa := Lib.hid (BEL.out.trans (hb.mono BEL.out.size)); clear hb)
        | fail)) | fail
    all_goals
      go_wp2_with fail
      go_ret
      exact ⟨rfl, BELa.out⟩
  · rw [hm] at MV
    cases hod : od
    · subst hod
      go_enter Try.func17, Try.ntmps17
      go_wp2_with fail
      replace OA := Lib.hid (OA.out.drew)
      replace LA := Lib.hid (LA.out.later (Below.refl _ _).drew (Nat.le_refl _))
      replace BEL := Lib.hid (BEL.out.drew)
      first | (go_region_held3 (fun w' => ∀ o, w'.cell? ⟨w.heap.size, o, none⟩ = (knA a.star (.slice ov len cv))[o]?) (exact OA.out.cell) (first
          | (go_simp; go_at_call 38; refine (MV _).out.mono ?_; rintro e wa ⟨rfl, hb⟩; replace OA := Lib.hid (OA.out.below hb OA.out.lt); replace LA := Lib.hid (LA.out.later hb (Nat.le_refl _)); replace BEL := Lib.hid (BEL.out.trans (hb.mono BEL.out.size)); clear hb)
          | (go_simp; go_at_call 33; refine (CD _ LA.out).out.mono ?_; rintro e wb ⟨rfl, hb⟩; replace OA := Lib.hid (OA.out.below hb OA.out.lt); replace LA := Lib.hid (LA.out.later hb (Nat.le_refl _)); replace BEL := Lib.hid (BEL.out.trans (hb.mono BEL.out.size)); clear hb)
          | (go_simp; go_at_call 9; refine (PA _ LA.out).out.mono ?_; rintro e wc ⟨va, rfl, hfa, hb⟩; obtain ⟨oa, ca, rfl⟩ := hfa.fr.val; have FA := Lib.hid hfa.fr; replace OA := Lib.hid (OA.out.below hb OA.out.lt); replace LA := Lib.hid (LA.out.later hb (Nat.le_refl _)); replace BEL := Lib.hid (BEL.out.trans (hb.mono BEL.out.size)); clear hb hfa)
          | (go_simp; go_at_call 40; refine (EQ _ _ _ LA.out FA.out).out.mono ?_; rintro e wd ⟨rfl, hb⟩; replace OA := Lib.hid (OA.out.below hb OA.out.lt); replace BEL := Lib.hid (BEL.out.trans (hb.mono BEL.out.size)); clear hb)
          | fail)) | fail
      all_goals
        go_wp2_with fail
        go_ret
        exact ⟨rfl, BEL.out⟩
    · subst hod
      go_enter Try.func17, Try.ntmps17
      go_wp2_with fail
      replace OA := Lib.hid (OA.out.drew)
      replace LA := Lib.hid (LA.out.later (Below.refl _ _).drew (Nat.le_refl _))
      replace BEL := Lib.hid (BEL.out.drew)
      have l1 := OA.out.cell
      have z1 := OA.out.lt
      first | (go_region_law (first
          | (go_simp; go_at_call 38; refine (MV _).out.mono ?_; rintro e wa ⟨rfl, hb⟩; have OAa := Lib.hid (OA.out.below hb OA.out.lt); have LAa := Lib.hid (LA.out.later hb (Nat.le_refl _)); have BELa := Lib.hid (BEL.out.trans (hb.mono BEL.out.size)); have la := OAa.out.cell; have za := OAa.out.lt; clear hb)
          | (go_simp; go_at_call 33; refine (CD _ LAa.out).out.mono ?_; rintro e wb ⟨rfl, hb⟩; have BELb := Lib.hid (BELa.out.trans (hb.mono BELa.out.size)); clear hb)
          | fail)) | fail
      all_goals
        go_wp2_with fail
        go_ret
        exact ⟨rfl, BELb.out⟩

end Go.Proofs.Ythhbjgecdhogoaa
