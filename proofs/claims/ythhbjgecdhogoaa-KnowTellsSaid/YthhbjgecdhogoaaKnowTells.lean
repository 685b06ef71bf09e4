/- KnowTells, walked. -/
import Derived.Test.YthhbjgecdhogoaaKnowC
import Derived.Test.YthhbjgecdhogoaaKnown
namespace Go.Proofs.Ythhbjgecdhogoaa
set_option linter.unusedVariables false
set_option linter.unusedSimpArgs false
open Go.RowKit

set_option maxRecDepth 100000 in
set_option maxHeartbeats 8000000 in
theorem knowTells_calls (nm : ByteArray → Bool) (hnm : nm = nameB) (HNM : ∀ (s : ByteArray) (w : World), s.size ≤ maxLen → Calls Try.prog 42 #[.string s] w fun e w' => e = .returned (.bool (nm s)) ∧ w = w')
    (K : Kn) (v : Value) (id : ByteArray) (r c : Int) (w : World) (hR : FrW w K.l v) (hid : id.size ≤ maxLen) (hcw : c ≤ 9223372036854775807) :
    Calls Try.prog 3 #[knV K.star v, .string id, .agg #[.int .i64 r, .int .i64 c]] w fun e w' => e = .returned (.bool true) ∧ Below w.heap.size w w' := by
  obtain ⟨ov, cv, rfl⟩ := hR.val
  have UP := fun w' => Lib.hid (up7_calls w')
  have KN := fun w' h => Lib.hid (known_calls K (.slice ov K.l.length cv) w' h)
  have OA := Lib.hid ((Has.new w (knA K.star (.slice ov K.l.length cv)) 26).alloc (.cells #[.int .i64 r, .int .i64 c] 28))
  have OX := Lib.hid ((Own.newAt (w.alloc (.cells (knA K.star (.slice ov K.l.length cv)) 26)) #[.int .i64 r, .int .i64 c] 28 (b := w.heap.size + 1) (by simp)).has)
  have BEL := Lib.hid (((Below.refl w.heap.size w).alloc (Nat.le_refl _) (.cells (knA K.star (.slice ov K.l.length cv)) 26)).alloc (by simp) (.cells #[.int .i64 r, .int .i64 c] 28))
  have LA := Lib.hid (hR.later BEL.out (Nat.le_refl _))
  cases hk : knownB K
  · have hki : knownI K = 0 := by unfold knownI; rw [hk]; rfl
    rw [hki] at KN
    clear hk hki hR hnm HNM
    generalize K.l.length = len at *
    go_enter Try.func3, Try.ntmps3
    go_wp2_with (first
      | (go_at_call 6; refine (UP _).out.mono ?_; rintro e w3 ⟨rfl, hb⟩; replace OA := Lib.hid (OA.out.below hb OA.out.lt); replace LA := Lib.hid (LA.out.later hb (Nat.le_refl _)); replace BEL := Lib.hid (BEL.out.trans (hb.mono BEL.out.size)); have lA := OA.out.cell; have zA := OA.out.lt; clear hb)
      | (go_at_call 7; refine (KN _ LA.out).out.mono ?_; rintro e w4 ⟨rfl, hb⟩; replace BEL := Lib.hid (BEL.out.trans (hb.mono BEL.out.size)); clear hb lA zA)
      | fail)
    go_ret
    exact ⟨rfl, BEL.out⟩
  have hki : knownI K = 1 := by unfold knownI; rw [hk]; rfl
  rw [hki] at KN
  obtain ⟨h30, h18⟩ := known_flat hk
  have hfw : (flatI (withK K id r c).l).length ≤ 10000 := by
    have e : flatI (withK K id r c).l = flatI K.l ++ [id] := by unfold withK flatI; simp
    rw [e, List.length_append]; simp; omega
  have KP := fun w' h => Lib.hid (knowPlain_calls K (.slice ov K.l.length cv) w' h (by omega) (by omega))
  have RP := fun w' h => Lib.hid (refPlainK_calls K (.slice ov K.l.length cv) w' h (by omega))
  have KW := fun w' h => Lib.hid (knowWith_calls K id r c (.slice ov K.l.length cv) w' h hid hfw (by omega))
  have RW := fun w' h => Lib.hid (refWithK_calls K id r c (.slice ov K.l.length cv) w' h hid hfw (by omega))
  have KO := fun w' h => Lib.hid (knowOwn_calls K id r c (.slice ov K.l.length cv) w' h hid hfw (by omega) (by omega) hcw)
  have RO := fun w' h => Lib.hid (refOwnK_calls K id r c (.slice ov K.l.length cv) w' h hid hfw (by omega) (by omega) hcw)
  have KH := fun w' h => Lib.hid (knowHas_calls K id r c (.slice ov K.l.length cv) w' h hid)
  have RH := fun w' h => Lib.hid (refHasK_calls K id r c (.slice ov K.l.length cv) w' h)
  have KM := fun w' h => Lib.hid (knowMay_calls nm hnm K (.slice ov K.l.length cv) w' h (by omega))
  have RM := fun w' h => Lib.hid (refMayK_calls nm HNM K (.slice ov K.l.length cv) w' h (by omega))
  have A1 := fun va vb w' h h' => Lib.hid (show Calls Try.prog 8 #[knV K.star va, knV K.star vb] w' (fun e w'' => e = .returned (.bool true) ∧ Below w'.heap.size w' w'') by
    have := alike_calls (plainB K) (plainB K) va vb w' h h'
    rw [alike_refl] at this; exact this)
  have A2 := fun va vb w' h h' => Lib.hid (show Calls Try.prog 8 #[knV K.star va, knV K.star vb] w' (fun e w'' => e = .returned (.bool true) ∧ Below w'.heap.size w' w'') by
    have := alike_calls (plainB (withK K id r c)) (plainB (withK K id r c)) va vb w' h h'
    rw [alike_refl] at this; exact this)
  have A3 := fun va vb w' h h' => Lib.hid (show Calls Try.prog 8 #[knV (ownK K id r c).star va, knV (ownK K id r c).star vb] w' (fun e w'' => e = .returned (.bool true) ∧ Below w'.heap.size w' w'') by
    have := alike_calls (plainB (ownK K id r c)) (plainB (ownK K id r c)) va vb w' h h'
    rw [alike_refl] at this; exact this)
  clear hk hki hR hnm HNM hid hcw h30 h18 hfw
  generalize K.l.length = len at *
  generalize hasK K id r c = hs at *
  generalize mayK nm K = my at *
  go_enter Try.func3, Try.ntmps3
  go_wp2_with (first
    | (go_at_call 6; refine (UP _).out.mono ?_; rintro e w3 ⟨rfl, hb⟩; replace OA := Lib.hid (OA.out.below hb OA.out.lt); replace OX := Lib.hid (OX.out.below hb OX.out.lt); replace LA := Lib.hid (LA.out.later hb (Nat.le_refl _)); replace BEL := Lib.hid (BEL.out.trans (hb.mono BEL.out.size)); have lA := OA.out.cell; have zA := OA.out.lt; clear hb)
    | (go_at_call 7; refine (KN _ LA.out).out.mono ?_; rintro e w4 ⟨rfl, hb⟩; replace OA := Lib.hid (OA.out.below hb OA.out.lt); replace OX := Lib.hid (OX.out.below hb OX.out.lt); replace LA := Lib.hid (LA.out.later hb (Nat.le_refl _)); replace BEL := Lib.hid (BEL.out.trans (hb.mono BEL.out.size)); clear hb lA zA)
    | fail)
  clear UP KN
  replace OA := Lib.hid (OA.out.drew)
  replace OX := Lib.hid (OX.out.drew)
  replace LA := Lib.hid (LA.out.later (Below.refl _ _).drew (Nat.le_refl _))
  replace BEL := Lib.hid (BEL.out.drew)
  go_region_held3 (fun w' => (∀ o, w'.cell? ⟨w.heap.size, o, none⟩ = (knA K.star (.slice ov len cv))[o]?) ∧ ∀ o, w'.cell? ⟨w.heap.size + 1, o, none⟩ = (#[.int .i64 r, .int .i64 c] : Array Value)[o]?) (exact ⟨OA.out.cell, OX.out.cell⟩) (first
      | (go_simp; go_at_call 9; refine (KP _ LA.out).out.mono ?_; rintro e wa ⟨va, rfl, hfa, hb⟩; obtain ⟨oa, ca, rfl⟩ := hfa.val; have LPA := Lib.hid hfa; replace OA := Lib.hid (OA.out.below hb OA.out.lt); replace OX := Lib.hid (OX.out.below hb OX.out.lt); replace LA := Lib.hid (LA.out.later hb (Nat.le_refl _)); replace BEL := Lib.hid (BEL.out.trans (hb.mono BEL.out.size)); (try replace LPB := Lib.hid (LPB.out.later hb (Nat.le_refl _))); clear hb; clear hfa)
      | (go_simp; go_at_call 10; refine (RP _ LA.out).out.mono ?_; rintro e wb ⟨vb, rfl, hfb, hb⟩; replace hfb := hfb.fr; obtain ⟨ob, cb, rfl⟩ := hfb.val; have LPB := Lib.hid hfb; replace OA := Lib.hid (OA.out.below hb OA.out.lt); replace OX := Lib.hid (OX.out.below hb OX.out.lt); replace LA := Lib.hid (LA.out.later hb (Nat.le_refl _)); replace BEL := Lib.hid (BEL.out.trans (hb.mono BEL.out.size)); (try replace LPA := Lib.hid (LPA.out.later hb (Nat.le_refl _))); clear hb; clear hfb)
      | (go_simp; go_at_call 8; refine (A1 _ _ _ LPA.out LPB.out).out.mono ?_; rintro e wc ⟨rfl, hb⟩; replace OA := Lib.hid (OA.out.below hb OA.out.lt); replace OX := Lib.hid (OX.out.below hb OX.out.lt); replace LA := Lib.hid (LA.out.later hb (Nat.le_refl _)); replace BEL := Lib.hid (BEL.out.trans (hb.mono BEL.out.size)); clear hb)
      | fail)
  clear KP RP A1 LPA LPB
  go_wp2_with fail
  replace OA := Lib.hid (OA.out.drew)
  replace OX := Lib.hid (OX.out.drew)
  replace LA := Lib.hid (LA.out.later (Below.refl _ _).drew (Nat.le_refl _))
  replace BEL := Lib.hid (BEL.out.drew)
  go_region_held3 (fun w' => (∀ o, w'.cell? ⟨w.heap.size, o, none⟩ = (knA K.star (.slice ov len cv))[o]?) ∧ ∀ o, w'.cell? ⟨w.heap.size + 1, o, none⟩ = (#[.int .i64 r, .int .i64 c] : Array Value)[o]?) (exact ⟨OA.out.cell, OX.out.cell⟩) (first
      | (go_simp; go_at_call 11; refine (KW _ LA.out).out.mono ?_; rintro e wa ⟨va, rfl, hfa, hb⟩; obtain ⟨oa, ca, rfl⟩ := hfa.val; have LPA := Lib.hid hfa; replace OA := Lib.hid (OA.out.below hb OA.out.lt); replace OX := Lib.hid (OX.out.below hb OX.out.lt); replace LA := Lib.hid (LA.out.later hb (Nat.le_refl _)); replace BEL := Lib.hid (BEL.out.trans (hb.mono BEL.out.size)); (try replace LPB := Lib.hid (LPB.out.later hb (Nat.le_refl _))); clear hb; clear hfa)
      | (go_simp; go_at_call 12; refine (RW _ LA.out).out.mono ?_; rintro e wb ⟨vb, rfl, hfb, hb⟩; replace hfb := hfb.fr; obtain ⟨ob, cb, rfl⟩ := hfb.val; have LPB := Lib.hid hfb; replace OA := Lib.hid (OA.out.below hb OA.out.lt); replace OX := Lib.hid (OX.out.below hb OX.out.lt); replace LA := Lib.hid (LA.out.later hb (Nat.le_refl _)); replace BEL := Lib.hid (BEL.out.trans (hb.mono BEL.out.size)); (try replace LPA := Lib.hid (LPA.out.later hb (Nat.le_refl _))); clear hb; clear hfb)
      | (go_simp; go_at_call 8; refine (A2 _ _ _ LPA.out LPB.out).out.mono ?_; rintro e wc ⟨rfl, hb⟩; replace OA := Lib.hid (OA.out.below hb OA.out.lt); replace OX := Lib.hid (OX.out.below hb OX.out.lt); replace LA := Lib.hid (LA.out.later hb (Nat.le_refl _)); replace BEL := Lib.hid (BEL.out.trans (hb.mono BEL.out.size)); clear hb)
      | fail)
  clear KW RW A2 LPA LPB
  go_wp2_with fail
  replace OA := Lib.hid (OA.out.drew)
  replace OX := Lib.hid (OX.out.drew)
  replace LA := Lib.hid (LA.out.later (Below.refl _ _).drew (Nat.le_refl _))
  replace BEL := Lib.hid (BEL.out.drew)
  go_region_held3 (fun w' => (∀ o, w'.cell? ⟨w.heap.size, o, none⟩ = (knA K.star (.slice ov len cv))[o]?) ∧ ∀ o, w'.cell? ⟨w.heap.size + 1, o, none⟩ = (#[.int .i64 r, .int .i64 c] : Array Value)[o]?) (exact ⟨OA.out.cell, OX.out.cell⟩) (first
      | (go_simp; go_at_call 13; refine (KO _ LA.out).out.mono ?_; rintro e wa ⟨va, rfl, hfa, hb⟩; obtain ⟨oa, ca, rfl⟩ := hfa.val; have LPA := Lib.hid hfa; replace OA := Lib.hid (OA.out.below hb OA.out.lt); replace OX := Lib.hid (OX.out.below hb OX.out.lt); replace LA := Lib.hid (LA.out.later hb (Nat.le_refl _)); replace BEL := Lib.hid (BEL.out.trans (hb.mono BEL.out.size)); (try replace LPB := Lib.hid (LPB.out.later hb (Nat.le_refl _))); clear hb; clear hfa)
      | (go_simp; go_at_call 14; refine (RO _ LA.out).out.mono ?_; rintro e wb ⟨vb, rfl, hfb, hb⟩; replace hfb := hfb.fr; obtain ⟨ob, cb, rfl⟩ := hfb.val; have LPB := Lib.hid hfb; replace OA := Lib.hid (OA.out.below hb OA.out.lt); replace OX := Lib.hid (OX.out.below hb OX.out.lt); replace LA := Lib.hid (LA.out.later hb (Nat.le_refl _)); replace BEL := Lib.hid (BEL.out.trans (hb.mono BEL.out.size)); (try replace LPA := Lib.hid (LPA.out.later hb (Nat.le_refl _))); clear hb; clear hfb)
      | (go_simp; go_at_call 8; refine (A3 _ _ _ LPA.out LPB.out).out.mono ?_; rintro e wc ⟨rfl, hb⟩; replace OA := Lib.hid (OA.out.below hb OA.out.lt); replace OX := Lib.hid (OX.out.below hb OX.out.lt); replace LA := Lib.hid (LA.out.later hb (Nat.le_refl _)); replace BEL := Lib.hid (BEL.out.trans (hb.mono BEL.out.size)); clear hb)
      | fail)
  clear KO RO A3 LPA LPB
  go_wp2_with fail
  replace OA := Lib.hid (OA.out.drew)
  replace OX := Lib.hid (OX.out.drew)
  replace LA := Lib.hid (LA.out.later (Below.refl _ _).drew (Nat.le_refl _))
  replace BEL := Lib.hid (BEL.out.drew)
  go_region_held3 (fun w' => (∀ o, w'.cell? ⟨w.heap.size, o, none⟩ = (knA K.star (.slice ov len cv))[o]?) ∧ ∀ o, w'.cell? ⟨w.heap.size + 1, o, none⟩ = (#[.int .i64 r, .int .i64 c] : Array Value)[o]?) (exact ⟨OA.out.cell, OX.out.cell⟩) (first
      | (go_simp; go_at_call 15; refine (KH _ LA.out).out.mono ?_; rintro e wa ⟨rfl, hb⟩; replace OA := Lib.hid (OA.out.below hb OA.out.lt); replace OX := Lib.hid (OX.out.below hb OX.out.lt); replace LA := Lib.hid (LA.out.later hb (Nat.le_refl _)); replace BEL := Lib.hid (BEL.out.trans (hb.mono BEL.out.size)); clear hb)
      | (go_simp; go_at_call 16; refine (RH _ LA.out).out.mono ?_; rintro e wb ⟨rfl, hb⟩; replace OA := Lib.hid (OA.out.below hb OA.out.lt); replace OX := Lib.hid (OX.out.below hb OX.out.lt); replace LA := Lib.hid (LA.out.later hb (Nat.le_refl _)); replace BEL := Lib.hid (BEL.out.trans (hb.mono BEL.out.size)); clear hb)
      | (go_simp; go_at_call 17; refine (KM _ LA.out).out.mono ?_; rintro e wc ⟨rfl, hb⟩; replace OA := Lib.hid (OA.out.below hb OA.out.lt); replace OX := Lib.hid (OX.out.below hb OX.out.lt); replace LA := Lib.hid (LA.out.later hb (Nat.le_refl _)); replace BEL := Lib.hid (BEL.out.trans (hb.mono BEL.out.size)); clear hb)
      | (go_simp; go_at_call 18; refine (RM _ LA.out).out.mono ?_; rintro e wd ⟨rfl, hb⟩; replace OA := Lib.hid (OA.out.below hb OA.out.lt); replace OX := Lib.hid (OX.out.below hb OX.out.lt); replace LA := Lib.hid (LA.out.later hb (Nat.le_refl _)); replace BEL := Lib.hid (BEL.out.trans (hb.mono BEL.out.size)); clear hb)
      | fail)
  all_goals
    go_wp2_with fail
    go_ret
    exact ⟨by simp, BEL.out⟩

end Go.Proofs.Ythhbjgecdhogoaa
