/- KnowKeeps, walked. -/
import Derived.Test.YthhbjgecdhogoaaKnowC
import Derived.Test.YthhbjgecdhogoaaKnown
namespace Go.Proofs.Ythhbjgecdhogoaa
set_option linter.unusedVariables false
set_option linter.unusedSimpArgs false
open Go.RowKit

theorem put_flat (v : Nat → Int) (id : ByteArray) : ∀ o : List Fr, (flatI (putF v id o)).length = (flatI o).length + 1
  | [] => by simp [putF, flatI]
  | q :: o => by
    rw [putF]
    split
    · simp [flatI]; omega
    · have := put_flat v id o
      have e : ∀ (x : Fr) (l : List Fr), flatI (x :: l) = x.ids ++ flatI l := fun _ _ => rfl
      rw [e, e, List.length_append, List.length_append, this]; omega
theorem grp_flat (F : ByteArray → Nat → Int) (l : List ByteArray) : ∀ o : List Fr, (flatI (l.foldl (grpStep F) o)).length ≤ (flatI o).length + l.length := by
  induction l with
  | nil => intro o; simp
  | cons a l ih =>
    intro o
    rw [List.foldl_cons]
    have h1 := ih (grpStep F o a)
    have h2 : (flatI (grpStep F o a)).length ≤ (flatI o).length + 1 := by
      unfold grpStep; split
      · omega
      · rw [put_flat]; exact Nat.le_refl _
    simp only [List.length_cons]; omega
theorem plain_flat (K : Kn) : (flatI (plainB K).l).length ≤ (flatI K.l).length ∧ (plainB K).l.length ≤ (flatI K.l).length := by
  have h1 := grp_flat (beyB K) (namesB K) []
  have h2 := grp_len (beyB K) (namesB K) []
  have h3 := len_all (flatI K.l)
  have e : (flatI ([] : List Fr)).length = 0 := rfl
  rw [e] at h1
  simp only [List.length_nil] at h2
  unfold plainB grpF
  unfold namesB at *
  simp only
  omega
theorem flat_app (l m : List Fr) : (flatI (l ++ m)).length = (flatI l).length + (flatI m).length := by
  have e : flatI (l ++ m) = flatI l ++ flatI m := by unfold flatI; simp
  rw [e, List.length_append]

set_option maxRecDepth 100000 in
set_option maxHeartbeats 16000000 in
theorem knowKeeps_calls (a b : Kn) (v v' : Value) (id : ByteArray) (r c : Int) (other : ByteArray) (r' c' : Int) (w : World) (hR : FrW w a.l v) (hM : FrW w b.l v') (hid : id.size ≤ maxLen) (hot : other.size ≤ maxLen) (hcw : c ≤ 9223372036854775807) :
    Calls Try.prog 5 #[knV a.star v, knV b.star v', .string id, .agg #[.int .i64 r, .int .i64 c], .string other, .agg #[.int .i64 r', .int .i64 c']] w fun e w' => e = .returned (.bool true) ∧ Below w.heap.size w w' := by
  obtain ⟨ov, cv, rfl⟩ := hR.val
  obtain ⟨ov', cv', rfl⟩ := hM.val
  have UP := fun w' => Lib.hid (up7_calls w')
  have KA := fun w' h => Lib.hid (known_calls a (.slice ov a.l.length cv) w' h)
  have KB := fun w' h => Lib.hid (known_calls b (.slice ov' b.l.length cv') w' h)
  have OA := Lib.hid ((((Has.new w (knA a.star (.slice ov a.l.length cv)) 26).alloc (.cells (knA b.star (.slice ov' b.l.length cv')) 26)).alloc (.cells #[.int .i64 r, .int .i64 c] 28)).alloc (.cells #[.int .i64 r', .int .i64 c'] 28))
  have OB := Lib.hid ((((Own.newAt (w.alloc (.cells (knA a.star (.slice ov a.l.length cv)) 26)) (knA b.star (.slice ov' b.l.length cv')) 26 (b := w.heap.size + 1) (by simp)).has).alloc (.cells #[.int .i64 r, .int .i64 c] 28)).alloc (.cells #[.int .i64 r', .int .i64 c'] 28))
  have OX := Lib.hid (((Own.newAt ((w.alloc (.cells (knA a.star (.slice ov a.l.length cv)) 26)).alloc (.cells (knA b.star (.slice ov' b.l.length cv')) 26)) #[.int .i64 r, .int .i64 c] 28 (b := w.heap.size + 1 + 1) (by simp)).has).alloc (.cells #[.int .i64 r', .int .i64 c'] 28))
  have OY := Lib.hid ((Own.newAt (((w.alloc (.cells (knA a.star (.slice ov a.l.length cv)) 26)).alloc (.cells (knA b.star (.slice ov' b.l.length cv')) 26)).alloc (.cells #[.int .i64 r, .int .i64 c] 28)) #[.int .i64 r', .int .i64 c'] 28 (b := w.heap.size + 1 + 1 + 1) (by simp)).has)
  have BEL := Lib.hid (((((Below.refl w.heap.size w).alloc (Nat.le_refl _) (.cells (knA a.star (.slice ov a.l.length cv)) 26)).alloc (by simp) (.cells (knA b.star (.slice ov' b.l.length cv')) 26)).alloc (by simp; omega) (.cells #[.int .i64 r, .int .i64 c] 28)).alloc (by simp; omega) (.cells #[.int .i64 r', .int .i64 c'] 28))
  have LA := Lib.hid (hR.later BEL.out (Nat.le_refl _))
  have LB := Lib.hid (hM.later BEL.out (Nat.le_refl _))
  by_cases hkk : knownB a = false ∨ knownB b = false
  · have hz : ∃ x y : Int, knownI a = x ∧ knownI b = y ∧ ((x = 0 ∧ y = 0) ∨ (x = 0 ∧ y = 1) ∨ (x = 1 ∧ y = 0)) := by
      refine ⟨_, _, rfl, rfl, ?_⟩
      unfold knownI
      rcases hkk with h | h
      · rw [h]; cases knownB b <;> simp
      · rw [h]; cases knownB a <;> simp
    obtain ⟨x, y, hx, hy, hz⟩ := hz
    rw [hx] at KA
    rw [hy] at KB
    clear hkk hx hy hR hM
    obtain ⟨SA, la⟩ := a
    obtain ⟨SB, lb⟩ := b
    simp only at *
    generalize la.length = len at *
    generalize lb.length = len' at *
    rcases hz with ⟨rfl, rfl⟩ | ⟨rfl, rfl⟩ | ⟨rfl, rfl⟩
    all_goals
      go_enter Try.func5, Try.ntmps5
      go_wp2_with (first
        | (go_at_call 6; refine (UP _).out.mono ?_; rintro e w3 ⟨rfl, hb⟩; replace OA := Lib.hid (OA.out.below hb OA.out.lt); replace OB := Lib.hid (OB.out.below hb OB.out.lt); replace OX := Lib.hid (OX.out.below hb OX.out.lt); replace OY := Lib.hid (OY.out.below hb OY.out.lt); replace LA := Lib.hid (LA.out.later hb (Nat.le_refl _)); replace LB := Lib.hid (LB.out.later hb (Nat.le_refl _)); replace BEL := Lib.hid (BEL.out.trans (hb.mono BEL.out.size)); clear hb)
        | fail)
      replace OA := Lib.hid (OA.out.drew)
      replace OB := Lib.hid (OB.out.drew)
      replace OX := Lib.hid (OX.out.drew)
      replace OY := Lib.hid (OY.out.drew)
      replace LA := Lib.hid (LA.out.later (Below.refl _ _).drew (Nat.le_refl _))
      replace LB := Lib.hid (LB.out.later (Below.refl _ _).drew (Nat.le_refl _))
      replace BEL := Lib.hid (BEL.out.drew)
      first
        | (go_region_held3 (fun w' => (∀ o, w'.cell? ⟨w.heap.size, o, none⟩ = (knA SA (.slice ov len cv))[o]?) ∧ (∀ o, w'.cell? ⟨w.heap.size + 1, o, none⟩ = (knA SB (.slice ov' len' cv'))[o]?)) (exact ⟨OA.out.cell, OB.out.cell⟩)
            (first
              | (go_simp; go_at_call_of 7 (SA); refine (KA _ LA.out).out.mono ?_; rintro e wa ⟨rfl, hb⟩; replace OA := Lib.hid (OA.out.below hb OA.out.lt); replace OB := Lib.hid (OB.out.below hb OB.out.lt); replace OX := Lib.hid (OX.out.below hb OX.out.lt); replace OY := Lib.hid (OY.out.below hb OY.out.lt); replace LA := Lib.hid (LA.out.later hb (Nat.le_refl _)); replace LB := Lib.hid (LB.out.later hb (Nat.le_refl _)); replace BEL := Lib.hid (BEL.out.trans (hb.mono BEL.out.size)); clear hb)
              | (go_simp; go_at_call_of 7 (SB); refine (KB _ LB.out).out.mono ?_; rintro e wb ⟨rfl, hb⟩; replace OA := Lib.hid (OA.out.below hb OA.out.lt); replace OB := Lib.hid (OB.out.below hb OB.out.lt); replace OX := Lib.hid (OX.out.below hb OX.out.lt); replace OY := Lib.hid (OY.out.below hb OY.out.lt); replace LA := Lib.hid (LA.out.later hb (Nat.le_refl _)); replace LB := Lib.hid (LB.out.later hb (Nat.le_refl _)); replace BEL := Lib.hid (BEL.out.trans (hb.mono BEL.out.size)); clear hb)
              | fail))
        | fail
      all_goals
        go_wp2_with fail
        go_ret
        exact ⟨rfl, BEL.out⟩
  have hka : knownB a = true := by cases h : knownB a; exact absurd (.inl h) hkk; rfl
  have hkb : knownB b = true := by cases h : knownB b; exact absurd (.inr h) hkk; rfl
  have hxa : knownI a = 1 := by unfold knownI; rw [hka]; rfl
  have hxb : knownI b = 1 := by unfold knownI; rw [hkb]; rfl
  rw [hxa] at KA
  rw [hxb] at KB
  obtain ⟨a30, a18⟩ := known_flat hka
  obtain ⟨b30, b18⟩ := known_flat hkb
  have f1 := flat_app a.l b.l
  have f2 := flat_app b.l a.l
  obtain ⟨p1, p2⟩ := plain_flat a
  obtain ⟨j1, j2⟩ := plain_flat (joinK a b)
  obtain ⟨k1, k2⟩ := plain_flat (joinK b a)
  obtain ⟨m1, m2⟩ := plain_flat (joinK (plainB (joinK a b)) b)
  have f3 := flat_app (plainB (joinK a b)).l b.l
  have ej : (joinK a b).l = a.l ++ b.l := rfl
  have ek : (joinK b a).l = b.l ++ a.l := rfl
  have em : (joinK (plainB (joinK a b)) b).l = (plainB (joinK a b)).l ++ b.l := rfl
  rw [ej] at j1 j2
  rw [ek] at k1 k2
  rw [em] at m1 m2
  have ew : (flatI (withK a id r c).l).length = (flatI a.l).length + 1 := by
    have : (withK a id r c).l = a.l ++ [⟨[id], withV zeroV r c⟩] := rfl
    rw [this, flat_app]; rfl
  have KP := fun w' h => Lib.hid (knowPlain_calls a (.slice ov a.l.length cv) w' h (by omega) (by omega))
  have KJ := fun w' h h' => Lib.hid (knowJoin_calls a b (.slice ov a.l.length cv) (.slice ov' b.l.length cv') w' h h' (by omega) (by omega))
  have HA := fun w' h => Lib.hid (knowHas_calls a other r' c' (.slice ov a.l.length cv) w' h hot)
  have HB := fun w' h => Lib.hid (knowHas_calls b other r' c' (.slice ov' b.l.length cv') w' h hot)
  have HPl := fun v w' h => Lib.hid (show Calls Try.prog 15 #[knV a.star v, .string other, .agg #[.int .i64 r', .int .i64 c']] w' (fun e w'' => e = .returned (.bool (hasK a other r' c')) ∧ Below w'.heap.size w' w'') by
    have := knowHas_calls (plainB a) other r' c' v w' h hot
    rw [has_plain] at this; exact this)
  have PP := fun v w' h => Lib.hid (show Calls Try.prog 9 #[knV a.star v] w' (fun e w'' => ∃ v', e = .returned (knV a.star v') ∧ FrW w'' (plainB (plainB a)).l v' ∧ Below w'.heap.size w' w'') from knowPlain_calls (plainB a) v w' h (by omega) (by omega))
  have AP := fun va vb w' h h' => Lib.hid (show Calls Try.prog 8 #[knV a.star va, knV a.star vb] w' (fun e w'' => e = .returned (.bool true) ∧ Below w'.heap.size w' w'') by
    have := alike_calls (plainB (plainB a)) (plainB a) va vb w' h h'
    rw [plain_plain] at this; exact this)
  have SP := fun vb w' h h' => Lib.hid (show Calls Try.prog 21 #[knV a.star (.slice ov a.l.length cv), knV a.star vb] w' (fun e w'' => e = .returned (.bool true) ∧ Below w'.heap.size w' w'') by
    have := knowSame_calls a (plainB a) (.slice ov a.l.length cv) vb w' h h' (by omega) (by omega)
    rw [same_plain] at this; exact this)
  have HJ := fun v w' h => Lib.hid (show Calls Try.prog 15 #[knV (maxV a.star b.star) v, .string other, .agg #[.int .i64 r', .int .i64 c']] w' (fun e w'' => e = .returned (.bool (hasK a other r' c' || hasK b other r' c')) ∧ Below w'.heap.size w' w'') by
    have := knowHas_calls (plainB (joinK a b)) other r' c' v w' h hot
    rw [has_plain, has_join] at this; exact this)
  have JB := fun w' h h' => Lib.hid (knowJoin_calls b a (.slice ov' b.l.length cv') (.slice ov a.l.length cv) w' h h' (by omega) (by omega))
  have SJ := fun va vb w' h h' => Lib.hid (show Calls Try.prog 21 #[knV (maxV a.star b.star) va, knV (maxV b.star a.star) vb] w' (fun e w'' => e = .returned (.bool true) ∧ Below w'.heap.size w' w'') by
    have := knowSame_calls (plainB (joinK a b)) (plainB (joinK b a)) va vb w' h h' (by omega) (by omega)
    rw [join_comm] at this; exact this)
  have JJ := fun v w' h h' => Lib.hid (show Calls Try.prog 19 #[knV (maxV a.star b.star) v, knV b.star (.slice ov' b.l.length cv')] w' (fun e w'' => ∃ v', e = .returned (knV (maxV (maxV a.star b.star) b.star) v') ∧ FrW w'' (plainB (joinK (plainB (joinK a b)) b)).l v' ∧ Below w'.heap.size w' w'') from
    knowJoin_calls (plainB (joinK a b)) b v (.slice ov' b.l.length cv') w' h h' (by omega) (by omega))
  have SM := fun va vb w' h h' => Lib.hid (show Calls Try.prog 21 #[knV (maxV (maxV a.star b.star) b.star) va, knV (maxV a.star b.star) vb] w' (fun e w'' => e = .returned (.bool true) ∧ Below w'.heap.size w' w'') by
    have := knowSame_calls (plainB (joinK (plainB (joinK a b)) b)) (plainB (joinK a b)) va vb w' h h' (by omega) (by omega)
    rw [join_more] at this; exact this)
  have KW := fun w' h => Lib.hid (knowWith_calls a id r c (.slice ov a.l.length cv) w' h hid (by omega) (by omega))
  have KO := fun w' h => Lib.hid (knowOwn_calls a id r c (.slice ov a.l.length cv) w' h hid (by omega) (by omega) (by omega) hcw)
  have HWx := fun v w' h => Lib.hid (show Calls Try.prog 15 #[knV a.star v, .string id, .agg #[.int .i64 r, .int .i64 c]] w' (fun e w'' => e = .returned (.bool (hasK (plainB (withK a id r c)) id r c)) ∧ Below w'.heap.size w' w'') from knowHas_calls (plainB (withK a id r c)) id r c v w' h hid)
  have HWy := fun v w' h => Lib.hid (show Calls Try.prog 15 #[knV a.star v, .string other, .agg #[.int .i64 r', .int .i64 c']] w' (fun e w'' => e = .returned (.bool (hasK (plainB (withK a id r c)) other r' c')) ∧ Below w'.heap.size w' w'') from knowHas_calls (plainB (withK a id r c)) other r' c' v w' h hot)
  have HOy := fun v w' h => Lib.hid (show Calls Try.prog 15 #[knV (ownK a id r c).star v, .string other, .agg #[.int .i64 r', .int .i64 c']] w' (fun e w'' => e = .returned (.bool (hasK (plainB (ownK a id r c)) other r' c')) ∧ Below w'.heap.size w' w'') from knowHas_calls (plainB (ownK a id r c)) other r' c' v w' h hot)
  have i1 := fun h1 h2 h3 => with_right a id (r := r) (c := c) h1 h2 h3
  have i2 := with_was a id other r c r' c'
  have i3 := own_was a id other r c r' c'
  generalize hasK (plainB (withK a id r c)) id r c = hx at *
  generalize hasK (plainB (withK a id r c)) other r' c' = hw at *
  generalize hasK (plainB (ownK a id r c)) other r' c' = ho at *
  generalize hasK a other r' c' = was at *
  generalize hasK b other r' c' = hbb at *
  have I1 := Lib.hid i1
  have I2 := Lib.hid i2
  have I3 := Lib.hid i3
  clear i1 i2 i3 hkk hka hkb hxa hxb hR hM a30 a18 b30 b18 f1 f2 f3 p1 p2 j1 j2 k1 k2 m1 m2 ej ek em ew hid hot hcw
  generalize (ownK a id r c).star = SO at *
  generalize maxV (maxV a.star b.star) b.star = M3 at *
  generalize maxV b.star a.star = M2 at *
  generalize maxV a.star b.star = M at *
  generalize (plainB (joinK (plainB (joinK a b)) b)).l = lm at *
  generalize (plainB (joinK b a)).l = lk at *
  generalize (plainB (joinK a b)).l = lj at *
  generalize (plainB (plainB a)).l = lpp at *
  generalize (plainB (withK a id r c)).l = lw at *
  generalize (plainB (ownK a id r c)).l = lo at *
  generalize (plainB a).l = lp at *
  obtain ⟨SA, la⟩ := a
  obtain ⟨SB, lb⟩ := b
  simp only at *
  generalize la.length = len at *
  generalize lb.length = len' at *
  go_enter Try.func5, Try.ntmps5
  go_wp2_with (first
    | (go_at_call 6; refine (UP _).out.mono ?_; rintro e w3 ⟨rfl, hb⟩; replace OA := Lib.hid (OA.out.below hb OA.out.lt); replace OB := Lib.hid (OB.out.below hb OB.out.lt); replace OX := Lib.hid (OX.out.below hb OX.out.lt); replace OY := Lib.hid (OY.out.below hb OY.out.lt); replace LA := Lib.hid (LA.out.later hb (Nat.le_refl _)); replace LB := Lib.hid (LB.out.later hb (Nat.le_refl _)); replace BEL := Lib.hid (BEL.out.trans (hb.mono BEL.out.size)); clear hb)
    | fail)
  replace OA := Lib.hid (OA.out.drew)
  replace OB := Lib.hid (OB.out.drew)
  replace OX := Lib.hid (OX.out.drew)
  replace OY := Lib.hid (OY.out.drew)
  replace LA := Lib.hid (LA.out.later (Below.refl _ _).drew (Nat.le_refl _))
  replace LB := Lib.hid (LB.out.later (Below.refl _ _).drew (Nat.le_refl _))
  replace BEL := Lib.hid (BEL.out.drew)
  first
    | (go_region_held3 (fun w' => (∀ o, w'.cell? ⟨w.heap.size, o, none⟩ = (knA SA (.slice ov len cv))[o]?) ∧ (∀ o, w'.cell? ⟨w.heap.size + 1, o, none⟩ = (knA SB (.slice ov' len' cv'))[o]?)) (exact ⟨OA.out.cell, OB.out.cell⟩)
        (first
          | (go_simp; go_at_call_of 7 (SA); refine (KA _ LA.out).out.mono ?_; rintro e wa ⟨rfl, hb⟩; replace OA := Lib.hid (OA.out.below hb OA.out.lt); replace OB := Lib.hid (OB.out.below hb OB.out.lt); replace OX := Lib.hid (OX.out.below hb OX.out.lt); replace OY := Lib.hid (OY.out.below hb OY.out.lt); replace LA := Lib.hid (LA.out.later hb (Nat.le_refl _)); replace LB := Lib.hid (LB.out.later hb (Nat.le_refl _)); replace BEL := Lib.hid (BEL.out.trans (hb.mono BEL.out.size)); clear hb)
          | (go_simp; go_at_call_of 7 (SB); refine (KB _ LB.out).out.mono ?_; rintro e wb ⟨rfl, hb⟩; replace OA := Lib.hid (OA.out.below hb OA.out.lt); replace OB := Lib.hid (OB.out.below hb OB.out.lt); replace OX := Lib.hid (OX.out.below hb OX.out.lt); replace OY := Lib.hid (OY.out.below hb OY.out.lt); replace LA := Lib.hid (LA.out.later hb (Nat.le_refl _)); replace LB := Lib.hid (LB.out.later hb (Nat.le_refl _)); replace BEL := Lib.hid (BEL.out.trans (hb.mono BEL.out.size)); clear hb)
          | fail))
    | fail
  clear UP KA KB
  have lOA := OA.out.cell
  have zOA := OA.out.lt
  go_upto_region 5 with (first | (go_at_call 9; refine (KP _ LA.out).out.mono ?_; rintro e w4 ⟨vp, rfl, hfp, hb⟩; obtain ⟨op, cp, rfl⟩ := hfp.val; have LP := Lib.hid hfp; replace OA := Lib.hid (OA.out.below hb OA.out.lt); replace OB := Lib.hid (OB.out.below hb OB.out.lt); replace OX := Lib.hid (OX.out.below hb OX.out.lt); replace OY := Lib.hid (OY.out.below hb OY.out.lt); replace LA := Lib.hid (LA.out.later hb (Nat.le_refl _)); replace LB := Lib.hid (LB.out.later hb (Nat.le_refl _)); replace BEL := Lib.hid (BEL.out.trans (hb.mono BEL.out.size)); clear hb hfp lOA zOA) | fail)
  generalize lp.length = np at *
  replace OA := Lib.hid (OA.out.alloc (.cells #[.int .i64 (SA 0), .int .i64 (SA 1), .int .i64 (SA 2), .int .i64 (SA 3), .int .i64 (SA 4), .int .i64 (SA 5), .int .i64 (SA 6), .int .i64 (SA 7), .slice op np cp] 26))
  replace OB := Lib.hid (OB.out.alloc (.cells #[.int .i64 (SA 0), .int .i64 (SA 1), .int .i64 (SA 2), .int .i64 (SA 3), .int .i64 (SA 4), .int .i64 (SA 5), .int .i64 (SA 6), .int .i64 (SA 7), .slice op np cp] 26))
  replace OX := Lib.hid (OX.out.alloc (.cells #[.int .i64 (SA 0), .int .i64 (SA 1), .int .i64 (SA 2), .int .i64 (SA 3), .int .i64 (SA 4), .int .i64 (SA 5), .int .i64 (SA 6), .int .i64 (SA 7), .slice op np cp] 26))
  replace OY := Lib.hid (OY.out.alloc (.cells #[.int .i64 (SA 0), .int .i64 (SA 1), .int .i64 (SA 2), .int .i64 (SA 3), .int .i64 (SA 4), .int .i64 (SA 5), .int .i64 (SA 6), .int .i64 (SA 7), .slice op np cp] 26))
  replace LA := Lib.hid (LA.out.later ((Below.refl _ _).alloc (Nat.le_refl _) (.cells #[.int .i64 (SA 0), .int .i64 (SA 1), .int .i64 (SA 2), .int .i64 (SA 3), .int .i64 (SA 4), .int .i64 (SA 5), .int .i64 (SA 6), .int .i64 (SA 7), .slice op np cp] 26)) (Nat.le_refl _))
  replace LB := Lib.hid (LB.out.later ((Below.refl _ _).alloc (Nat.le_refl _) (.cells #[.int .i64 (SA 0), .int .i64 (SA 1), .int .i64 (SA 2), .int .i64 (SA 3), .int .i64 (SA 4), .int .i64 (SA 5), .int .i64 (SA 6), .int .i64 (SA 7), .slice op np cp] 26)) (Nat.le_refl _))
  replace BEL := Lib.hid (BEL.out.alloc BEL.out.size (.cells #[.int .i64 (SA 0), .int .i64 (SA 1), .int .i64 (SA 2), .int .i64 (SA 3), .int .i64 (SA 4), .int .i64 (SA 5), .int .i64 (SA 6), .int .i64 (SA 7), .slice op np cp] 26))
  replace LP := Lib.hid (LP.out.later ((Below.refl _ _).alloc (Nat.le_refl _) (.cells #[.int .i64 (SA 0), .int .i64 (SA 1), .int .i64 (SA 2), .int .i64 (SA 3), .int .i64 (SA 4), .int .i64 (SA 5), .int .i64 (SA 6), .int .i64 (SA 7), .slice op np cp] 26)) (Nat.le_refl _))
  have OP := Lib.hid (Has.new w4 #[.int .i64 (SA 0), .int .i64 (SA 1), .int .i64 (SA 2), .int .i64 (SA 3), .int .i64 (SA 4), .int .i64 (SA 5), .int .i64 (SA 6), .int .i64 (SA 7), .slice op np cp] 26)
  generalize w4.heap.size = bp at *
  generalize w4.alloc (Obj.cells #[.int .i64 (SA 0), .int .i64 (SA 1), .int .i64 (SA 2), .int .i64 (SA 3), .int .i64 (SA 4), .int .i64 (SA 5), .int .i64 (SA 6), .int .i64 (SA 7), .slice op np cp] 26) = w4' at *
  have lOA := OA.out.cell
  have zOA := OA.out.lt
  have lOB := OB.out.cell
  have zOB := OB.out.lt
  go_upto_region 6 with (first | (go_at_call 19; refine (KJ _ LA.out LB.out).out.mono ?_; rintro e w5 ⟨vj, rfl, hfj, hb⟩; obtain ⟨oj, cj, rfl⟩ := hfj.val; have LJ := Lib.hid hfj; replace OA := Lib.hid (OA.out.below hb OA.out.lt); replace OB := Lib.hid (OB.out.below hb OB.out.lt); replace OX := Lib.hid (OX.out.below hb OX.out.lt); replace OY := Lib.hid (OY.out.below hb OY.out.lt); replace LA := Lib.hid (LA.out.later hb (Nat.le_refl _)); replace LB := Lib.hid (LB.out.later hb (Nat.le_refl _)); replace BEL := Lib.hid (BEL.out.trans (hb.mono BEL.out.size)); replace LP := Lib.hid (LP.out.later hb (Nat.le_refl _)); replace OP := Lib.hid (OP.out.below hb OP.out.lt); clear hb hfj lOA zOA lOB zOB) | fail)
  generalize lj.length = nj at *
  replace OA := Lib.hid (OA.out.alloc (.cells #[.int .i64 (M 0), .int .i64 (M 1), .int .i64 (M 2), .int .i64 (M 3), .int .i64 (M 4), .int .i64 (M 5), .int .i64 (M 6), .int .i64 (M 7), .slice oj nj cj] 26))
  replace OB := Lib.hid (OB.out.alloc (.cells #[.int .i64 (M 0), .int .i64 (M 1), .int .i64 (M 2), .int .i64 (M 3), .int .i64 (M 4), .int .i64 (M 5), .int .i64 (M 6), .int .i64 (M 7), .slice oj nj cj] 26))
  replace OX := Lib.hid (OX.out.alloc (.cells #[.int .i64 (M 0), .int .i64 (M 1), .int .i64 (M 2), .int .i64 (M 3), .int .i64 (M 4), .int .i64 (M 5), .int .i64 (M 6), .int .i64 (M 7), .slice oj nj cj] 26))
  replace OY := Lib.hid (OY.out.alloc (.cells #[.int .i64 (M 0), .int .i64 (M 1), .int .i64 (M 2), .int .i64 (M 3), .int .i64 (M 4), .int .i64 (M 5), .int .i64 (M 6), .int .i64 (M 7), .slice oj nj cj] 26))
  replace LA := Lib.hid (LA.out.later ((Below.refl _ _).alloc (Nat.le_refl _) (.cells #[.int .i64 (M 0), .int .i64 (M 1), .int .i64 (M 2), .int .i64 (M 3), .int .i64 (M 4), .int .i64 (M 5), .int .i64 (M 6), .int .i64 (M 7), .slice oj nj cj] 26)) (Nat.le_refl _))
  replace LB := Lib.hid (LB.out.later ((Below.refl _ _).alloc (Nat.le_refl _) (.cells #[.int .i64 (M 0), .int .i64 (M 1), .int .i64 (M 2), .int .i64 (M 3), .int .i64 (M 4), .int .i64 (M 5), .int .i64 (M 6), .int .i64 (M 7), .slice oj nj cj] 26)) (Nat.le_refl _))
  replace BEL := Lib.hid (BEL.out.alloc BEL.out.size (.cells #[.int .i64 (M 0), .int .i64 (M 1), .int .i64 (M 2), .int .i64 (M 3), .int .i64 (M 4), .int .i64 (M 5), .int .i64 (M 6), .int .i64 (M 7), .slice oj nj cj] 26))
  replace LP := Lib.hid (LP.out.later ((Below.refl _ _).alloc (Nat.le_refl _) (.cells #[.int .i64 (M 0), .int .i64 (M 1), .int .i64 (M 2), .int .i64 (M 3), .int .i64 (M 4), .int .i64 (M 5), .int .i64 (M 6), .int .i64 (M 7), .slice oj nj cj] 26)) (Nat.le_refl _))
  replace OP := Lib.hid (OP.out.alloc (.cells #[.int .i64 (M 0), .int .i64 (M 1), .int .i64 (M 2), .int .i64 (M 3), .int .i64 (M 4), .int .i64 (M 5), .int .i64 (M 6), .int .i64 (M 7), .slice oj nj cj] 26))
  replace LJ := Lib.hid (LJ.out.later ((Below.refl _ _).alloc (Nat.le_refl _) (.cells #[.int .i64 (M 0), .int .i64 (M 1), .int .i64 (M 2), .int .i64 (M 3), .int .i64 (M 4), .int .i64 (M 5), .int .i64 (M 6), .int .i64 (M 7), .slice oj nj cj] 26)) (Nat.le_refl _))
  have OJ := Lib.hid (Has.new w5 #[.int .i64 (M 0), .int .i64 (M 1), .int .i64 (M 2), .int .i64 (M 3), .int .i64 (M 4), .int .i64 (M 5), .int .i64 (M 6), .int .i64 (M 7), .slice oj nj cj] 26)
  generalize w5.heap.size = bj at *
  generalize w5.alloc (Obj.cells #[.int .i64 (M 0), .int .i64 (M 1), .int .i64 (M 2), .int .i64 (M 3), .int .i64 (M 4), .int .i64 (M 5), .int .i64 (M 6), .int .i64 (M 7), .slice oj nj cj] 26) = w5' at *
  have lOA := OA.out.cell
  have zOA := OA.out.lt
  have lOY := OY.out.cell
  have zOY := OY.out.lt
  go_upto_region 7 with (first | (go_at_call 15; refine (HA _ LA.out).out.mono ?_; rintro e w6 ⟨rfl, hb⟩; replace OA := Lib.hid (OA.out.below hb OA.out.lt); replace OB := Lib.hid (OB.out.below hb OB.out.lt); replace OX := Lib.hid (OX.out.below hb OX.out.lt); replace OY := Lib.hid (OY.out.below hb OY.out.lt); replace LA := Lib.hid (LA.out.later hb (Nat.le_refl _)); replace LB := Lib.hid (LB.out.later hb (Nat.le_refl _)); replace BEL := Lib.hid (BEL.out.trans (hb.mono BEL.out.size)); replace LP := Lib.hid (LP.out.later hb (Nat.le_refl _)); replace OP := Lib.hid (OP.out.below hb OP.out.lt); replace LJ := Lib.hid (LJ.out.later hb (Nat.le_refl _)); replace OJ := Lib.hid (OJ.out.below hb OJ.out.lt); clear hb lOA zOA lOY zOY) | fail)
  replace OA := Lib.hid (OA.out.drew)
  replace OB := Lib.hid (OB.out.drew)
  replace OX := Lib.hid (OX.out.drew)
  replace OY := Lib.hid (OY.out.drew)
  replace LA := Lib.hid (LA.out.later (Below.refl _ _).drew (Nat.le_refl _))
  replace LB := Lib.hid (LB.out.later (Below.refl _ _).drew (Nat.le_refl _))
  replace BEL := Lib.hid (BEL.out.drew)
  replace LP := Lib.hid (LP.out.later (Below.refl _ _).drew (Nat.le_refl _))
  replace OP := Lib.hid (OP.out.drew)
  replace LJ := Lib.hid (LJ.out.later (Below.refl _ _).drew (Nat.le_refl _))
  replace OJ := Lib.hid (OJ.out.drew)
  first
    | (go_region_held3 (fun w' => (∀ o, w'.cell? ⟨w.heap.size, o, none⟩ = (knA SA (.slice ov len cv))[o]?) ∧ (∀ o, w'.cell? ⟨w.heap.size + 1 + 1 + 1, o, none⟩ = (#[.int .i64 r', .int .i64 c'] : Array Value)[o]?) ∧ (∀ o, w'.cell? ⟨bp, o, none⟩ = (knA SA (.slice op np cp))[o]?)) (exact ⟨OA.out.cell, OY.out.cell, OP.out.cell⟩)
        (first
          | (go_simp; go_at_call 15; refine (HPl _ _ LP.out).out.mono ?_; rintro e wa ⟨rfl, hb⟩; replace OA := Lib.hid (OA.out.below hb OA.out.lt); replace OB := Lib.hid (OB.out.below hb OB.out.lt); replace OX := Lib.hid (OX.out.below hb OX.out.lt); replace OY := Lib.hid (OY.out.below hb OY.out.lt); replace LA := Lib.hid (LA.out.later hb (Nat.le_refl _)); replace LB := Lib.hid (LB.out.later hb (Nat.le_refl _)); replace BEL := Lib.hid (BEL.out.trans (hb.mono BEL.out.size)); replace LP := Lib.hid (LP.out.later hb (Nat.le_refl _)); replace OP := Lib.hid (OP.out.below hb OP.out.lt); replace LJ := Lib.hid (LJ.out.later hb (Nat.le_refl _)); replace OJ := Lib.hid (OJ.out.below hb OJ.out.lt); (try replace LPP := Lib.hid (LPP.out.later hb (Nat.le_refl _))); clear hb)
          | (go_simp; go_at_call 9; refine (PP _ _ LP.out).out.mono ?_; rintro e wb ⟨vpp, rfl, hfp, hb⟩; obtain ⟨opp, cpp, rfl⟩ := hfp.val; have LPP := Lib.hid hfp; replace OA := Lib.hid (OA.out.below hb OA.out.lt); replace OB := Lib.hid (OB.out.below hb OB.out.lt); replace OX := Lib.hid (OX.out.below hb OX.out.lt); replace OY := Lib.hid (OY.out.below hb OY.out.lt); replace LA := Lib.hid (LA.out.later hb (Nat.le_refl _)); replace LB := Lib.hid (LB.out.later hb (Nat.le_refl _)); replace BEL := Lib.hid (BEL.out.trans (hb.mono BEL.out.size)); replace LP := Lib.hid (LP.out.later hb (Nat.le_refl _)); replace OP := Lib.hid (OP.out.below hb OP.out.lt); replace LJ := Lib.hid (LJ.out.later hb (Nat.le_refl _)); replace OJ := Lib.hid (OJ.out.below hb OJ.out.lt); clear hb; clear hfp)
          | (go_simp; go_at_call 8; refine (AP _ _ _ LPP.out LP.out).out.mono ?_; rintro e wc ⟨rfl, hb⟩; replace OA := Lib.hid (OA.out.below hb OA.out.lt); replace OB := Lib.hid (OB.out.below hb OB.out.lt); replace OX := Lib.hid (OX.out.below hb OX.out.lt); replace OY := Lib.hid (OY.out.below hb OY.out.lt); replace LA := Lib.hid (LA.out.later hb (Nat.le_refl _)); replace LB := Lib.hid (LB.out.later hb (Nat.le_refl _)); replace BEL := Lib.hid (BEL.out.trans (hb.mono BEL.out.size)); replace LP := Lib.hid (LP.out.later hb (Nat.le_refl _)); replace OP := Lib.hid (OP.out.below hb OP.out.lt); replace LJ := Lib.hid (LJ.out.later hb (Nat.le_refl _)); replace OJ := Lib.hid (OJ.out.below hb OJ.out.lt); clear hb)
          | (go_simp; go_at_call 21; refine (SP _ _ LA.out LP.out).out.mono ?_; rintro e wd ⟨rfl, hb⟩; replace OA := Lib.hid (OA.out.below hb OA.out.lt); replace OB := Lib.hid (OB.out.below hb OB.out.lt); replace OX := Lib.hid (OX.out.below hb OX.out.lt); replace OY := Lib.hid (OY.out.below hb OY.out.lt); replace LA := Lib.hid (LA.out.later hb (Nat.le_refl _)); replace LB := Lib.hid (LB.out.later hb (Nat.le_refl _)); replace BEL := Lib.hid (BEL.out.trans (hb.mono BEL.out.size)); replace LP := Lib.hid (LP.out.later hb (Nat.le_refl _)); replace OP := Lib.hid (OP.out.below hb OP.out.lt); replace LJ := Lib.hid (LJ.out.later hb (Nat.le_refl _)); replace OJ := Lib.hid (OJ.out.below hb OJ.out.lt); clear hb)
          | fail))
    | fail
  clear HPl PP AP SP LPP
  cases was
  · simp only [Bool.false_or] at HJ
    go_upto_region 9 with fail
    replace OA := Lib.hid (OA.out.drew)
    replace OB := Lib.hid (OB.out.drew)
    replace OX := Lib.hid (OX.out.drew)
    replace OY := Lib.hid (OY.out.drew)
    replace LA := Lib.hid (LA.out.later (Below.refl _ _).drew (Nat.le_refl _))
    replace LB := Lib.hid (LB.out.later (Below.refl _ _).drew (Nat.le_refl _))
    replace BEL := Lib.hid (BEL.out.drew)
    replace LP := Lib.hid (LP.out.later (Below.refl _ _).drew (Nat.le_refl _))
    replace OP := Lib.hid (OP.out.drew)
    replace LJ := Lib.hid (LJ.out.later (Below.refl _ _).drew (Nat.le_refl _))
    replace OJ := Lib.hid (OJ.out.drew)
    first
      | (go_region_held3 (fun w' => (∀ o, w'.cell? ⟨bj, o, none⟩ = (knA M (.slice oj nj cj))[o]?) ∧ (∀ o, w'.cell? ⟨w.heap.size + 1 + 1 + 1, o, none⟩ = (#[.int .i64 r', .int .i64 c'] : Array Value)[o]?) ∧ (∀ o, w'.cell? ⟨w.heap.size + 1, o, none⟩ = (knA SB (.slice ov' len' cv'))[o]?) ∧ (∀ o, w'.cell? ⟨w.heap.size, o, none⟩ = (knA SA (.slice ov len cv))[o]?)) (exact ⟨OJ.out.cell, OY.out.cell, OB.out.cell, OA.out.cell⟩)
          (first
            | (go_simp; go_at_call_of 15 (M); refine (HJ _ _ LJ.out).out.mono ?_; rintro e wa ⟨rfl, hb⟩; replace OA := Lib.hid (OA.out.below hb OA.out.lt); replace OB := Lib.hid (OB.out.below hb OB.out.lt); replace OX := Lib.hid (OX.out.below hb OX.out.lt); replace OY := Lib.hid (OY.out.below hb OY.out.lt); replace LA := Lib.hid (LA.out.later hb (Nat.le_refl _)); replace LB := Lib.hid (LB.out.later hb (Nat.le_refl _)); replace BEL := Lib.hid (BEL.out.trans (hb.mono BEL.out.size)); replace LP := Lib.hid (LP.out.later hb (Nat.le_refl _)); replace OP := Lib.hid (OP.out.below hb OP.out.lt); replace LJ := Lib.hid (LJ.out.later hb (Nat.le_refl _)); replace OJ := Lib.hid (OJ.out.below hb OJ.out.lt); clear hb)
            | (go_simp; go_at_call_of 15 (SB); refine (HB _ LB.out).out.mono ?_; rintro e wb ⟨rfl, hb⟩; replace OA := Lib.hid (OA.out.below hb OA.out.lt); replace OB := Lib.hid (OB.out.below hb OB.out.lt); replace OX := Lib.hid (OX.out.below hb OX.out.lt); replace OY := Lib.hid (OY.out.below hb OY.out.lt); replace LA := Lib.hid (LA.out.later hb (Nat.le_refl _)); replace LB := Lib.hid (LB.out.later hb (Nat.le_refl _)); replace BEL := Lib.hid (BEL.out.trans (hb.mono BEL.out.size)); replace LP := Lib.hid (LP.out.later hb (Nat.le_refl _)); replace OP := Lib.hid (OP.out.below hb OP.out.lt); replace LJ := Lib.hid (LJ.out.later hb (Nat.le_refl _)); replace OJ := Lib.hid (OJ.out.below hb OJ.out.lt); clear hb)
            | (go_simp; go_at_call_of 19 (M); refine (JJ _ _ LJ.out LB.out).out.mono ?_; rintro e wc ⟨vjj, rfl, hfp, hb⟩; obtain ⟨ojj, cjj, rfl⟩ := hfp.val; have LJJ := Lib.hid hfp; replace OA := Lib.hid (OA.out.below hb OA.out.lt); replace OB := Lib.hid (OB.out.below hb OB.out.lt); replace OX := Lib.hid (OX.out.below hb OX.out.lt); replace OY := Lib.hid (OY.out.below hb OY.out.lt); replace LA := Lib.hid (LA.out.later hb (Nat.le_refl _)); replace LB := Lib.hid (LB.out.later hb (Nat.le_refl _)); replace BEL := Lib.hid (BEL.out.trans (hb.mono BEL.out.size)); replace LP := Lib.hid (LP.out.later hb (Nat.le_refl _)); replace OP := Lib.hid (OP.out.below hb OP.out.lt); replace LJ := Lib.hid (LJ.out.later hb (Nat.le_refl _)); replace OJ := Lib.hid (OJ.out.below hb OJ.out.lt); clear hb; clear hfp)
            | (go_simp; go_at_call_of 19 (SA); refine (JB _ LB.out LA.out).out.mono ?_; rintro e wd ⟨vjb, rfl, hfp, hb⟩; obtain ⟨ojb, cjb, rfl⟩ := hfp.val; have LJB := Lib.hid hfp; replace OA := Lib.hid (OA.out.below hb OA.out.lt); replace OB := Lib.hid (OB.out.below hb OB.out.lt); replace OX := Lib.hid (OX.out.below hb OX.out.lt); replace OY := Lib.hid (OY.out.below hb OY.out.lt); replace LA := Lib.hid (LA.out.later hb (Nat.le_refl _)); replace LB := Lib.hid (LB.out.later hb (Nat.le_refl _)); replace BEL := Lib.hid (BEL.out.trans (hb.mono BEL.out.size)); replace LP := Lib.hid (LP.out.later hb (Nat.le_refl _)); replace OP := Lib.hid (OP.out.below hb OP.out.lt); replace LJ := Lib.hid (LJ.out.later hb (Nat.le_refl _)); replace OJ := Lib.hid (OJ.out.below hb OJ.out.lt); clear hb; clear hfp)
            | (go_simp; go_at_call_of 21 (M3); refine (SM _ _ _ LJJ.out LJ.out).out.mono ?_; rintro e we ⟨rfl, hb⟩; replace OA := Lib.hid (OA.out.below hb OA.out.lt); replace OB := Lib.hid (OB.out.below hb OB.out.lt); replace OX := Lib.hid (OX.out.below hb OX.out.lt); replace OY := Lib.hid (OY.out.below hb OY.out.lt); replace LA := Lib.hid (LA.out.later hb (Nat.le_refl _)); replace LB := Lib.hid (LB.out.later hb (Nat.le_refl _)); replace BEL := Lib.hid (BEL.out.trans (hb.mono BEL.out.size)); replace LP := Lib.hid (LP.out.later hb (Nat.le_refl _)); replace OP := Lib.hid (OP.out.below hb OP.out.lt); replace LJ := Lib.hid (LJ.out.later hb (Nat.le_refl _)); replace OJ := Lib.hid (OJ.out.below hb OJ.out.lt); clear hb)
            | (go_simp; go_at_call_of 21 (M2); refine (SJ _ _ _ LJ.out LJB.out).out.mono ?_; rintro e wf ⟨rfl, hb⟩; replace OA := Lib.hid (OA.out.below hb OA.out.lt); replace OB := Lib.hid (OB.out.below hb OB.out.lt); replace OX := Lib.hid (OX.out.below hb OX.out.lt); replace OY := Lib.hid (OY.out.below hb OY.out.lt); replace LA := Lib.hid (LA.out.later hb (Nat.le_refl _)); replace LB := Lib.hid (LB.out.later hb (Nat.le_refl _)); replace BEL := Lib.hid (BEL.out.trans (hb.mono BEL.out.size)); replace LP := Lib.hid (LP.out.later hb (Nat.le_refl _)); replace OP := Lib.hid (OP.out.below hb OP.out.lt); replace LJ := Lib.hid (LJ.out.later hb (Nat.le_refl _)); replace OJ := Lib.hid (OJ.out.below hb OJ.out.lt); clear hb)
            | fail))
      | fail
    clear HJ HB JJ JB SM SJ LJJ LJB
    have lOA := OA.out.cell
    have zOA := OA.out.lt
    have lOX := OX.out.cell
    have zOX := OX.out.lt
    go_upto_region 12 with (first | (go_at_call 11; refine (KW _ LA.out).out.mono ?_; rintro e w7 ⟨vw, rfl, hfp, hb⟩; obtain ⟨ow, cw, rfl⟩ := hfp.val; have LW := Lib.hid hfp; replace OA := Lib.hid (OA.out.below hb OA.out.lt); replace OB := Lib.hid (OB.out.below hb OB.out.lt); replace OX := Lib.hid (OX.out.below hb OX.out.lt); replace OY := Lib.hid (OY.out.below hb OY.out.lt); replace LA := Lib.hid (LA.out.later hb (Nat.le_refl _)); replace LB := Lib.hid (LB.out.later hb (Nat.le_refl _)); replace BEL := Lib.hid (BEL.out.trans (hb.mono BEL.out.size)); replace LP := Lib.hid (LP.out.later hb (Nat.le_refl _)); replace OP := Lib.hid (OP.out.below hb OP.out.lt); replace LJ := Lib.hid (LJ.out.later hb (Nat.le_refl _)); replace OJ := Lib.hid (OJ.out.below hb OJ.out.lt); clear hb hfp lOA zOA lOX zOX) | fail)
    generalize lw.length = nw at *
    replace OA := Lib.hid (OA.out.alloc (.cells #[.int .i64 (SA 0), .int .i64 (SA 1), .int .i64 (SA 2), .int .i64 (SA 3), .int .i64 (SA 4), .int .i64 (SA 5), .int .i64 (SA 6), .int .i64 (SA 7), .slice ow nw cw] 26))
    replace OB := Lib.hid (OB.out.alloc (.cells #[.int .i64 (SA 0), .int .i64 (SA 1), .int .i64 (SA 2), .int .i64 (SA 3), .int .i64 (SA 4), .int .i64 (SA 5), .int .i64 (SA 6), .int .i64 (SA 7), .slice ow nw cw] 26))
    replace OX := Lib.hid (OX.out.alloc (.cells #[.int .i64 (SA 0), .int .i64 (SA 1), .int .i64 (SA 2), .int .i64 (SA 3), .int .i64 (SA 4), .int .i64 (SA 5), .int .i64 (SA 6), .int .i64 (SA 7), .slice ow nw cw] 26))
    replace OY := Lib.hid (OY.out.alloc (.cells #[.int .i64 (SA 0), .int .i64 (SA 1), .int .i64 (SA 2), .int .i64 (SA 3), .int .i64 (SA 4), .int .i64 (SA 5), .int .i64 (SA 6), .int .i64 (SA 7), .slice ow nw cw] 26))
    replace LA := Lib.hid (LA.out.later ((Below.refl _ _).alloc (Nat.le_refl _) (.cells #[.int .i64 (SA 0), .int .i64 (SA 1), .int .i64 (SA 2), .int .i64 (SA 3), .int .i64 (SA 4), .int .i64 (SA 5), .int .i64 (SA 6), .int .i64 (SA 7), .slice ow nw cw] 26)) (Nat.le_refl _))
    replace LB := Lib.hid (LB.out.later ((Below.refl _ _).alloc (Nat.le_refl _) (.cells #[.int .i64 (SA 0), .int .i64 (SA 1), .int .i64 (SA 2), .int .i64 (SA 3), .int .i64 (SA 4), .int .i64 (SA 5), .int .i64 (SA 6), .int .i64 (SA 7), .slice ow nw cw] 26)) (Nat.le_refl _))
    replace BEL := Lib.hid (BEL.out.alloc BEL.out.size (.cells #[.int .i64 (SA 0), .int .i64 (SA 1), .int .i64 (SA 2), .int .i64 (SA 3), .int .i64 (SA 4), .int .i64 (SA 5), .int .i64 (SA 6), .int .i64 (SA 7), .slice ow nw cw] 26))
    replace LP := Lib.hid (LP.out.later ((Below.refl _ _).alloc (Nat.le_refl _) (.cells #[.int .i64 (SA 0), .int .i64 (SA 1), .int .i64 (SA 2), .int .i64 (SA 3), .int .i64 (SA 4), .int .i64 (SA 5), .int .i64 (SA 6), .int .i64 (SA 7), .slice ow nw cw] 26)) (Nat.le_refl _))
    replace OP := Lib.hid (OP.out.alloc (.cells #[.int .i64 (SA 0), .int .i64 (SA 1), .int .i64 (SA 2), .int .i64 (SA 3), .int .i64 (SA 4), .int .i64 (SA 5), .int .i64 (SA 6), .int .i64 (SA 7), .slice ow nw cw] 26))
    replace LJ := Lib.hid (LJ.out.later ((Below.refl _ _).alloc (Nat.le_refl _) (.cells #[.int .i64 (SA 0), .int .i64 (SA 1), .int .i64 (SA 2), .int .i64 (SA 3), .int .i64 (SA 4), .int .i64 (SA 5), .int .i64 (SA 6), .int .i64 (SA 7), .slice ow nw cw] 26)) (Nat.le_refl _))
    replace OJ := Lib.hid (OJ.out.alloc (.cells #[.int .i64 (SA 0), .int .i64 (SA 1), .int .i64 (SA 2), .int .i64 (SA 3), .int .i64 (SA 4), .int .i64 (SA 5), .int .i64 (SA 6), .int .i64 (SA 7), .slice ow nw cw] 26))
    replace LW := Lib.hid (LW.out.later ((Below.refl _ _).alloc (Nat.le_refl _) (.cells #[.int .i64 (SA 0), .int .i64 (SA 1), .int .i64 (SA 2), .int .i64 (SA 3), .int .i64 (SA 4), .int .i64 (SA 5), .int .i64 (SA 6), .int .i64 (SA 7), .slice ow nw cw] 26)) (Nat.le_refl _))
    have OW := Lib.hid (Has.new w7 #[.int .i64 (SA 0), .int .i64 (SA 1), .int .i64 (SA 2), .int .i64 (SA 3), .int .i64 (SA 4), .int .i64 (SA 5), .int .i64 (SA 6), .int .i64 (SA 7), .slice ow nw cw] 26)
    generalize w7.heap.size = bw at *
    generalize w7.alloc (Obj.cells #[.int .i64 (SA 0), .int .i64 (SA 1), .int .i64 (SA 2), .int .i64 (SA 3), .int .i64 (SA 4), .int .i64 (SA 5), .int .i64 (SA 6), .int .i64 (SA 7), .slice ow nw cw] 26) = w7' at *
    have lOA := OA.out.cell
    have zOA := OA.out.lt
    have lOX := OX.out.cell
    have zOX := OX.out.lt
    go_upto_region 13 with (first | (go_at_call 13; refine (KO _ LA.out).out.mono ?_; rintro e w8 ⟨vo, rfl, hfp, hb⟩; obtain ⟨oo, co, rfl⟩ := hfp.val; have LO := Lib.hid hfp; replace OA := Lib.hid (OA.out.below hb OA.out.lt); replace OB := Lib.hid (OB.out.below hb OB.out.lt); replace OX := Lib.hid (OX.out.below hb OX.out.lt); replace OY := Lib.hid (OY.out.below hb OY.out.lt); replace LA := Lib.hid (LA.out.later hb (Nat.le_refl _)); replace LB := Lib.hid (LB.out.later hb (Nat.le_refl _)); replace BEL := Lib.hid (BEL.out.trans (hb.mono BEL.out.size)); replace LP := Lib.hid (LP.out.later hb (Nat.le_refl _)); replace OP := Lib.hid (OP.out.below hb OP.out.lt); replace LJ := Lib.hid (LJ.out.later hb (Nat.le_refl _)); replace OJ := Lib.hid (OJ.out.below hb OJ.out.lt); replace LW := Lib.hid (LW.out.later hb (Nat.le_refl _)); replace OW := Lib.hid (OW.out.below hb OW.out.lt); clear hb hfp lOA zOA lOX zOX) | fail)
    generalize lo.length = no at *
    replace OA := Lib.hid (OA.out.alloc (.cells #[.int .i64 (SO 0), .int .i64 (SO 1), .int .i64 (SO 2), .int .i64 (SO 3), .int .i64 (SO 4), .int .i64 (SO 5), .int .i64 (SO 6), .int .i64 (SO 7), .slice oo no co] 26))
    replace OB := Lib.hid (OB.out.alloc (.cells #[.int .i64 (SO 0), .int .i64 (SO 1), .int .i64 (SO 2), .int .i64 (SO 3), .int .i64 (SO 4), .int .i64 (SO 5), .int .i64 (SO 6), .int .i64 (SO 7), .slice oo no co] 26))
    replace OX := Lib.hid (OX.out.alloc (.cells #[.int .i64 (SO 0), .int .i64 (SO 1), .int .i64 (SO 2), .int .i64 (SO 3), .int .i64 (SO 4), .int .i64 (SO 5), .int .i64 (SO 6), .int .i64 (SO 7), .slice oo no co] 26))
    replace OY := Lib.hid (OY.out.alloc (.cells #[.int .i64 (SO 0), .int .i64 (SO 1), .int .i64 (SO 2), .int .i64 (SO 3), .int .i64 (SO 4), .int .i64 (SO 5), .int .i64 (SO 6), .int .i64 (SO 7), .slice oo no co] 26))
    replace LA := Lib.hid (LA.out.later ((Below.refl _ _).alloc (Nat.le_refl _) (.cells #[.int .i64 (SO 0), .int .i64 (SO 1), .int .i64 (SO 2), .int .i64 (SO 3), .int .i64 (SO 4), .int .i64 (SO 5), .int .i64 (SO 6), .int .i64 (SO 7), .slice oo no co] 26)) (Nat.le_refl _))
    replace LB := Lib.hid (LB.out.later ((Below.refl _ _).alloc (Nat.le_refl _) (.cells #[.int .i64 (SO 0), .int .i64 (SO 1), .int .i64 (SO 2), .int .i64 (SO 3), .int .i64 (SO 4), .int .i64 (SO 5), .int .i64 (SO 6), .int .i64 (SO 7), .slice oo no co] 26)) (Nat.le_refl _))
    replace BEL := Lib.hid (BEL.out.alloc BEL.out.size (.cells #[.int .i64 (SO 0), .int .i64 (SO 1), .int .i64 (SO 2), .int .i64 (SO 3), .int .i64 (SO 4), .int .i64 (SO 5), .int .i64 (SO 6), .int .i64 (SO 7), .slice oo no co] 26))
    replace LP := Lib.hid (LP.out.later ((Below.refl _ _).alloc (Nat.le_refl _) (.cells #[.int .i64 (SO 0), .int .i64 (SO 1), .int .i64 (SO 2), .int .i64 (SO 3), .int .i64 (SO 4), .int .i64 (SO 5), .int .i64 (SO 6), .int .i64 (SO 7), .slice oo no co] 26)) (Nat.le_refl _))
    replace OP := Lib.hid (OP.out.alloc (.cells #[.int .i64 (SO 0), .int .i64 (SO 1), .int .i64 (SO 2), .int .i64 (SO 3), .int .i64 (SO 4), .int .i64 (SO 5), .int .i64 (SO 6), .int .i64 (SO 7), .slice oo no co] 26))
    replace LJ := Lib.hid (LJ.out.later ((Below.refl _ _).alloc (Nat.le_refl _) (.cells #[.int .i64 (SO 0), .int .i64 (SO 1), .int .i64 (SO 2), .int .i64 (SO 3), .int .i64 (SO 4), .int .i64 (SO 5), .int .i64 (SO 6), .int .i64 (SO 7), .slice oo no co] 26)) (Nat.le_refl _))
    replace OJ := Lib.hid (OJ.out.alloc (.cells #[.int .i64 (SO 0), .int .i64 (SO 1), .int .i64 (SO 2), .int .i64 (SO 3), .int .i64 (SO 4), .int .i64 (SO 5), .int .i64 (SO 6), .int .i64 (SO 7), .slice oo no co] 26))
    replace LW := Lib.hid (LW.out.later ((Below.refl _ _).alloc (Nat.le_refl _) (.cells #[.int .i64 (SO 0), .int .i64 (SO 1), .int .i64 (SO 2), .int .i64 (SO 3), .int .i64 (SO 4), .int .i64 (SO 5), .int .i64 (SO 6), .int .i64 (SO 7), .slice oo no co] 26)) (Nat.le_refl _))
    replace OW := Lib.hid (OW.out.alloc (.cells #[.int .i64 (SO 0), .int .i64 (SO 1), .int .i64 (SO 2), .int .i64 (SO 3), .int .i64 (SO 4), .int .i64 (SO 5), .int .i64 (SO 6), .int .i64 (SO 7), .slice oo no co] 26))
    replace LO := Lib.hid (LO.out.later ((Below.refl _ _).alloc (Nat.le_refl _) (.cells #[.int .i64 (SO 0), .int .i64 (SO 1), .int .i64 (SO 2), .int .i64 (SO 3), .int .i64 (SO 4), .int .i64 (SO 5), .int .i64 (SO 6), .int .i64 (SO 7), .slice oo no co] 26)) (Nat.le_refl _))
    have OO := Lib.hid (Has.new w8 #[.int .i64 (SO 0), .int .i64 (SO 1), .int .i64 (SO 2), .int .i64 (SO 3), .int .i64 (SO 4), .int .i64 (SO 5), .int .i64 (SO 6), .int .i64 (SO 7), .slice oo no co] 26)
    generalize w8.heap.size = bo at *
    generalize w8.alloc (Obj.cells #[.int .i64 (SO 0), .int .i64 (SO 1), .int .i64 (SO 2), .int .i64 (SO 3), .int .i64 (SO 4), .int .i64 (SO 5), .int .i64 (SO 6), .int .i64 (SO 7), .slice oo no co] 26) = w8' at *
    cases hw
    · have hgx := Lib.hid (show (1 ≤ r ∧ r ≤ 8 ∧ 1 ≤ c) → hx = true from fun h => I1.out h.1 h.2.1 h.2.2)
      by_cases q1 : 1 ≤ r
      case neg =>
        have lOX := OX.out.cell
        have zOX := OX.out.lt
        have lOY := OY.out.cell
        have zOY := OY.out.lt
        have lOW := OW.out.cell
        have zOW := OW.out.lt
        have lOO := OO.out.cell
        have zOO := OO.out.lt
        go_wp2_with (first | (go_at_call_of 15 (SO); refine (HOy _ _ LO.out).out.mono ?_; rintro e wz ⟨rfl, hb⟩; replace OA := Lib.hid (OA.out.below hb OA.out.lt); replace OB := Lib.hid (OB.out.below hb OB.out.lt); replace OX := Lib.hid (OX.out.below hb OX.out.lt); replace OY := Lib.hid (OY.out.below hb OY.out.lt); replace LA := Lib.hid (LA.out.later hb (Nat.le_refl _)); replace LB := Lib.hid (LB.out.later hb (Nat.le_refl _)); replace BEL := Lib.hid (BEL.out.trans (hb.mono BEL.out.size)); replace LP := Lib.hid (LP.out.later hb (Nat.le_refl _)); replace OP := Lib.hid (OP.out.below hb OP.out.lt); replace LJ := Lib.hid (LJ.out.later hb (Nat.le_refl _)); replace OJ := Lib.hid (OJ.out.below hb OJ.out.lt); replace LW := Lib.hid (LW.out.later hb (Nat.le_refl _)); replace OW := Lib.hid (OW.out.below hb OW.out.lt); replace LO := Lib.hid (LO.out.later hb (Nat.le_refl _)); replace OO := Lib.hid (OO.out.below hb OO.out.lt); replace lOX := OX.out.cell; replace zOX := OX.out.lt; replace lOY := OY.out.cell; replace zOY := OY.out.lt; replace lOW := OW.out.cell; replace zOW := OW.out.lt; replace lOO := OO.out.cell; replace zOO := OO.out.lt; clear hb) | (go_at_call_of 15 (id); refine (HWx _ _ LW.out).out.mono ?_; rintro e wx ⟨rfl, hb⟩; replace OA := Lib.hid (OA.out.below hb OA.out.lt); replace OB := Lib.hid (OB.out.below hb OB.out.lt); replace OX := Lib.hid (OX.out.below hb OX.out.lt); replace OY := Lib.hid (OY.out.below hb OY.out.lt); replace LA := Lib.hid (LA.out.later hb (Nat.le_refl _)); replace LB := Lib.hid (LB.out.later hb (Nat.le_refl _)); replace BEL := Lib.hid (BEL.out.trans (hb.mono BEL.out.size)); replace LP := Lib.hid (LP.out.later hb (Nat.le_refl _)); replace OP := Lib.hid (OP.out.below hb OP.out.lt); replace LJ := Lib.hid (LJ.out.later hb (Nat.le_refl _)); replace OJ := Lib.hid (OJ.out.below hb OJ.out.lt); replace LW := Lib.hid (LW.out.later hb (Nat.le_refl _)); replace OW := Lib.hid (OW.out.below hb OW.out.lt); replace LO := Lib.hid (LO.out.later hb (Nat.le_refl _)); replace OO := Lib.hid (OO.out.below hb OO.out.lt); replace lOX := OX.out.cell; replace zOX := OX.out.lt; replace lOY := OY.out.cell; replace zOY := OY.out.lt; replace lOW := OW.out.cell; replace zOW := OW.out.lt; replace lOO := OO.out.cell; replace zOO := OO.out.lt; clear hb) | (go_at_call_of 15 (other); refine (HWy _ _ LW.out).out.mono ?_; rintro e wy ⟨rfl, hb⟩; replace OA := Lib.hid (OA.out.below hb OA.out.lt); replace OB := Lib.hid (OB.out.below hb OB.out.lt); replace OX := Lib.hid (OX.out.below hb OX.out.lt); replace OY := Lib.hid (OY.out.below hb OY.out.lt); replace LA := Lib.hid (LA.out.later hb (Nat.le_refl _)); replace LB := Lib.hid (LB.out.later hb (Nat.le_refl _)); replace BEL := Lib.hid (BEL.out.trans (hb.mono BEL.out.size)); replace LP := Lib.hid (LP.out.later hb (Nat.le_refl _)); replace OP := Lib.hid (OP.out.below hb OP.out.lt); replace LJ := Lib.hid (LJ.out.later hb (Nat.le_refl _)); replace OJ := Lib.hid (OJ.out.below hb OJ.out.lt); replace LW := Lib.hid (LW.out.later hb (Nat.le_refl _)); replace OW := Lib.hid (OW.out.below hb OW.out.lt); replace LO := Lib.hid (LO.out.later hb (Nat.le_refl _)); replace OO := Lib.hid (OO.out.below hb OO.out.lt); replace lOX := OX.out.cell; replace zOX := OX.out.lt; replace lOY := OY.out.cell; replace zOY := OY.out.lt; replace lOW := OW.out.cell; replace zOW := OW.out.lt; replace lOO := OO.out.cell; replace zOO := OO.out.lt; clear hb) | fail)
        go_ret
        exact ⟨by first | rfl | simp_all, BEL.out⟩
      by_cases q2 : r ≤ 8
      case neg =>
        have lOX := OX.out.cell
        have zOX := OX.out.lt
        have lOY := OY.out.cell
        have zOY := OY.out.lt
        have lOW := OW.out.cell
        have zOW := OW.out.lt
        have lOO := OO.out.cell
        have zOO := OO.out.lt
        go_wp2_with (first | (go_at_call_of 15 (SO); refine (HOy _ _ LO.out).out.mono ?_; rintro e wz ⟨rfl, hb⟩; replace OA := Lib.hid (OA.out.below hb OA.out.lt); replace OB := Lib.hid (OB.out.below hb OB.out.lt); replace OX := Lib.hid (OX.out.below hb OX.out.lt); replace OY := Lib.hid (OY.out.below hb OY.out.lt); replace LA := Lib.hid (LA.out.later hb (Nat.le_refl _)); replace LB := Lib.hid (LB.out.later hb (Nat.le_refl _)); replace BEL := Lib.hid (BEL.out.trans (hb.mono BEL.out.size)); replace LP := Lib.hid (LP.out.later hb (Nat.le_refl _)); replace OP := Lib.hid (OP.out.below hb OP.out.lt); replace LJ := Lib.hid (LJ.out.later hb (Nat.le_refl _)); replace OJ := Lib.hid (OJ.out.below hb OJ.out.lt); replace LW := Lib.hid (LW.out.later hb (Nat.le_refl _)); replace OW := Lib.hid (OW.out.below hb OW.out.lt); replace LO := Lib.hid (LO.out.later hb (Nat.le_refl _)); replace OO := Lib.hid (OO.out.below hb OO.out.lt); replace lOX := OX.out.cell; replace zOX := OX.out.lt; replace lOY := OY.out.cell; replace zOY := OY.out.lt; replace lOW := OW.out.cell; replace zOW := OW.out.lt; replace lOO := OO.out.cell; replace zOO := OO.out.lt; clear hb) | (go_at_call_of 15 (id); refine (HWx _ _ LW.out).out.mono ?_; rintro e wx ⟨rfl, hb⟩; replace OA := Lib.hid (OA.out.below hb OA.out.lt); replace OB := Lib.hid (OB.out.below hb OB.out.lt); replace OX := Lib.hid (OX.out.below hb OX.out.lt); replace OY := Lib.hid (OY.out.below hb OY.out.lt); replace LA := Lib.hid (LA.out.later hb (Nat.le_refl _)); replace LB := Lib.hid (LB.out.later hb (Nat.le_refl _)); replace BEL := Lib.hid (BEL.out.trans (hb.mono BEL.out.size)); replace LP := Lib.hid (LP.out.later hb (Nat.le_refl _)); replace OP := Lib.hid (OP.out.below hb OP.out.lt); replace LJ := Lib.hid (LJ.out.later hb (Nat.le_refl _)); replace OJ := Lib.hid (OJ.out.below hb OJ.out.lt); replace LW := Lib.hid (LW.out.later hb (Nat.le_refl _)); replace OW := Lib.hid (OW.out.below hb OW.out.lt); replace LO := Lib.hid (LO.out.later hb (Nat.le_refl _)); replace OO := Lib.hid (OO.out.below hb OO.out.lt); replace lOX := OX.out.cell; replace zOX := OX.out.lt; replace lOY := OY.out.cell; replace zOY := OY.out.lt; replace lOW := OW.out.cell; replace zOW := OW.out.lt; replace lOO := OO.out.cell; replace zOO := OO.out.lt; clear hb) | (go_at_call_of 15 (other); refine (HWy _ _ LW.out).out.mono ?_; rintro e wy ⟨rfl, hb⟩; replace OA := Lib.hid (OA.out.below hb OA.out.lt); replace OB := Lib.hid (OB.out.below hb OB.out.lt); replace OX := Lib.hid (OX.out.below hb OX.out.lt); replace OY := Lib.hid (OY.out.below hb OY.out.lt); replace LA := Lib.hid (LA.out.later hb (Nat.le_refl _)); replace LB := Lib.hid (LB.out.later hb (Nat.le_refl _)); replace BEL := Lib.hid (BEL.out.trans (hb.mono BEL.out.size)); replace LP := Lib.hid (LP.out.later hb (Nat.le_refl _)); replace OP := Lib.hid (OP.out.below hb OP.out.lt); replace LJ := Lib.hid (LJ.out.later hb (Nat.le_refl _)); replace OJ := Lib.hid (OJ.out.below hb OJ.out.lt); replace LW := Lib.hid (LW.out.later hb (Nat.le_refl _)); replace OW := Lib.hid (OW.out.below hb OW.out.lt); replace LO := Lib.hid (LO.out.later hb (Nat.le_refl _)); replace OO := Lib.hid (OO.out.below hb OO.out.lt); replace lOX := OX.out.cell; replace zOX := OX.out.lt; replace lOY := OY.out.cell; replace zOY := OY.out.lt; replace lOW := OW.out.cell; replace zOW := OW.out.lt; replace lOO := OO.out.cell; replace zOO := OO.out.lt; clear hb) | fail)
        go_ret
        exact ⟨by first | rfl | simp_all, BEL.out⟩
      by_cases q3 : 1 ≤ c
      case neg =>
        have lOX := OX.out.cell
        have zOX := OX.out.lt
        have lOY := OY.out.cell
        have zOY := OY.out.lt
        have lOW := OW.out.cell
        have zOW := OW.out.lt
        have lOO := OO.out.cell
        have zOO := OO.out.lt
        go_wp2_with (first | (go_at_call_of 15 (SO); refine (HOy _ _ LO.out).out.mono ?_; rintro e wz ⟨rfl, hb⟩; replace OA := Lib.hid (OA.out.below hb OA.out.lt); replace OB := Lib.hid (OB.out.below hb OB.out.lt); replace OX := Lib.hid (OX.out.below hb OX.out.lt); replace OY := Lib.hid (OY.out.below hb OY.out.lt); replace LA := Lib.hid (LA.out.later hb (Nat.le_refl _)); replace LB := Lib.hid (LB.out.later hb (Nat.le_refl _)); replace BEL := Lib.hid (BEL.out.trans (hb.mono BEL.out.size)); replace LP := Lib.hid (LP.out.later hb (Nat.le_refl _)); replace OP := Lib.hid (OP.out.below hb OP.out.lt); replace LJ := Lib.hid (LJ.out.later hb (Nat.le_refl _)); replace OJ := Lib.hid (OJ.out.below hb OJ.out.lt); replace LW := Lib.hid (LW.out.later hb (Nat.le_refl _)); replace OW := Lib.hid (OW.out.below hb OW.out.lt); replace LO := Lib.hid (LO.out.later hb (Nat.le_refl _)); replace OO := Lib.hid (OO.out.below hb OO.out.lt); replace lOX := OX.out.cell; replace zOX := OX.out.lt; replace lOY := OY.out.cell; replace zOY := OY.out.lt; replace lOW := OW.out.cell; replace zOW := OW.out.lt; replace lOO := OO.out.cell; replace zOO := OO.out.lt; clear hb) | (go_at_call_of 15 (id); refine (HWx _ _ LW.out).out.mono ?_; rintro e wx ⟨rfl, hb⟩; replace OA := Lib.hid (OA.out.below hb OA.out.lt); replace OB := Lib.hid (OB.out.below hb OB.out.lt); replace OX := Lib.hid (OX.out.below hb OX.out.lt); replace OY := Lib.hid (OY.out.below hb OY.out.lt); replace LA := Lib.hid (LA.out.later hb (Nat.le_refl _)); replace LB := Lib.hid (LB.out.later hb (Nat.le_refl _)); replace BEL := Lib.hid (BEL.out.trans (hb.mono BEL.out.size)); replace LP := Lib.hid (LP.out.later hb (Nat.le_refl _)); replace OP := Lib.hid (OP.out.below hb OP.out.lt); replace LJ := Lib.hid (LJ.out.later hb (Nat.le_refl _)); replace OJ := Lib.hid (OJ.out.below hb OJ.out.lt); replace LW := Lib.hid (LW.out.later hb (Nat.le_refl _)); replace OW := Lib.hid (OW.out.below hb OW.out.lt); replace LO := Lib.hid (LO.out.later hb (Nat.le_refl _)); replace OO := Lib.hid (OO.out.below hb OO.out.lt); replace lOX := OX.out.cell; replace zOX := OX.out.lt; replace lOY := OY.out.cell; replace zOY := OY.out.lt; replace lOW := OW.out.cell; replace zOW := OW.out.lt; replace lOO := OO.out.cell; replace zOO := OO.out.lt; clear hb) | (go_at_call_of 15 (other); refine (HWy _ _ LW.out).out.mono ?_; rintro e wy ⟨rfl, hb⟩; replace OA := Lib.hid (OA.out.below hb OA.out.lt); replace OB := Lib.hid (OB.out.below hb OB.out.lt); replace OX := Lib.hid (OX.out.below hb OX.out.lt); replace OY := Lib.hid (OY.out.below hb OY.out.lt); replace LA := Lib.hid (LA.out.later hb (Nat.le_refl _)); replace LB := Lib.hid (LB.out.later hb (Nat.le_refl _)); replace BEL := Lib.hid (BEL.out.trans (hb.mono BEL.out.size)); replace LP := Lib.hid (LP.out.later hb (Nat.le_refl _)); replace OP := Lib.hid (OP.out.below hb OP.out.lt); replace LJ := Lib.hid (LJ.out.later hb (Nat.le_refl _)); replace OJ := Lib.hid (OJ.out.below hb OJ.out.lt); replace LW := Lib.hid (LW.out.later hb (Nat.le_refl _)); replace OW := Lib.hid (OW.out.below hb OW.out.lt); replace LO := Lib.hid (LO.out.later hb (Nat.le_refl _)); replace OO := Lib.hid (OO.out.below hb OO.out.lt); replace lOX := OX.out.cell; replace zOX := OX.out.lt; replace lOY := OY.out.cell; replace zOY := OY.out.lt; replace lOW := OW.out.cell; replace zOW := OW.out.lt; replace lOO := OO.out.cell; replace zOO := OO.out.lt; clear hb) | fail)
        go_ret
        exact ⟨by first | rfl | simp_all, BEL.out⟩
      have hxt := hgx.out ⟨q1, q2, q3⟩
      subst hxt
      have lOX := OX.out.cell
      have zOX := OX.out.lt
      have lOY := OY.out.cell
      have zOY := OY.out.lt
      have lOW := OW.out.cell
      have zOW := OW.out.lt
      have lOO := OO.out.cell
      have zOO := OO.out.lt
      go_wp2_with (first | (go_at_call_of 15 (SO); refine (HOy _ _ LO.out).out.mono ?_; rintro e wz ⟨rfl, hb⟩; replace OA := Lib.hid (OA.out.below hb OA.out.lt); replace OB := Lib.hid (OB.out.below hb OB.out.lt); replace OX := Lib.hid (OX.out.below hb OX.out.lt); replace OY := Lib.hid (OY.out.below hb OY.out.lt); replace LA := Lib.hid (LA.out.later hb (Nat.le_refl _)); replace LB := Lib.hid (LB.out.later hb (Nat.le_refl _)); replace BEL := Lib.hid (BEL.out.trans (hb.mono BEL.out.size)); replace LP := Lib.hid (LP.out.later hb (Nat.le_refl _)); replace OP := Lib.hid (OP.out.below hb OP.out.lt); replace LJ := Lib.hid (LJ.out.later hb (Nat.le_refl _)); replace OJ := Lib.hid (OJ.out.below hb OJ.out.lt); replace LW := Lib.hid (LW.out.later hb (Nat.le_refl _)); replace OW := Lib.hid (OW.out.below hb OW.out.lt); replace LO := Lib.hid (LO.out.later hb (Nat.le_refl _)); replace OO := Lib.hid (OO.out.below hb OO.out.lt); replace lOX := OX.out.cell; replace zOX := OX.out.lt; replace lOY := OY.out.cell; replace zOY := OY.out.lt; replace lOW := OW.out.cell; replace zOW := OW.out.lt; replace lOO := OO.out.cell; replace zOO := OO.out.lt; clear hb) | (go_at_call_of 15 (id); refine (HWx _ _ LW.out).out.mono ?_; rintro e wx ⟨rfl, hb⟩; replace OA := Lib.hid (OA.out.below hb OA.out.lt); replace OB := Lib.hid (OB.out.below hb OB.out.lt); replace OX := Lib.hid (OX.out.below hb OX.out.lt); replace OY := Lib.hid (OY.out.below hb OY.out.lt); replace LA := Lib.hid (LA.out.later hb (Nat.le_refl _)); replace LB := Lib.hid (LB.out.later hb (Nat.le_refl _)); replace BEL := Lib.hid (BEL.out.trans (hb.mono BEL.out.size)); replace LP := Lib.hid (LP.out.later hb (Nat.le_refl _)); replace OP := Lib.hid (OP.out.below hb OP.out.lt); replace LJ := Lib.hid (LJ.out.later hb (Nat.le_refl _)); replace OJ := Lib.hid (OJ.out.below hb OJ.out.lt); replace LW := Lib.hid (LW.out.later hb (Nat.le_refl _)); replace OW := Lib.hid (OW.out.below hb OW.out.lt); replace LO := Lib.hid (LO.out.later hb (Nat.le_refl _)); replace OO := Lib.hid (OO.out.below hb OO.out.lt); replace lOX := OX.out.cell; replace zOX := OX.out.lt; replace lOY := OY.out.cell; replace zOY := OY.out.lt; replace lOW := OW.out.cell; replace zOW := OW.out.lt; replace lOO := OO.out.cell; replace zOO := OO.out.lt; clear hb) | (go_at_call_of 15 (other); refine (HWy _ _ LW.out).out.mono ?_; rintro e wy ⟨rfl, hb⟩; replace OA := Lib.hid (OA.out.below hb OA.out.lt); replace OB := Lib.hid (OB.out.below hb OB.out.lt); replace OX := Lib.hid (OX.out.below hb OX.out.lt); replace OY := Lib.hid (OY.out.below hb OY.out.lt); replace LA := Lib.hid (LA.out.later hb (Nat.le_refl _)); replace LB := Lib.hid (LB.out.later hb (Nat.le_refl _)); replace BEL := Lib.hid (BEL.out.trans (hb.mono BEL.out.size)); replace LP := Lib.hid (LP.out.later hb (Nat.le_refl _)); replace OP := Lib.hid (OP.out.below hb OP.out.lt); replace LJ := Lib.hid (LJ.out.later hb (Nat.le_refl _)); replace OJ := Lib.hid (OJ.out.below hb OJ.out.lt); replace LW := Lib.hid (LW.out.later hb (Nat.le_refl _)); replace OW := Lib.hid (OW.out.below hb OW.out.lt); replace LO := Lib.hid (LO.out.later hb (Nat.le_refl _)); replace OO := Lib.hid (OO.out.below hb OO.out.lt); replace lOX := OX.out.cell; replace zOX := OX.out.lt; replace lOY := OY.out.cell; replace zOY := OY.out.lt; replace lOW := OW.out.cell; replace zOW := OW.out.lt; replace lOO := OO.out.cell; replace zOO := OO.out.lt; clear hb) | fail)
      go_ret
      exact ⟨by first | rfl | simp_all, BEL.out⟩
    · have hot := I3.out (by first | trivial | rfl)
      subst hot
      have hgx := Lib.hid (show (1 ≤ r ∧ r ≤ 8 ∧ 1 ≤ c) → hx = true from fun h => I1.out h.1 h.2.1 h.2.2)
      by_cases q1 : 1 ≤ r
      case neg =>
        have lOX := OX.out.cell
        have zOX := OX.out.lt
        have lOY := OY.out.cell
        have zOY := OY.out.lt
        have lOW := OW.out.cell
        have zOW := OW.out.lt
        have lOO := OO.out.cell
        have zOO := OO.out.lt
        go_wp2_with (first | (go_at_call_of 15 (SO); refine (HOy _ _ LO.out).out.mono ?_; rintro e wz ⟨rfl, hb⟩; replace OA := Lib.hid (OA.out.below hb OA.out.lt); replace OB := Lib.hid (OB.out.below hb OB.out.lt); replace OX := Lib.hid (OX.out.below hb OX.out.lt); replace OY := Lib.hid (OY.out.below hb OY.out.lt); replace LA := Lib.hid (LA.out.later hb (Nat.le_refl _)); replace LB := Lib.hid (LB.out.later hb (Nat.le_refl _)); replace BEL := Lib.hid (BEL.out.trans (hb.mono BEL.out.size)); replace LP := Lib.hid (LP.out.later hb (Nat.le_refl _)); replace OP := Lib.hid (OP.out.below hb OP.out.lt); replace LJ := Lib.hid (LJ.out.later hb (Nat.le_refl _)); replace OJ := Lib.hid (OJ.out.below hb OJ.out.lt); replace LW := Lib.hid (LW.out.later hb (Nat.le_refl _)); replace OW := Lib.hid (OW.out.below hb OW.out.lt); replace LO := Lib.hid (LO.out.later hb (Nat.le_refl _)); replace OO := Lib.hid (OO.out.below hb OO.out.lt); replace lOX := OX.out.cell; replace zOX := OX.out.lt; replace lOY := OY.out.cell; replace zOY := OY.out.lt; replace lOW := OW.out.cell; replace zOW := OW.out.lt; replace lOO := OO.out.cell; replace zOO := OO.out.lt; clear hb) | (go_at_call_of 15 (id); refine (HWx _ _ LW.out).out.mono ?_; rintro e wx ⟨rfl, hb⟩; replace OA := Lib.hid (OA.out.below hb OA.out.lt); replace OB := Lib.hid (OB.out.below hb OB.out.lt); replace OX := Lib.hid (OX.out.below hb OX.out.lt); replace OY := Lib.hid (OY.out.below hb OY.out.lt); replace LA := Lib.hid (LA.out.later hb (Nat.le_refl _)); replace LB := Lib.hid (LB.out.later hb (Nat.le_refl _)); replace BEL := Lib.hid (BEL.out.trans (hb.mono BEL.out.size)); replace LP := Lib.hid (LP.out.later hb (Nat.le_refl _)); replace OP := Lib.hid (OP.out.below hb OP.out.lt); replace LJ := Lib.hid (LJ.out.later hb (Nat.le_refl _)); replace OJ := Lib.hid (OJ.out.below hb OJ.out.lt); replace LW := Lib.hid (LW.out.later hb (Nat.le_refl _)); replace OW := Lib.hid (OW.out.below hb OW.out.lt); replace LO := Lib.hid (LO.out.later hb (Nat.le_refl _)); replace OO := Lib.hid (OO.out.below hb OO.out.lt); replace lOX := OX.out.cell; replace zOX := OX.out.lt; replace lOY := OY.out.cell; replace zOY := OY.out.lt; replace lOW := OW.out.cell; replace zOW := OW.out.lt; replace lOO := OO.out.cell; replace zOO := OO.out.lt; clear hb) | (go_at_call_of 15 (other); refine (HWy _ _ LW.out).out.mono ?_; rintro e wy ⟨rfl, hb⟩; replace OA := Lib.hid (OA.out.below hb OA.out.lt); replace OB := Lib.hid (OB.out.below hb OB.out.lt); replace OX := Lib.hid (OX.out.below hb OX.out.lt); replace OY := Lib.hid (OY.out.below hb OY.out.lt); replace LA := Lib.hid (LA.out.later hb (Nat.le_refl _)); replace LB := Lib.hid (LB.out.later hb (Nat.le_refl _)); replace BEL := Lib.hid (BEL.out.trans (hb.mono BEL.out.size)); replace LP := Lib.hid (LP.out.later hb (Nat.le_refl _)); replace OP := Lib.hid (OP.out.below hb OP.out.lt); replace LJ := Lib.hid (LJ.out.later hb (Nat.le_refl _)); replace OJ := Lib.hid (OJ.out.below hb OJ.out.lt); replace LW := Lib.hid (LW.out.later hb (Nat.le_refl _)); replace OW := Lib.hid (OW.out.below hb OW.out.lt); replace LO := Lib.hid (LO.out.later hb (Nat.le_refl _)); replace OO := Lib.hid (OO.out.below hb OO.out.lt); replace lOX := OX.out.cell; replace zOX := OX.out.lt; replace lOY := OY.out.cell; replace zOY := OY.out.lt; replace lOW := OW.out.cell; replace zOW := OW.out.lt; replace lOO := OO.out.cell; replace zOO := OO.out.lt; clear hb) | fail)
        go_ret
        exact ⟨by first | rfl | simp_all, BEL.out⟩
      by_cases q2 : r ≤ 8
      case neg =>
        have lOX := OX.out.cell
        have zOX := OX.out.lt
        have lOY := OY.out.cell
        have zOY := OY.out.lt
        have lOW := OW.out.cell
        have zOW := OW.out.lt
        have lOO := OO.out.cell
        have zOO := OO.out.lt
        go_wp2_with (first | (go_at_call_of 15 (SO); refine (HOy _ _ LO.out).out.mono ?_; rintro e wz ⟨rfl, hb⟩; replace OA := Lib.hid (OA.out.below hb OA.out.lt); replace OB := Lib.hid (OB.out.below hb OB.out.lt); replace OX := Lib.hid (OX.out.below hb OX.out.lt); replace OY := Lib.hid (OY.out.below hb OY.out.lt); replace LA := Lib.hid (LA.out.later hb (Nat.le_refl _)); replace LB := Lib.hid (LB.out.later hb (Nat.le_refl _)); replace BEL := Lib.hid (BEL.out.trans (hb.mono BEL.out.size)); replace LP := Lib.hid (LP.out.later hb (Nat.le_refl _)); replace OP := Lib.hid (OP.out.below hb OP.out.lt); replace LJ := Lib.hid (LJ.out.later hb (Nat.le_refl _)); replace OJ := Lib.hid (OJ.out.below hb OJ.out.lt); replace LW := Lib.hid (LW.out.later hb (Nat.le_refl _)); replace OW := Lib.hid (OW.out.below hb OW.out.lt); replace LO := Lib.hid (LO.out.later hb (Nat.le_refl _)); replace OO := Lib.hid (OO.out.below hb OO.out.lt); replace lOX := OX.out.cell; replace zOX := OX.out.lt; replace lOY := OY.out.cell; replace zOY := OY.out.lt; replace lOW := OW.out.cell; replace zOW := OW.out.lt; replace lOO := OO.out.cell; replace zOO := OO.out.lt; clear hb) | (go_at_call_of 15 (id); refine (HWx _ _ LW.out).out.mono ?_; rintro e wx ⟨rfl, hb⟩; replace OA := Lib.hid (OA.out.below hb OA.out.lt); replace OB := Lib.hid (OB.out.below hb OB.out.lt); replace OX := Lib.hid (OX.out.below hb OX.out.lt); replace OY := Lib.hid (OY.out.below hb OY.out.lt); replace LA := Lib.hid (LA.out.later hb (Nat.le_refl _)); replace LB := Lib.hid (LB.out.later hb (Nat.le_refl _)); replace BEL := Lib.hid (BEL.out.trans (hb.mono BEL.out.size)); replace LP := Lib.hid (LP.out.later hb (Nat.le_refl _)); replace OP := Lib.hid (OP.out.below hb OP.out.lt); replace LJ := Lib.hid (LJ.out.later hb (Nat.le_refl _)); replace OJ := Lib.hid (OJ.out.below hb OJ.out.lt); replace LW := Lib.hid (LW.out.later hb (Nat.le_refl _)); replace OW := Lib.hid (OW.out.below hb OW.out.lt); replace LO := Lib.hid (LO.out.later hb (Nat.le_refl _)); replace OO := Lib.hid (OO.out.below hb OO.out.lt); replace lOX := OX.out.cell; replace zOX := OX.out.lt; replace lOY := OY.out.cell; replace zOY := OY.out.lt; replace lOW := OW.out.cell; replace zOW := OW.out.lt; replace lOO := OO.out.cell; replace zOO := OO.out.lt; clear hb) | (go_at_call_of 15 (other); refine (HWy _ _ LW.out).out.mono ?_; rintro e wy ⟨rfl, hb⟩; replace OA := Lib.hid (OA.out.below hb OA.out.lt); replace OB := Lib.hid (OB.out.below hb OB.out.lt); replace OX := Lib.hid (OX.out.below hb OX.out.lt); replace OY := Lib.hid (OY.out.below hb OY.out.lt); replace LA := Lib.hid (LA.out.later hb (Nat.le_refl _)); replace LB := Lib.hid (LB.out.later hb (Nat.le_refl _)); replace BEL := Lib.hid (BEL.out.trans (hb.mono BEL.out.size)); replace LP := Lib.hid (LP.out.later hb (Nat.le_refl _)); replace OP := Lib.hid (OP.out.below hb OP.out.lt); replace LJ := Lib.hid (LJ.out.later hb (Nat.le_refl _)); replace OJ := Lib.hid (OJ.out.below hb OJ.out.lt); replace LW := Lib.hid (LW.out.later hb (Nat.le_refl _)); replace OW := Lib.hid (OW.out.below hb OW.out.lt); replace LO := Lib.hid (LO.out.later hb (Nat.le_refl _)); replace OO := Lib.hid (OO.out.below hb OO.out.lt); replace lOX := OX.out.cell; replace zOX := OX.out.lt; replace lOY := OY.out.cell; replace zOY := OY.out.lt; replace lOW := OW.out.cell; replace zOW := OW.out.lt; replace lOO := OO.out.cell; replace zOO := OO.out.lt; clear hb) | fail)
        go_ret
        exact ⟨by first | rfl | simp_all, BEL.out⟩
      by_cases q3 : 1 ≤ c
      case neg =>
        have lOX := OX.out.cell
        have zOX := OX.out.lt
        have lOY := OY.out.cell
        have zOY := OY.out.lt
        have lOW := OW.out.cell
        have zOW := OW.out.lt
        have lOO := OO.out.cell
        have zOO := OO.out.lt
        go_wp2_with (first | (go_at_call_of 15 (SO); refine (HOy _ _ LO.out).out.mono ?_; rintro e wz ⟨rfl, hb⟩; replace OA := Lib.hid (OA.out.below hb OA.out.lt); replace OB := Lib.hid (OB.out.below hb OB.out.lt); replace OX := Lib.hid (OX.out.below hb OX.out.lt); replace OY := Lib.hid (OY.out.below hb OY.out.lt); replace LA := Lib.hid (LA.out.later hb (Nat.le_refl _)); replace LB := Lib.hid (LB.out.later hb (Nat.le_refl _)); replace BEL := Lib.hid (BEL.out.trans (hb.mono BEL.out.size)); replace LP := Lib.hid (LP.out.later hb (Nat.le_refl _)); replace OP := Lib.hid (OP.out.below hb OP.out.lt); replace LJ := Lib.hid (LJ.out.later hb (Nat.le_refl _)); replace OJ := Lib.hid (OJ.out.below hb OJ.out.lt); replace LW := Lib.hid (LW.out.later hb (Nat.le_refl _)); replace OW := Lib.hid (OW.out.below hb OW.out.lt); replace LO := Lib.hid (LO.out.later hb (Nat.le_refl _)); replace OO := Lib.hid (OO.out.below hb OO.out.lt); replace lOX := OX.out.cell; replace zOX := OX.out.lt; replace lOY := OY.out.cell; replace zOY := OY.out.lt; replace lOW := OW.out.cell; replace zOW := OW.out.lt; replace lOO := OO.out.cell; replace zOO := OO.out.lt; clear hb) | (go_at_call_of 15 (id); refine (HWx _ _ LW.out).out.mono ?_; rintro e wx ⟨rfl, hb⟩; replace OA := Lib.hid (OA.out.below hb OA.out.lt); replace OB := Lib.hid (OB.out.below hb OB.out.lt); replace OX := Lib.hid (OX.out.below hb OX.out.lt); replace OY := Lib.hid (OY.out.below hb OY.out.lt); replace LA := Lib.hid (LA.out.later hb (Nat.le_refl _)); replace LB := Lib.hid (LB.out.later hb (Nat.le_refl _)); replace BEL := Lib.hid (BEL.out.trans (hb.mono BEL.out.size)); replace LP := Lib.hid (LP.out.later hb (Nat.le_refl _)); replace OP := Lib.hid (OP.out.below hb OP.out.lt); replace LJ := Lib.hid (LJ.out.later hb (Nat.le_refl _)); replace OJ := Lib.hid (OJ.out.below hb OJ.out.lt); replace LW := Lib.hid (LW.out.later hb (Nat.le_refl _)); replace OW := Lib.hid (OW.out.below hb OW.out.lt); replace LO := Lib.hid (LO.out.later hb (Nat.le_refl _)); replace OO := Lib.hid (OO.out.below hb OO.out.lt); replace lOX := OX.out.cell; replace zOX := OX.out.lt; replace lOY := OY.out.cell; replace zOY := OY.out.lt; replace lOW := OW.out.cell; replace zOW := OW.out.lt; replace lOO := OO.out.cell; replace zOO := OO.out.lt; clear hb) | (go_at_call_of 15 (other); refine (HWy _ _ LW.out).out.mono ?_; rintro e wy ⟨rfl, hb⟩; replace OA := Lib.hid (OA.out.below hb OA.out.lt); replace OB := Lib.hid (OB.out.below hb OB.out.lt); replace OX := Lib.hid (OX.out.below hb OX.out.lt); replace OY := Lib.hid (OY.out.below hb OY.out.lt); replace LA := Lib.hid (LA.out.later hb (Nat.le_refl _)); replace LB := Lib.hid (LB.out.later hb (Nat.le_refl _)); replace BEL := Lib.hid (BEL.out.trans (hb.mono BEL.out.size)); replace LP := Lib.hid (LP.out.later hb (Nat.le_refl _)); replace OP := Lib.hid (OP.out.below hb OP.out.lt); replace LJ := Lib.hid (LJ.out.later hb (Nat.le_refl _)); replace OJ := Lib.hid (OJ.out.below hb OJ.out.lt); replace LW := Lib.hid (LW.out.later hb (Nat.le_refl _)); replace OW := Lib.hid (OW.out.below hb OW.out.lt); replace LO := Lib.hid (LO.out.later hb (Nat.le_refl _)); replace OO := Lib.hid (OO.out.below hb OO.out.lt); replace lOX := OX.out.cell; replace zOX := OX.out.lt; replace lOY := OY.out.cell; replace zOY := OY.out.lt; replace lOW := OW.out.cell; replace zOW := OW.out.lt; replace lOO := OO.out.cell; replace zOO := OO.out.lt; clear hb) | fail)
        go_ret
        exact ⟨by first | rfl | simp_all, BEL.out⟩
      have hxt := hgx.out ⟨q1, q2, q3⟩
      subst hxt
      have lOX := OX.out.cell
      have zOX := OX.out.lt
      have lOY := OY.out.cell
      have zOY := OY.out.lt
      have lOW := OW.out.cell
      have zOW := OW.out.lt
      have lOO := OO.out.cell
      have zOO := OO.out.lt
      go_wp2_with (first | (go_at_call_of 15 (SO); refine (HOy _ _ LO.out).out.mono ?_; rintro e wz ⟨rfl, hb⟩; replace OA := Lib.hid (OA.out.below hb OA.out.lt); replace OB := Lib.hid (OB.out.below hb OB.out.lt); replace OX := Lib.hid (OX.out.below hb OX.out.lt); replace OY := Lib.hid (OY.out.below hb OY.out.lt); replace LA := Lib.hid (LA.out.later hb (Nat.le_refl _)); replace LB := Lib.hid (LB.out.later hb (Nat.le_refl _)); replace BEL := Lib.hid (BEL.out.trans (hb.mono BEL.out.size)); replace LP := Lib.hid (LP.out.later hb (Nat.le_refl _)); replace OP := Lib.hid (OP.out.below hb OP.out.lt); replace LJ := Lib.hid (LJ.out.later hb (Nat.le_refl _)); replace OJ := Lib.hid (OJ.out.below hb OJ.out.lt); replace LW := Lib.hid (LW.out.later hb (Nat.le_refl _)); replace OW := Lib.hid (OW.out.below hb OW.out.lt); replace LO := Lib.hid (LO.out.later hb (Nat.le_refl _)); replace OO := Lib.hid (OO.out.below hb OO.out.lt); replace lOX := OX.out.cell; replace zOX := OX.out.lt; replace lOY := OY.out.cell; replace zOY := OY.out.lt; replace lOW := OW.out.cell; replace zOW := OW.out.lt; replace lOO := OO.out.cell; replace zOO := OO.out.lt; clear hb) | (go_at_call_of 15 (id); refine (HWx _ _ LW.out).out.mono ?_; rintro e wx ⟨rfl, hb⟩; replace OA := Lib.hid (OA.out.below hb OA.out.lt); replace OB := Lib.hid (OB.out.below hb OB.out.lt); replace OX := Lib.hid (OX.out.below hb OX.out.lt); replace OY := Lib.hid (OY.out.below hb OY.out.lt); replace LA := Lib.hid (LA.out.later hb (Nat.le_refl _)); replace LB := Lib.hid (LB.out.later hb (Nat.le_refl _)); replace BEL := Lib.hid (BEL.out.trans (hb.mono BEL.out.size)); replace LP := Lib.hid (LP.out.later hb (Nat.le_refl _)); replace OP := Lib.hid (OP.out.below hb OP.out.lt); replace LJ := Lib.hid (LJ.out.later hb (Nat.le_refl _)); replace OJ := Lib.hid (OJ.out.below hb OJ.out.lt); replace LW := Lib.hid (LW.out.later hb (Nat.le_refl _)); replace OW := Lib.hid (OW.out.below hb OW.out.lt); replace LO := Lib.hid (LO.out.later hb (Nat.le_refl _)); replace OO := Lib.hid (OO.out.below hb OO.out.lt); replace lOX := OX.out.cell; replace zOX := OX.out.lt; replace lOY := OY.out.cell; replace zOY := OY.out.lt; replace lOW := OW.out.cell; replace zOW := OW.out.lt; replace lOO := OO.out.cell; replace zOO := OO.out.lt; clear hb) | (go_at_call_of 15 (other); refine (HWy _ _ LW.out).out.mono ?_; rintro e wy ⟨rfl, hb⟩; replace OA := Lib.hid (OA.out.below hb OA.out.lt); replace OB := Lib.hid (OB.out.below hb OB.out.lt); replace OX := Lib.hid (OX.out.below hb OX.out.lt); replace OY := Lib.hid (OY.out.below hb OY.out.lt); replace LA := Lib.hid (LA.out.later hb (Nat.le_refl _)); replace LB := Lib.hid (LB.out.later hb (Nat.le_refl _)); replace BEL := Lib.hid (BEL.out.trans (hb.mono BEL.out.size)); replace LP := Lib.hid (LP.out.later hb (Nat.le_refl _)); replace OP := Lib.hid (OP.out.below hb OP.out.lt); replace LJ := Lib.hid (LJ.out.later hb (Nat.le_refl _)); replace OJ := Lib.hid (OJ.out.below hb OJ.out.lt); replace LW := Lib.hid (LW.out.later hb (Nat.le_refl _)); replace OW := Lib.hid (OW.out.below hb OW.out.lt); replace LO := Lib.hid (LO.out.later hb (Nat.le_refl _)); replace OO := Lib.hid (OO.out.below hb OO.out.lt); replace lOX := OX.out.cell; replace zOX := OX.out.lt; replace lOY := OY.out.cell; replace zOY := OY.out.lt; replace lOW := OW.out.cell; replace zOW := OW.out.lt; replace lOO := OO.out.cell; replace zOO := OO.out.lt; clear hb) | fail)
      go_ret
      exact ⟨by first | rfl | simp_all, BEL.out⟩
  · simp only [Bool.true_or] at HJ
    go_upto_region 9 with fail
    go_cut [83] (fun s wx => s = .bool false ∧ Hid (Has wx (w.heap.size) (knA SA (.slice ov len cv)) ∧ Has wx (w.heap.size + 1) (knA SB (.slice ov' len' cv')) ∧ Has wx (w.heap.size + 1 + 1) (#[.int .i64 r, .int .i64 c] : Array Value) ∧ Has wx (w.heap.size + 1 + 1 + 1) (#[.int .i64 r', .int .i64 c'] : Array Value) ∧ FrW wx la (.slice ov len cv) ∧ FrW wx lb (.slice ov' len' cv') ∧ Below w.heap.size w wx ∧ FrW wx lp (.slice op np cp) ∧ Has wx (bp) (knA SA (.slice op np cp)) ∧ FrW wx lj (.slice oj nj cj) ∧ Has wx (bj) (knA M (.slice oj nj cj))))
    case first =>
      replace OA := Lib.hid (OA.out.drew)
      replace OB := Lib.hid (OB.out.drew)
      replace OX := Lib.hid (OX.out.drew)
      replace OY := Lib.hid (OY.out.drew)
      replace LA := Lib.hid (LA.out.later (Below.refl _ _).drew (Nat.le_refl _))
      replace LB := Lib.hid (LB.out.later (Below.refl _ _).drew (Nat.le_refl _))
      replace BEL := Lib.hid (BEL.out.drew)
      replace LP := Lib.hid (LP.out.later (Below.refl _ _).drew (Nat.le_refl _))
      replace OP := Lib.hid (OP.out.drew)
      replace LJ := Lib.hid (LJ.out.later (Below.refl _ _).drew (Nat.le_refl _))
      replace OJ := Lib.hid (OJ.out.drew)
      refine wp_region_held_drew (S := (fun w' => (∀ o, w'.cell? ⟨bj, o, none⟩ = (knA M (.slice oj nj cj))[o]?) ∧ (∀ o, w'.cell? ⟨w.heap.size + 1 + 1 + 1, o, none⟩ = (#[.int .i64 r', .int .i64 c'] : Array Value)[o]?) ∧ (∀ o, w'.cell? ⟨w.heap.size + 1, o, none⟩ = (knA SB (.slice ov' len' cv'))[o]?) ∧ (∀ o, w'.cell? ⟨w.heap.size, o, none⟩ = (knA SA (.slice ov len cv))[o]?))) (by kernel_rfl) (⟨OJ.out.cell, OY.out.cell, OB.out.cell, OA.out.cell⟩) (fun hHeld => ?_)
      refine wpAnyH_take (i := 0) (v := ?_) rfl (by kernel_rfl) (by kernel_rfl) (by kernel_rfl) (fun _ _ _ h => h) (Or.inl ⟨by rfl, ?_⟩) (by assumption) ?_
      rotate_left 1
      · (intro w hSw; (try dsimp only at hSw); go_simp; try with_reducible rfl)
      try simp only [Act.put, List.getElem_toArray, List.getElem_cons_zero, List.getElem_cons_succ, List.setIfInBounds_toArray, List.set_cons_zero, List.set_cons_succ]
      refine wpAnyH_take (i := 1) (v := ?_) rfl (by kernel_rfl) (by kernel_rfl) (by kernel_rfl) (fun _ _ _ h => h) (Or.inl ⟨by rfl, ?_⟩) (by assumption) ?_
      rotate_left 1
      · (intro w hSw; (try dsimp only at hSw); go_simp; try with_reducible rfl)
      try simp only [Act.put, List.getElem_toArray, List.getElem_cons_zero, List.getElem_cons_succ, List.setIfInBounds_toArray, List.set_cons_zero, List.set_cons_succ]
      refine wpAnyH_take (i := 2) (v := ?_) rfl (by kernel_rfl) (by kernel_rfl) (by kernel_rfl) (fun _ _ _ h => h) (Or.inl ⟨by rfl, ?_⟩) (by assumption) ?_
      rotate_left 1
      · (intro w hSw; (try dsimp only at hSw); go_simp; try with_reducible rfl)
      try simp only [Act.put, List.getElem_toArray, List.getElem_cons_zero, List.getElem_cons_succ, List.setIfInBounds_toArray, List.set_cons_zero, List.set_cons_succ]
      refine wpAnyH_take (i := 4) (v := ?_) rfl (by kernel_rfl) (by kernel_rfl) (by kernel_rfl) (fun _ _ _ h => h) (Or.inl ⟨by rfl, ?_⟩) (by assumption) ?_
      rotate_left 1
      · (intro w hSw; (try dsimp only at hSw); go_simp; try with_reducible rfl)
      try simp only [Act.put, List.getElem_toArray, List.getElem_cons_zero, List.getElem_cons_succ, List.setIfInBounds_toArray, List.set_cons_zero, List.set_cons_succ]
      refine wpAnyH_ready (rs := [3]) (by kernel_rfl) (by simp) ?_
      refine AllReadyH.cons rfl (fun K hK => ?_) AllReadyH.nil
      try simp only [List.getElem_toArray, List.getElem_cons_zero, List.getElem_cons_succ]
      go_simp; go_at_call_of 15 (M); refine (HJ _ _ LJ.out).out.mono ?_; rintro e wa ⟨rfl, hb⟩; replace OA := Lib.hid (OA.out.below hb OA.out.lt); replace OB := Lib.hid (OB.out.below hb OB.out.lt); replace OX := Lib.hid (OX.out.below hb OX.out.lt); replace OY := Lib.hid (OY.out.below hb OY.out.lt); replace LA := Lib.hid (LA.out.later hb (Nat.le_refl _)); replace LB := Lib.hid (LB.out.later hb (Nat.le_refl _)); replace BEL := Lib.hid (BEL.out.trans (hb.mono BEL.out.size)); replace LP := Lib.hid (LP.out.later hb (Nat.le_refl _)); replace OP := Lib.hid (OP.out.below hb OP.out.lt); replace LJ := Lib.hid (LJ.out.later hb (Nat.le_refl _)); replace OJ := Lib.hid (OJ.out.below hb OJ.out.lt); clear hb
      try go_wp2_with fail
      refine hK.out _ _ (⟨OJ.out.cell, OY.out.cell, OB.out.cell, OA.out.cell⟩) (fun hHeld => ?_)
      clear hK K
      try simp only [Act.put, List.getElem_toArray, List.getElem_cons_zero, List.getElem_cons_succ, List.setIfInBounds_toArray, List.set_cons_zero, List.set_cons_succ]
      refine wpAnyH_take (i := 5) (v := ?_) rfl (by kernel_rfl) (by kernel_rfl) (by kernel_rfl) (fun _ _ _ h => h) (Or.inl ⟨by rfl, ?_⟩) (by assumption) ?_
      rotate_left 1
      · (intro w hSw; (try dsimp only at hSw); go_simp; try with_reducible rfl)
      try simp only [Act.put, List.getElem_toArray, List.getElem_cons_zero, List.getElem_cons_succ, List.setIfInBounds_toArray, List.set_cons_zero, List.set_cons_succ]
      refine wpAnyH_take (i := 6) (v := undef) rfl (by kernel_rfl) (by kernel_rfl) (by kernel_rfl) (fun _ _ _ h => h) (Or.inr ⟨by rfl, rfl⟩) (by assumption) ?_
      try simp only [Act.put, List.getElem_toArray, List.getElem_cons_zero, List.getElem_cons_succ, List.setIfInBounds_toArray, List.set_cons_zero, List.set_cons_succ]
      refine wpAnyH_take (i := 7) (v := undef) rfl (by kernel_rfl) (by kernel_rfl) (by kernel_rfl) (fun _ _ _ h => h) (Or.inr ⟨by rfl, rfl⟩) (by assumption) ?_
      try simp only [Act.put, List.getElem_toArray, List.getElem_cons_zero, List.getElem_cons_succ, List.setIfInBounds_toArray, List.set_cons_zero, List.set_cons_succ]
      refine wpAnyH_take (i := 8) (v := undef) rfl (by kernel_rfl) (by kernel_rfl) (by kernel_rfl) (fun _ _ _ h => h) (Or.inr ⟨by rfl, rfl⟩) (by assumption) ?_
      try simp only [Act.put, List.getElem_toArray, List.getElem_cons_zero, List.getElem_cons_succ, List.setIfInBounds_toArray, List.set_cons_zero, List.set_cons_succ]
      refine wpAnyH_take (i := 9) (v := undef) rfl (by kernel_rfl) (by kernel_rfl) (by kernel_rfl) (fun _ _ _ h => h) (Or.inr ⟨by rfl, rfl⟩) (by assumption) ?_
      try simp only [Act.put, List.getElem_toArray, List.getElem_cons_zero, List.getElem_cons_succ, List.setIfInBounds_toArray, List.set_cons_zero, List.set_cons_succ]
      refine wpAnyH_take (i := 10) (v := ?_) rfl (by kernel_rfl) (by kernel_rfl) (by kernel_rfl) (fun _ _ _ h => h) (Or.inl ⟨by rfl, ?_⟩) (by assumption) ?_
      rotate_left 1
      · (intro w hSw; (try dsimp only at hSw); go_simp; try with_reducible rfl)
      try simp only [Act.put, List.getElem_toArray, List.getElem_cons_zero, List.getElem_cons_succ, List.setIfInBounds_toArray, List.set_cons_zero, List.set_cons_succ]
      refine wpAnyH_take (i := 11) (v := ?_) rfl (by kernel_rfl) (by kernel_rfl) (by kernel_rfl) (fun _ _ _ h => h) (Or.inl ⟨by rfl, ?_⟩) (by assumption) ?_
      rotate_left 1
      · (intro w hSw; (try dsimp only at hSw); go_simp; try with_reducible rfl)
      try simp only [Act.put, List.getElem_toArray, List.getElem_cons_zero, List.getElem_cons_succ, List.setIfInBounds_toArray, List.set_cons_zero, List.set_cons_succ]
      refine wpAnyH_take (i := 12) (v := ?_) rfl (by kernel_rfl) (by kernel_rfl) (by kernel_rfl) (fun _ _ _ h => h) (Or.inl ⟨by rfl, ?_⟩) (by assumption) ?_
      rotate_left 1
      · (intro w hSw; (try dsimp only at hSw); go_simp; try with_reducible rfl)
      try simp only [Act.put, List.getElem_toArray, List.getElem_cons_zero, List.getElem_cons_succ, List.setIfInBounds_toArray, List.set_cons_zero, List.set_cons_succ]
      refine wpAnyH_take (i := 13) (v := ?_) rfl (by kernel_rfl) (by kernel_rfl) (by kernel_rfl) (fun _ _ _ h => h) (Or.inl ⟨by rfl, ?_⟩) (by assumption) ?_
      rotate_left 1
      · (intro w hSw; (try dsimp only at hSw); go_simp; try with_reducible rfl)
      try simp only [Act.put, List.getElem_toArray, List.getElem_cons_zero, List.getElem_cons_succ, List.setIfInBounds_toArray, List.set_cons_zero, List.set_cons_succ]
      refine wpAnyH_take (i := 14) (v := ?_) rfl (by kernel_rfl) (by kernel_rfl) (by kernel_rfl) (fun _ _ _ h => h) (Or.inl ⟨by rfl, ?_⟩) (by assumption) ?_
      rotate_left 1
      · (intro w hSw; (try dsimp only at hSw); go_simp; try with_reducible rfl)
      try simp only [Act.put, List.getElem_toArray, List.getElem_cons_zero, List.getElem_cons_succ, List.setIfInBounds_toArray, List.set_cons_zero, List.set_cons_succ]
      refine wpAnyH_take (i := 15) (v := ?_) rfl (by kernel_rfl) (by kernel_rfl) (by kernel_rfl) (fun _ _ _ h => h) (Or.inl ⟨by rfl, ?_⟩) (by assumption) ?_
      rotate_left 1
      · (intro w hSw; (try dsimp only at hSw); go_simp; try with_reducible rfl)
      try simp only [Act.put, List.getElem_toArray, List.getElem_cons_zero, List.getElem_cons_succ, List.setIfInBounds_toArray, List.set_cons_zero, List.set_cons_succ]
      refine wpAnyH_ready (rs := [16]) (by kernel_rfl) (by simp) ?_
      refine AllReadyH.cons rfl (fun K hK => ?_) AllReadyH.nil
      try simp only [List.getElem_toArray, List.getElem_cons_zero, List.getElem_cons_succ]
      go_simp; go_at_call_of 19 (SA); refine (JB _ LB.out LA.out).out.mono ?_; rintro e wd ⟨vjb, rfl, hfp, hb⟩; obtain ⟨ojb, cjb, rfl⟩ := hfp.val; have LJB := Lib.hid hfp; replace OA := Lib.hid (OA.out.below hb OA.out.lt); replace OB := Lib.hid (OB.out.below hb OB.out.lt); replace OX := Lib.hid (OX.out.below hb OX.out.lt); replace OY := Lib.hid (OY.out.below hb OY.out.lt); replace LA := Lib.hid (LA.out.later hb (Nat.le_refl _)); replace LB := Lib.hid (LB.out.later hb (Nat.le_refl _)); replace BEL := Lib.hid (BEL.out.trans (hb.mono BEL.out.size)); replace LP := Lib.hid (LP.out.later hb (Nat.le_refl _)); replace OP := Lib.hid (OP.out.below hb OP.out.lt); replace LJ := Lib.hid (LJ.out.later hb (Nat.le_refl _)); replace OJ := Lib.hid (OJ.out.below hb OJ.out.lt); clear hb; clear hfp
      try go_wp2_with fail
      refine hK.out _ _ (⟨OJ.out.cell, OY.out.cell, OB.out.cell, OA.out.cell⟩) (fun hHeld => ?_)
      clear hK K
      try simp only [Act.put, List.getElem_toArray, List.getElem_cons_zero, List.getElem_cons_succ, List.setIfInBounds_toArray, List.set_cons_zero, List.set_cons_succ]
      refine wpAnyH_ready (rs := [17]) (by kernel_rfl) (by simp) ?_
      refine AllReadyH.cons rfl (fun K hK => ?_) AllReadyH.nil
      try simp only [List.getElem_toArray, List.getElem_cons_zero, List.getElem_cons_succ]
      go_simp; go_at_call_of 21 (M2); refine (SJ _ _ _ LJ.out LJB.out).out.mono ?_; rintro e wf ⟨rfl, hb⟩; replace OA := Lib.hid (OA.out.below hb OA.out.lt); replace OB := Lib.hid (OB.out.below hb OB.out.lt); replace OX := Lib.hid (OX.out.below hb OX.out.lt); replace OY := Lib.hid (OY.out.below hb OY.out.lt); replace LA := Lib.hid (LA.out.later hb (Nat.le_refl _)); replace LB := Lib.hid (LB.out.later hb (Nat.le_refl _)); replace BEL := Lib.hid (BEL.out.trans (hb.mono BEL.out.size)); replace LP := Lib.hid (LP.out.later hb (Nat.le_refl _)); replace OP := Lib.hid (OP.out.below hb OP.out.lt); replace LJ := Lib.hid (LJ.out.later hb (Nat.le_refl _)); replace OJ := Lib.hid (OJ.out.below hb OJ.out.lt); clear hb
      try go_wp2_with fail
      refine hK.out _ _ (⟨OJ.out.cell, OY.out.cell, OB.out.cell, OA.out.cell⟩) (fun hHeld => ?_)
      clear hK K
      try simp only [Act.put, List.getElem_toArray, List.getElem_cons_zero, List.getElem_cons_succ, List.setIfInBounds_toArray, List.set_cons_zero, List.set_cons_succ]
      refine wpAnyH_take (i := 18) (v := ?_) rfl (by kernel_rfl) (by kernel_rfl) (by kernel_rfl) (fun _ _ _ h => h) (Or.inl ⟨by rfl, ?_⟩) (by assumption) ?_
      rotate_left 1
      · (intro w hSw; (try dsimp only at hSw); go_simp; try with_reducible rfl)
      try simp only [Act.put, List.getElem_toArray, List.getElem_cons_zero, List.getElem_cons_succ, List.setIfInBounds_toArray, List.set_cons_zero, List.set_cons_succ]
      refine wpAnyH_take (i := 19) (v := ?_) rfl (by kernel_rfl) (by kernel_rfl) (by kernel_rfl) (fun _ _ _ h => h) (Or.inl ⟨by rfl, ?_⟩) (by assumption) ?_
      rotate_left 1
      · (intro w hSw; (try dsimp only at hSw); go_simp; try with_reducible rfl)
      try simp only [Act.put, List.getElem_toArray, List.getElem_cons_zero, List.getElem_cons_succ, List.setIfInBounds_toArray, List.set_cons_zero, List.set_cons_succ]
      refine wpAnyH_take (i := 20) (v := ?_) rfl (by kernel_rfl) (by kernel_rfl) (by kernel_rfl) (fun _ _ _ h => h) (Or.inl ⟨by rfl, ?_⟩) (by assumption) ?_
      rotate_left 1
      · (intro w hSw; (try dsimp only at hSw); go_simp; try with_reducible rfl)
      try simp only [Act.put, List.getElem_toArray, List.getElem_cons_zero, List.getElem_cons_succ, List.setIfInBounds_toArray, List.set_cons_zero, List.set_cons_succ]
      refine wpAnyH_take (i := 21) (v := ?_) rfl (by kernel_rfl) (by kernel_rfl) (by kernel_rfl) (fun _ _ _ h => h) (Or.inl ⟨by rfl, ?_⟩) (by assumption) ?_
      rotate_left 1
      · (intro w hSw; (try dsimp only at hSw); go_simp; try with_reducible rfl)
      try simp only [Act.put, List.getElem_toArray, List.getElem_cons_zero, List.getElem_cons_succ, List.setIfInBounds_toArray, List.set_cons_zero, List.set_cons_succ]
      refine wpAnyH_take (i := 22) (v := ?_) rfl (by kernel_rfl) (by kernel_rfl) (by kernel_rfl) (fun _ _ _ h => h) (Or.inl ⟨by rfl, ?_⟩) (by assumption) ?_
      rotate_left 1
      · (intro w hSw; (try dsimp only at hSw); go_simp; try with_reducible rfl)
      try simp only [Act.put, List.getElem_toArray, List.getElem_cons_zero, List.getElem_cons_succ, List.setIfInBounds_toArray, List.set_cons_zero, List.set_cons_succ]
      refine wpAnyH_take (i := 24) (v := ?_) rfl (by kernel_rfl) (by kernel_rfl) (by kernel_rfl) (fun _ _ _ h => h) (Or.inl ⟨by rfl, ?_⟩) (by assumption) ?_
      rotate_left 1
      · (intro w hSw; (try dsimp only at hSw); go_simp; try with_reducible rfl)
      try simp only [Act.put, List.getElem_toArray, List.getElem_cons_zero, List.getElem_cons_succ, List.setIfInBounds_toArray, List.set_cons_zero, List.set_cons_succ]
      refine wpAnyH_ready (rs := [23]) (by kernel_rfl) (by simp) ?_
      refine AllReadyH.cons rfl (fun K hK => ?_) AllReadyH.nil
      try simp only [List.getElem_toArray, List.getElem_cons_zero, List.getElem_cons_succ]
      go_simp; go_at_call_of 19 (M); refine (JJ _ _ LJ.out LB.out).out.mono ?_; rintro e wc ⟨vjj, rfl, hfp, hb⟩; obtain ⟨ojj, cjj, rfl⟩ := hfp.val; have LJJ := Lib.hid hfp; replace OA := Lib.hid (OA.out.below hb OA.out.lt); replace OB := Lib.hid (OB.out.below hb OB.out.lt); replace OX := Lib.hid (OX.out.below hb OX.out.lt); replace OY := Lib.hid (OY.out.below hb OY.out.lt); replace LA := Lib.hid (LA.out.later hb (Nat.le_refl _)); replace LB := Lib.hid (LB.out.later hb (Nat.le_refl _)); replace BEL := Lib.hid (BEL.out.trans (hb.mono BEL.out.size)); replace LP := Lib.hid (LP.out.later hb (Nat.le_refl _)); replace OP := Lib.hid (OP.out.below hb OP.out.lt); replace LJ := Lib.hid (LJ.out.later hb (Nat.le_refl _)); replace OJ := Lib.hid (OJ.out.below hb OJ.out.lt); clear hb; clear hfp
      try go_wp2_with fail
      refine hK.out _ _ (⟨OJ.out.cell, OY.out.cell, OB.out.cell, OA.out.cell⟩) (fun hHeld => ?_)
      clear hK K
      try simp only [Act.put, List.getElem_toArray, List.getElem_cons_zero, List.getElem_cons_succ, List.setIfInBounds_toArray, List.set_cons_zero, List.set_cons_succ]
      refine wpAnyH_ready (rs := [25]) (by kernel_rfl) (by simp) ?_
      refine AllReadyH.cons rfl (fun K hK => ?_) AllReadyH.nil
      try simp only [List.getElem_toArray, List.getElem_cons_zero, List.getElem_cons_succ]
      go_simp; go_at_call_of 21 (M3); refine (SM _ _ _ LJJ.out LJ.out).out.mono ?_; rintro e we ⟨rfl, hb⟩; replace OA := Lib.hid (OA.out.below hb OA.out.lt); replace OB := Lib.hid (OB.out.below hb OB.out.lt); replace OX := Lib.hid (OX.out.below hb OX.out.lt); replace OY := Lib.hid (OY.out.below hb OY.out.lt); replace LA := Lib.hid (LA.out.later hb (Nat.le_refl _)); replace LB := Lib.hid (LB.out.later hb (Nat.le_refl _)); replace BEL := Lib.hid (BEL.out.trans (hb.mono BEL.out.size)); replace LP := Lib.hid (LP.out.later hb (Nat.le_refl _)); replace OP := Lib.hid (OP.out.below hb OP.out.lt); replace LJ := Lib.hid (LJ.out.later hb (Nat.le_refl _)); replace OJ := Lib.hid (OJ.out.below hb OJ.out.lt); clear hb
      try go_wp2_with fail
      refine hK.out _ _ (⟨OJ.out.cell, OY.out.cell, OB.out.cell, OA.out.cell⟩) (fun hHeld => ?_)
      clear hK K
      try simp only [Act.put, List.getElem_toArray, List.getElem_cons_zero, List.getElem_cons_succ, List.setIfInBounds_toArray, List.set_cons_zero, List.set_cons_succ]
      refine wpAnyH_take (i := 26) (v := ?_) rfl (by kernel_rfl) (by kernel_rfl) (by kernel_rfl) (fun _ _ _ h => h) (Or.inl ⟨by rfl, ?_⟩) (by assumption) ?_
      rotate_left 1
      · (intro w hSw; (try dsimp only at hSw); go_simp; try with_reducible rfl)
      try simp only [Act.put, List.getElem_toArray, List.getElem_cons_zero, List.getElem_cons_succ, List.setIfInBounds_toArray, List.set_cons_zero, List.set_cons_succ]
      refine wpAnyH_take (i := 27) (v := ?_) rfl (by kernel_rfl) (by kernel_rfl) (by kernel_rfl) (fun _ _ _ h => h) (Or.inl ⟨by rfl, ?_⟩) (by assumption) ?_
      rotate_left 1
      · (intro w hSw; (try dsimp only at hSw); go_simp; try with_reducible rfl)
      try simp only [Act.put, List.getElem_toArray, List.getElem_cons_zero, List.getElem_cons_succ, List.setIfInBounds_toArray, List.set_cons_zero, List.set_cons_succ]
      refine wpAnyH_done (by kernel_rfl) ?_ _
      all_goals
        go_wp2_with fail
        go_meet
        exact ⟨rfl, OA.out, OB.out, OX.out, OY.out, LA.out, LB.out, BEL.out, LP.out, OP.out, LJ.out, OJ.out⟩
    case rest =>
    clear OA OB OX OY LA LB BEL LP OP LJ OJ HJ HB JJ JB SM SJ
    obtain ⟨rfl, hh⟩ := hcut
    obtain ⟨h0, h1, h2, h3, h4, h5, h6, h7, h8, h9, h10⟩ := Hid.out hh
    have OA := Lib.hid h0
    have OB := Lib.hid h1
    have OX := Lib.hid h2
    have OY := Lib.hid h3
    have LA := Lib.hid h4
    have LB := Lib.hid h5
    have BEL := Lib.hid h6
    have LP := Lib.hid h7
    have OP := Lib.hid h8
    have LJ := Lib.hid h9
    have OJ := Lib.hid h10
    clear hh h0 h1 h2 h3 h4 h5 h6 h7 h8 h9 h10
    have lOA := OA.out.cell
    have zOA := OA.out.lt
    have lOX := OX.out.cell
    have zOX := OX.out.lt
    go_upto_region 12 with (first | (go_at_call 11; refine (KW _ LA.out).out.mono ?_; rintro e w7 ⟨vw, rfl, hfp, hb⟩; obtain ⟨ow, cw, rfl⟩ := hfp.val; have LW := Lib.hid hfp; replace OA := Lib.hid (OA.out.below hb OA.out.lt); replace OB := Lib.hid (OB.out.below hb OB.out.lt); replace OX := Lib.hid (OX.out.below hb OX.out.lt); replace OY := Lib.hid (OY.out.below hb OY.out.lt); replace LA := Lib.hid (LA.out.later hb (Nat.le_refl _)); replace LB := Lib.hid (LB.out.later hb (Nat.le_refl _)); replace BEL := Lib.hid (BEL.out.trans (hb.mono BEL.out.size)); replace LP := Lib.hid (LP.out.later hb (Nat.le_refl _)); replace OP := Lib.hid (OP.out.below hb OP.out.lt); replace LJ := Lib.hid (LJ.out.later hb (Nat.le_refl _)); replace OJ := Lib.hid (OJ.out.below hb OJ.out.lt); clear hb hfp lOA zOA lOX zOX) | fail)
    generalize lw.length = nw at *
    replace OA := Lib.hid (OA.out.alloc (.cells #[.int .i64 (SA 0), .int .i64 (SA 1), .int .i64 (SA 2), .int .i64 (SA 3), .int .i64 (SA 4), .int .i64 (SA 5), .int .i64 (SA 6), .int .i64 (SA 7), .slice ow nw cw] 26))
    replace OB := Lib.hid (OB.out.alloc (.cells #[.int .i64 (SA 0), .int .i64 (SA 1), .int .i64 (SA 2), .int .i64 (SA 3), .int .i64 (SA 4), .int .i64 (SA 5), .int .i64 (SA 6), .int .i64 (SA 7), .slice ow nw cw] 26))
    replace OX := Lib.hid (OX.out.alloc (.cells #[.int .i64 (SA 0), .int .i64 (SA 1), .int .i64 (SA 2), .int .i64 (SA 3), .int .i64 (SA 4), .int .i64 (SA 5), .int .i64 (SA 6), .int .i64 (SA 7), .slice ow nw cw] 26))
    replace OY := Lib.hid (OY.out.alloc (.cells #[.int .i64 (SA 0), .int .i64 (SA 1), .int .i64 (SA 2), .int .i64 (SA 3), .int .i64 (SA 4), .int .i64 (SA 5), .int .i64 (SA 6), .int .i64 (SA 7), .slice ow nw cw] 26))
    replace LA := Lib.hid (LA.out.later ((Below.refl _ _).alloc (Nat.le_refl _) (.cells #[.int .i64 (SA 0), .int .i64 (SA 1), .int .i64 (SA 2), .int .i64 (SA 3), .int .i64 (SA 4), .int .i64 (SA 5), .int .i64 (SA 6), .int .i64 (SA 7), .slice ow nw cw] 26)) (Nat.le_refl _))
    replace LB := Lib.hid (LB.out.later ((Below.refl _ _).alloc (Nat.le_refl _) (.cells #[.int .i64 (SA 0), .int .i64 (SA 1), .int .i64 (SA 2), .int .i64 (SA 3), .int .i64 (SA 4), .int .i64 (SA 5), .int .i64 (SA 6), .int .i64 (SA 7), .slice ow nw cw] 26)) (Nat.le_refl _))
    replace BEL := Lib.hid (BEL.out.alloc BEL.out.size (.cells #[.int .i64 (SA 0), .int .i64 (SA 1), .int .i64 (SA 2), .int .i64 (SA 3), .int .i64 (SA 4), .int .i64 (SA 5), .int .i64 (SA 6), .int .i64 (SA 7), .slice ow nw cw] 26))
    replace LP := Lib.hid (LP.out.later ((Below.refl _ _).alloc (Nat.le_refl _) (.cells #[.int .i64 (SA 0), .int .i64 (SA 1), .int .i64 (SA 2), .int .i64 (SA 3), .int .i64 (SA 4), .int .i64 (SA 5), .int .i64 (SA 6), .int .i64 (SA 7), .slice ow nw cw] 26)) (Nat.le_refl _))
    replace OP := Lib.hid (OP.out.alloc (.cells #[.int .i64 (SA 0), .int .i64 (SA 1), .int .i64 (SA 2), .int .i64 (SA 3), .int .i64 (SA 4), .int .i64 (SA 5), .int .i64 (SA 6), .int .i64 (SA 7), .slice ow nw cw] 26))
    replace LJ := Lib.hid (LJ.out.later ((Below.refl _ _).alloc (Nat.le_refl _) (.cells #[.int .i64 (SA 0), .int .i64 (SA 1), .int .i64 (SA 2), .int .i64 (SA 3), .int .i64 (SA 4), .int .i64 (SA 5), .int .i64 (SA 6), .int .i64 (SA 7), .slice ow nw cw] 26)) (Nat.le_refl _))
    replace OJ := Lib.hid (OJ.out.alloc (.cells #[.int .i64 (SA 0), .int .i64 (SA 1), .int .i64 (SA 2), .int .i64 (SA 3), .int .i64 (SA 4), .int .i64 (SA 5), .int .i64 (SA 6), .int .i64 (SA 7), .slice ow nw cw] 26))
    replace LW := Lib.hid (LW.out.later ((Below.refl _ _).alloc (Nat.le_refl _) (.cells #[.int .i64 (SA 0), .int .i64 (SA 1), .int .i64 (SA 2), .int .i64 (SA 3), .int .i64 (SA 4), .int .i64 (SA 5), .int .i64 (SA 6), .int .i64 (SA 7), .slice ow nw cw] 26)) (Nat.le_refl _))
    have OW := Lib.hid (Has.new w7 #[.int .i64 (SA 0), .int .i64 (SA 1), .int .i64 (SA 2), .int .i64 (SA 3), .int .i64 (SA 4), .int .i64 (SA 5), .int .i64 (SA 6), .int .i64 (SA 7), .slice ow nw cw] 26)
    generalize w7.heap.size = bw at *
    generalize w7.alloc (Obj.cells #[.int .i64 (SA 0), .int .i64 (SA 1), .int .i64 (SA 2), .int .i64 (SA 3), .int .i64 (SA 4), .int .i64 (SA 5), .int .i64 (SA 6), .int .i64 (SA 7), .slice ow nw cw] 26) = w7' at *
    have lOA := OA.out.cell
    have zOA := OA.out.lt
    have lOX := OX.out.cell
    have zOX := OX.out.lt
    go_upto_region 13 with (first | (go_at_call 13; refine (KO _ LA.out).out.mono ?_; rintro e w8 ⟨vo, rfl, hfp, hb⟩; obtain ⟨oo, co, rfl⟩ := hfp.val; have LO := Lib.hid hfp; replace OA := Lib.hid (OA.out.below hb OA.out.lt); replace OB := Lib.hid (OB.out.below hb OB.out.lt); replace OX := Lib.hid (OX.out.below hb OX.out.lt); replace OY := Lib.hid (OY.out.below hb OY.out.lt); replace LA := Lib.hid (LA.out.later hb (Nat.le_refl _)); replace LB := Lib.hid (LB.out.later hb (Nat.le_refl _)); replace BEL := Lib.hid (BEL.out.trans (hb.mono BEL.out.size)); replace LP := Lib.hid (LP.out.later hb (Nat.le_refl _)); replace OP := Lib.hid (OP.out.below hb OP.out.lt); replace LJ := Lib.hid (LJ.out.later hb (Nat.le_refl _)); replace OJ := Lib.hid (OJ.out.below hb OJ.out.lt); replace LW := Lib.hid (LW.out.later hb (Nat.le_refl _)); replace OW := Lib.hid (OW.out.below hb OW.out.lt); clear hb hfp lOA zOA lOX zOX) | fail)
    generalize lo.length = no at *
    replace OA := Lib.hid (OA.out.alloc (.cells #[.int .i64 (SO 0), .int .i64 (SO 1), .int .i64 (SO 2), .int .i64 (SO 3), .int .i64 (SO 4), .int .i64 (SO 5), .int .i64 (SO 6), .int .i64 (SO 7), .slice oo no co] 26))
    replace OB := Lib.hid (OB.out.alloc (.cells #[.int .i64 (SO 0), .int .i64 (SO 1), .int .i64 (SO 2), .int .i64 (SO 3), .int .i64 (SO 4), .int .i64 (SO 5), .int .i64 (SO 6), .int .i64 (SO 7), .slice oo no co] 26))
    replace OX := Lib.hid (OX.out.alloc (.cells #[.int .i64 (SO 0), .int .i64 (SO 1), .int .i64 (SO 2), .int .i64 (SO 3), .int .i64 (SO 4), .int .i64 (SO 5), .int .i64 (SO 6), .int .i64 (SO 7), .slice oo no co] 26))
    replace OY := Lib.hid (OY.out.alloc (.cells #[.int .i64 (SO 0), .int .i64 (SO 1), .int .i64 (SO 2), .int .i64 (SO 3), .int .i64 (SO 4), .int .i64 (SO 5), .int .i64 (SO 6), .int .i64 (SO 7), .slice oo no co] 26))
    replace LA := Lib.hid (LA.out.later ((Below.refl _ _).alloc (Nat.le_refl _) (.cells #[.int .i64 (SO 0), .int .i64 (SO 1), .int .i64 (SO 2), .int .i64 (SO 3), .int .i64 (SO 4), .int .i64 (SO 5), .int .i64 (SO 6), .int .i64 (SO 7), .slice oo no co] 26)) (Nat.le_refl _))
    replace LB := Lib.hid (LB.out.later ((Below.refl _ _).alloc (Nat.le_refl _) (.cells #[.int .i64 (SO 0), .int .i64 (SO 1), .int .i64 (SO 2), .int .i64 (SO 3), .int .i64 (SO 4), .int .i64 (SO 5), .int .i64 (SO 6), .int .i64 (SO 7), .slice oo no co] 26)) (Nat.le_refl _))
    replace BEL := Lib.hid (BEL.out.alloc BEL.out.size (.cells #[.int .i64 (SO 0), .int .i64 (SO 1), .int .i64 (SO 2), .int .i64 (SO 3), .int .i64 (SO 4), .int .i64 (SO 5), .int .i64 (SO 6), .int .i64 (SO 7), .slice oo no co] 26))
    replace LP := Lib.hid (LP.out.later ((Below.refl _ _).alloc (Nat.le_refl _) (.cells #[.int .i64 (SO 0), .int .i64 (SO 1), .int .i64 (SO 2), .int .i64 (SO 3), .int .i64 (SO 4), .int .i64 (SO 5), .int .i64 (SO 6), .int .i64 (SO 7), .slice oo no co] 26)) (Nat.le_refl _))
    replace OP := Lib.hid (OP.out.alloc (.cells #[.int .i64 (SO 0), .int .i64 (SO 1), .int .i64 (SO 2), .int .i64 (SO 3), .int .i64 (SO 4), .int .i64 (SO 5), .int .i64 (SO 6), .int .i64 (SO 7), .slice oo no co] 26))
    replace LJ := Lib.hid (LJ.out.later ((Below.refl _ _).alloc (Nat.le_refl _) (.cells #[.int .i64 (SO 0), .int .i64 (SO 1), .int .i64 (SO 2), .int .i64 (SO 3), .int .i64 (SO 4), .int .i64 (SO 5), .int .i64 (SO 6), .int .i64 (SO 7), .slice oo no co] 26)) (Nat.le_refl _))
    replace OJ := Lib.hid (OJ.out.alloc (.cells #[.int .i64 (SO 0), .int .i64 (SO 1), .int .i64 (SO 2), .int .i64 (SO 3), .int .i64 (SO 4), .int .i64 (SO 5), .int .i64 (SO 6), .int .i64 (SO 7), .slice oo no co] 26))
    replace LW := Lib.hid (LW.out.later ((Below.refl _ _).alloc (Nat.le_refl _) (.cells #[.int .i64 (SO 0), .int .i64 (SO 1), .int .i64 (SO 2), .int .i64 (SO 3), .int .i64 (SO 4), .int .i64 (SO 5), .int .i64 (SO 6), .int .i64 (SO 7), .slice oo no co] 26)) (Nat.le_refl _))
    replace OW := Lib.hid (OW.out.alloc (.cells #[.int .i64 (SO 0), .int .i64 (SO 1), .int .i64 (SO 2), .int .i64 (SO 3), .int .i64 (SO 4), .int .i64 (SO 5), .int .i64 (SO 6), .int .i64 (SO 7), .slice oo no co] 26))
    replace LO := Lib.hid (LO.out.later ((Below.refl _ _).alloc (Nat.le_refl _) (.cells #[.int .i64 (SO 0), .int .i64 (SO 1), .int .i64 (SO 2), .int .i64 (SO 3), .int .i64 (SO 4), .int .i64 (SO 5), .int .i64 (SO 6), .int .i64 (SO 7), .slice oo no co] 26)) (Nat.le_refl _))
    have OO := Lib.hid (Has.new w8 #[.int .i64 (SO 0), .int .i64 (SO 1), .int .i64 (SO 2), .int .i64 (SO 3), .int .i64 (SO 4), .int .i64 (SO 5), .int .i64 (SO 6), .int .i64 (SO 7), .slice oo no co] 26)
    generalize w8.heap.size = bo at *
    generalize w8.alloc (Obj.cells #[.int .i64 (SO 0), .int .i64 (SO 1), .int .i64 (SO 2), .int .i64 (SO 3), .int .i64 (SO 4), .int .i64 (SO 5), .int .i64 (SO 6), .int .i64 (SO 7), .slice oo no co] 26) = w8' at *
    have hwt := I2.out (by first | trivial | rfl)
    subst hwt
    have hot := I3.out (by first | trivial | rfl)
    subst hot
    have hgx := Lib.hid (show (1 ≤ r ∧ r ≤ 8 ∧ 1 ≤ c) → hx = true from fun h => I1.out h.1 h.2.1 h.2.2)
    by_cases q1 : 1 ≤ r
    case neg =>
      have lOX := OX.out.cell
      have zOX := OX.out.lt
      have lOY := OY.out.cell
      have zOY := OY.out.lt
      have lOW := OW.out.cell
      have zOW := OW.out.lt
      have lOO := OO.out.cell
      have zOO := OO.out.lt
      go_wp2_with (first | (go_at_call_of 15 (SO); refine (HOy _ _ LO.out).out.mono ?_; rintro e wz ⟨rfl, hb⟩; replace OA := Lib.hid (OA.out.below hb OA.out.lt); replace OB := Lib.hid (OB.out.below hb OB.out.lt); replace OX := Lib.hid (OX.out.below hb OX.out.lt); replace OY := Lib.hid (OY.out.below hb OY.out.lt); replace LA := Lib.hid (LA.out.later hb (Nat.le_refl _)); replace LB := Lib.hid (LB.out.later hb (Nat.le_refl _)); replace BEL := Lib.hid (BEL.out.trans (hb.mono BEL.out.size)); replace LP := Lib.hid (LP.out.later hb (Nat.le_refl _)); replace OP := Lib.hid (OP.out.below hb OP.out.lt); replace LJ := Lib.hid (LJ.out.later hb (Nat.le_refl _)); replace OJ := Lib.hid (OJ.out.below hb OJ.out.lt); replace LW := Lib.hid (LW.out.later hb (Nat.le_refl _)); replace OW := Lib.hid (OW.out.below hb OW.out.lt); replace LO := Lib.hid (LO.out.later hb (Nat.le_refl _)); replace OO := Lib.hid (OO.out.below hb OO.out.lt); replace lOX := OX.out.cell; replace zOX := OX.out.lt; replace lOY := OY.out.cell; replace zOY := OY.out.lt; replace lOW := OW.out.cell; replace zOW := OW.out.lt; replace lOO := OO.out.cell; replace zOO := OO.out.lt; clear hb) | (go_at_call_of 15 (id); refine (HWx _ _ LW.out).out.mono ?_; rintro e wx ⟨rfl, hb⟩; replace OA := Lib.hid (OA.out.below hb OA.out.lt); replace OB := Lib.hid (OB.out.below hb OB.out.lt); replace OX := Lib.hid (OX.out.below hb OX.out.lt); replace OY := Lib.hid (OY.out.below hb OY.out.lt); replace LA := Lib.hid (LA.out.later hb (Nat.le_refl _)); replace LB := Lib.hid (LB.out.later hb (Nat.le_refl _)); replace BEL := Lib.hid (BEL.out.trans (hb.mono BEL.out.size)); replace LP := Lib.hid (LP.out.later hb (Nat.le_refl _)); replace OP := Lib.hid (OP.out.below hb OP.out.lt); replace LJ := Lib.hid (LJ.out.later hb (Nat.le_refl _)); replace OJ := Lib.hid (OJ.out.below hb OJ.out.lt); replace LW := Lib.hid (LW.out.later hb (Nat.le_refl _)); replace OW := Lib.hid (OW.out.below hb OW.out.lt); replace LO := Lib.hid (LO.out.later hb (Nat.le_refl _)); replace OO := Lib.hid (OO.out.below hb OO.out.lt); replace lOX := OX.out.cell; replace zOX := OX.out.lt; replace lOY := OY.out.cell; replace zOY := OY.out.lt; replace lOW := OW.out.cell; replace zOW := OW.out.lt; replace lOO := OO.out.cell; replace zOO := OO.out.lt; clear hb) | (go_at_call_of 15 (other); refine (HWy _ _ LW.out).out.mono ?_; rintro e wy ⟨rfl, hb⟩; replace OA := Lib.hid (OA.out.below hb OA.out.lt); replace OB := Lib.hid (OB.out.below hb OB.out.lt); replace OX := Lib.hid (OX.out.below hb OX.out.lt); replace OY := Lib.hid (OY.out.below hb OY.out.lt); replace LA := Lib.hid (LA.out.later hb (Nat.le_refl _)); replace LB := Lib.hid (LB.out.later hb (Nat.le_refl _)); replace BEL := Lib.hid (BEL.out.trans (hb.mono BEL.out.size)); replace LP := Lib.hid (LP.out.later hb (Nat.le_refl _)); replace OP := Lib.hid (OP.out.below hb OP.out.lt); replace LJ := Lib.hid (LJ.out.later hb (Nat.le_refl _)); replace OJ := Lib.hid (OJ.out.below hb OJ.out.lt); replace LW := Lib.hid (LW.out.later hb (Nat.le_refl _)); replace OW := Lib.hid (OW.out.below hb OW.out.lt); replace LO := Lib.hid (LO.out.later hb (Nat.le_refl _)); replace OO := Lib.hid (OO.out.below hb OO.out.lt); replace lOX := OX.out.cell; replace zOX := OX.out.lt; replace lOY := OY.out.cell; replace zOY := OY.out.lt; replace lOW := OW.out.cell; replace zOW := OW.out.lt; replace lOO := OO.out.cell; replace zOO := OO.out.lt; clear hb) | fail)
      go_ret
      exact ⟨by first | rfl | simp_all, BEL.out⟩
    by_cases q2 : r ≤ 8
    case neg =>
      have lOX := OX.out.cell
      have zOX := OX.out.lt
      have lOY := OY.out.cell
      have zOY := OY.out.lt
      have lOW := OW.out.cell
      have zOW := OW.out.lt
      have lOO := OO.out.cell
      have zOO := OO.out.lt
      go_wp2_with (first | (go_at_call_of 15 (SO); refine (HOy _ _ LO.out).out.mono ?_; rintro e wz ⟨rfl, hb⟩; replace OA := Lib.hid (OA.out.below hb OA.out.lt); replace OB := Lib.hid (OB.out.below hb OB.out.lt); replace OX := Lib.hid (OX.out.below hb OX.out.lt); replace OY := Lib.hid (OY.out.below hb OY.out.lt); replace LA := Lib.hid (LA.out.later hb (Nat.le_refl _)); replace LB := Lib.hid (LB.out.later hb (Nat.le_refl _)); replace BEL := Lib.hid (BEL.out.trans (hb.mono BEL.out.size)); replace LP := Lib.hid (LP.out.later hb (Nat.le_refl _)); replace OP := Lib.hid (OP.out.below hb OP.out.lt); replace LJ := Lib.hid (LJ.out.later hb (Nat.le_refl _)); replace OJ := Lib.hid (OJ.out.below hb OJ.out.lt); replace LW := Lib.hid (LW.out.later hb (Nat.le_refl _)); replace OW := Lib.hid (OW.out.below hb OW.out.lt); replace LO := Lib.hid (LO.out.later hb (Nat.le_refl _)); replace OO := Lib.hid (OO.out.below hb OO.out.lt); replace lOX := OX.out.cell; replace zOX := OX.out.lt; replace lOY := OY.out.cell; replace zOY := OY.out.lt; replace lOW := OW.out.cell; replace zOW := OW.out.lt; replace lOO := OO.out.cell; replace zOO := OO.out.lt; clear hb) | (go_at_call_of 15 (id); refine (HWx _ _ LW.out).out.mono ?_; rintro e wx ⟨rfl, hb⟩; replace OA := Lib.hid (OA.out.below hb OA.out.lt); replace OB := Lib.hid (OB.out.below hb OB.out.lt); replace OX := Lib.hid (OX.out.below hb OX.out.lt); replace OY := Lib.hid (OY.out.below hb OY.out.lt); replace LA := Lib.hid (LA.out.later hb (Nat.le_refl _)); replace LB := Lib.hid (LB.out.later hb (Nat.le_refl _)); replace BEL := Lib.hid (BEL.out.trans (hb.mono BEL.out.size)); replace LP := Lib.hid (LP.out.later hb (Nat.le_refl _)); replace OP := Lib.hid (OP.out.below hb OP.out.lt); replace LJ := Lib.hid (LJ.out.later hb (Nat.le_refl _)); replace OJ := Lib.hid (OJ.out.below hb OJ.out.lt); replace LW := Lib.hid (LW.out.later hb (Nat.le_refl _)); replace OW := Lib.hid (OW.out.below hb OW.out.lt); replace LO := Lib.hid (LO.out.later hb (Nat.le_refl _)); replace OO := Lib.hid (OO.out.below hb OO.out.lt); replace lOX := OX.out.cell; replace zOX := OX.out.lt; replace lOY := OY.out.cell; replace zOY := OY.out.lt; replace lOW := OW.out.cell; replace zOW := OW.out.lt; replace lOO := OO.out.cell; replace zOO := OO.out.lt; clear hb) | (go_at_call_of 15 (other); refine (HWy _ _ LW.out).out.mono ?_; rintro e wy ⟨rfl, hb⟩; replace OA := Lib.hid (OA.out.below hb OA.out.lt); replace OB := Lib.hid (OB.out.below hb OB.out.lt); replace OX := Lib.hid (OX.out.below hb OX.out.lt); replace OY := Lib.hid (OY.out.below hb OY.out.lt); replace LA := Lib.hid (LA.out.later hb (Nat.le_refl _)); replace LB := Lib.hid (LB.out.later hb (Nat.le_refl _)); replace BEL := Lib.hid (BEL.out.trans (hb.mono BEL.out.size)); replace LP := Lib.hid (LP.out.later hb (Nat.le_refl _)); replace OP := Lib.hid (OP.out.below hb OP.out.lt); replace LJ := Lib.hid (LJ.out.later hb (Nat.le_refl _)); replace OJ := Lib.hid (OJ.out.below hb OJ.out.lt); replace LW := Lib.hid (LW.out.later hb (Nat.le_refl _)); replace OW := Lib.hid (OW.out.below hb OW.out.lt); replace LO := Lib.hid (LO.out.later hb (Nat.le_refl _)); replace OO := Lib.hid (OO.out.below hb OO.out.lt); replace lOX := OX.out.cell; replace zOX := OX.out.lt; replace lOY := OY.out.cell; replace zOY := OY.out.lt; replace lOW := OW.out.cell; replace zOW := OW.out.lt; replace lOO := OO.out.cell; replace zOO := OO.out.lt; clear hb) | fail)
      go_ret
      exact ⟨by first | rfl | simp_all, BEL.out⟩
    by_cases q3 : 1 ≤ c
    case neg =>
      have lOX := OX.out.cell
      have zOX := OX.out.lt
      have lOY := OY.out.cell
      have zOY := OY.out.lt
      have lOW := OW.out.cell
      have zOW := OW.out.lt
      have lOO := OO.out.cell
      have zOO := OO.out.lt
      go_wp2_with (first | (go_at_call_of 15 (SO); refine (HOy _ _ LO.out).out.mono ?_; rintro e wz ⟨rfl, hb⟩; replace OA := Lib.hid (OA.out.below hb OA.out.lt); replace OB := Lib.hid (OB.out.below hb OB.out.lt); replace OX := Lib.hid (OX.out.below hb OX.out.lt); replace OY := Lib.hid (OY.out.below hb OY.out.lt); replace LA := Lib.hid (LA.out.later hb (Nat.le_refl _)); replace LB := Lib.hid (LB.out.later hb (Nat.le_refl _)); replace BEL := Lib.hid (BEL.out.trans (hb.mono BEL.out.size)); replace LP := Lib.hid (LP.out.later hb (Nat.le_refl _)); replace OP := Lib.hid (OP.out.below hb OP.out.lt); replace LJ := Lib.hid (LJ.out.later hb (Nat.le_refl _)); replace OJ := Lib.hid (OJ.out.below hb OJ.out.lt); replace LW := Lib.hid (LW.out.later hb (Nat.le_refl _)); replace OW := Lib.hid (OW.out.below hb OW.out.lt); replace LO := Lib.hid (LO.out.later hb (Nat.le_refl _)); replace OO := Lib.hid (OO.out.below hb OO.out.lt); replace lOX := OX.out.cell; replace zOX := OX.out.lt; replace lOY := OY.out.cell; replace zOY := OY.out.lt; replace lOW := OW.out.cell; replace zOW := OW.out.lt; replace lOO := OO.out.cell; replace zOO := OO.out.lt; clear hb) | (go_at_call_of 15 (id); refine (HWx _ _ LW.out).out.mono ?_; rintro e wx ⟨rfl, hb⟩; replace OA := Lib.hid (OA.out.below hb OA.out.lt); replace OB := Lib.hid (OB.out.below hb OB.out.lt); replace OX := Lib.hid (OX.out.below hb OX.out.lt); replace OY := Lib.hid (OY.out.below hb OY.out.lt); replace LA := Lib.hid (LA.out.later hb (Nat.le_refl _)); replace LB := Lib.hid (LB.out.later hb (Nat.le_refl _)); replace BEL := Lib.hid (BEL.out.trans (hb.mono BEL.out.size)); replace LP := Lib.hid (LP.out.later hb (Nat.le_refl _)); replace OP := Lib.hid (OP.out.below hb OP.out.lt); replace LJ := Lib.hid (LJ.out.later hb (Nat.le_refl _)); replace OJ := Lib.hid (OJ.out.below hb OJ.out.lt); replace LW := Lib.hid (LW.out.later hb (Nat.le_refl _)); replace OW := Lib.hid (OW.out.below hb OW.out.lt); replace LO := Lib.hid (LO.out.later hb (Nat.le_refl _)); replace OO := Lib.hid (OO.out.below hb OO.out.lt); replace lOX := OX.out.cell; replace zOX := OX.out.lt; replace lOY := OY.out.cell; replace zOY := OY.out.lt; replace lOW := OW.out.cell; replace zOW := OW.out.lt; replace lOO := OO.out.cell; replace zOO := OO.out.lt; clear hb) | (go_at_call_of 15 (other); refine (HWy _ _ LW.out).out.mono ?_; rintro e wy ⟨rfl, hb⟩; replace OA := Lib.hid (OA.out.below hb OA.out.lt); replace OB := Lib.hid (OB.out.below hb OB.out.lt); replace OX := Lib.hid (OX.out.below hb OX.out.lt); replace OY := Lib.hid (OY.out.below hb OY.out.lt); replace LA := Lib.hid (LA.out.later hb (Nat.le_refl _)); replace LB := Lib.hid (LB.out.later hb (Nat.le_refl _)); replace BEL := Lib.hid (BEL.out.trans (hb.mono BEL.out.size)); replace LP := Lib.hid (LP.out.later hb (Nat.le_refl _)); replace OP := Lib.hid (OP.out.below hb OP.out.lt); replace LJ := Lib.hid (LJ.out.later hb (Nat.le_refl _)); replace OJ := Lib.hid (OJ.out.below hb OJ.out.lt); replace LW := Lib.hid (LW.out.later hb (Nat.le_refl _)); replace OW := Lib.hid (OW.out.below hb OW.out.lt); replace LO := Lib.hid (LO.out.later hb (Nat.le_refl _)); replace OO := Lib.hid (OO.out.below hb OO.out.lt); replace lOX := OX.out.cell; replace zOX := OX.out.lt; replace lOY := OY.out.cell; replace zOY := OY.out.lt; replace lOW := OW.out.cell; replace zOW := OW.out.lt; replace lOO := OO.out.cell; replace zOO := OO.out.lt; clear hb) | fail)
      go_ret
      exact ⟨by first | rfl | simp_all, BEL.out⟩
    have hxt := hgx.out ⟨q1, q2, q3⟩
    subst hxt
    have lOX := OX.out.cell
    have zOX := OX.out.lt
    have lOY := OY.out.cell
    have zOY := OY.out.lt
    have lOW := OW.out.cell
    have zOW := OW.out.lt
    have lOO := OO.out.cell
    have zOO := OO.out.lt
    go_wp2_with (first | (go_at_call_of 15 (SO); refine (HOy _ _ LO.out).out.mono ?_; rintro e wz ⟨rfl, hb⟩; replace OA := Lib.hid (OA.out.below hb OA.out.lt); replace OB := Lib.hid (OB.out.below hb OB.out.lt); replace OX := Lib.hid (OX.out.below hb OX.out.lt); replace OY := Lib.hid (OY.out.below hb OY.out.lt); replace LA := Lib.hid (LA.out.later hb (Nat.le_refl _)); replace LB := Lib.hid (LB.out.later hb (Nat.le_refl _)); replace BEL := Lib.hid (BEL.out.trans (hb.mono BEL.out.size)); replace LP := Lib.hid (LP.out.later hb (Nat.le_refl _)); replace OP := Lib.hid (OP.out.below hb OP.out.lt); replace LJ := Lib.hid (LJ.out.later hb (Nat.le_refl _)); replace OJ := Lib.hid (OJ.out.below hb OJ.out.lt); replace LW := Lib.hid (LW.out.later hb (Nat.le_refl _)); replace OW := Lib.hid (OW.out.below hb OW.out.lt); replace LO := Lib.hid (LO.out.later hb (Nat.le_refl _)); replace OO := Lib.hid (OO.out.below hb OO.out.lt); replace lOX := OX.out.cell; replace zOX := OX.out.lt; replace lOY := OY.out.cell; replace zOY := OY.out.lt; replace lOW := OW.out.cell; replace zOW := OW.out.lt; replace lOO := OO.out.cell; replace zOO := OO.out.lt; clear hb) | (go_at_call_of 15 (id); refine (HWx _ _ LW.out).out.mono ?_; rintro e wx ⟨rfl, hb⟩; replace OA := Lib.hid (OA.out.below hb OA.out.lt); replace OB := Lib.hid (OB.out.below hb OB.out.lt); replace OX := Lib.hid (OX.out.below hb OX.out.lt); replace OY := Lib.hid (OY.out.below hb OY.out.lt); replace LA := Lib.hid (LA.out.later hb (Nat.le_refl _)); replace LB := Lib.hid (LB.out.later hb (Nat.le_refl _)); replace BEL := Lib.hid (BEL.out.trans (hb.mono BEL.out.size)); replace LP := Lib.hid (LP.out.later hb (Nat.le_refl _)); replace OP := Lib.hid (OP.out.below hb OP.out.lt); replace LJ := Lib.hid (LJ.out.later hb (Nat.le_refl _)); replace OJ := Lib.hid (OJ.out.below hb OJ.out.lt); replace LW := Lib.hid (LW.out.later hb (Nat.le_refl _)); replace OW := Lib.hid (OW.out.below hb OW.out.lt); replace LO := Lib.hid (LO.out.later hb (Nat.le_refl _)); replace OO := Lib.hid (OO.out.below hb OO.out.lt); replace lOX := OX.out.cell; replace zOX := OX.out.lt; replace lOY := OY.out.cell; replace zOY := OY.out.lt; replace lOW := OW.out.cell; replace zOW := OW.out.lt; replace lOO := OO.out.cell; replace zOO := OO.out.lt; clear hb) | (go_at_call_of 15 (other); refine (HWy _ _ LW.out).out.mono ?_; rintro e wy ⟨rfl, hb⟩; replace OA := Lib.hid (OA.out.below hb OA.out.lt); replace OB := Lib.hid (OB.out.below hb OB.out.lt); replace OX := Lib.hid (OX.out.below hb OX.out.lt); replace OY := Lib.hid (OY.out.below hb OY.out.lt); replace LA := Lib.hid (LA.out.later hb (Nat.le_refl _)); replace LB := Lib.hid (LB.out.later hb (Nat.le_refl _)); replace BEL := Lib.hid (BEL.out.trans (hb.mono BEL.out.size)); replace LP := Lib.hid (LP.out.later hb (Nat.le_refl _)); replace OP := Lib.hid (OP.out.below hb OP.out.lt); replace LJ := Lib.hid (LJ.out.later hb (Nat.le_refl _)); replace OJ := Lib.hid (OJ.out.below hb OJ.out.lt); replace LW := Lib.hid (LW.out.later hb (Nat.le_refl _)); replace OW := Lib.hid (OW.out.below hb OW.out.lt); replace LO := Lib.hid (LO.out.later hb (Nat.le_refl _)); replace OO := Lib.hid (OO.out.below hb OO.out.lt); replace lOX := OX.out.cell; replace zOX := OX.out.lt; replace lOY := OY.out.cell; replace zOY := OY.out.lt; replace lOW := OW.out.cell; replace zOW := OW.out.lt; replace lOO := OO.out.cell; replace zOO := OO.out.lt; clear hb) | fail)
    go_ret
    exact ⟨by first | rfl | simp_all, BEL.out⟩
end Go.Proofs.Ythhbjgecdhogoaa
