/- ListTells, walked. -/
import Derived.Test.YtbojpdlidgmckaaListC
import Derived.Deep.RegionHeld3
import Derived.Deep.DeepCutAuto
namespace Go.Proofs.Ytbojpdlidgmckaa
set_option linter.unusedVariables false
set_option linter.unusedSimpArgs false
open Go.RowKit

set_option maxRecDepth 100000 in
set_option maxHeartbeats 16000000 in
theorem listTells_calls (x y : List Itm) (id : ByteArray) (z : Itm) (v v' : Value) (w : World) (hR : Row 9 rc w x v) (hM : Row 9 rc w y v') (hid : id.size ≤ maxLen) (hz : z.id.size ≤ maxLen ∧ z.kd.size ≤ maxLen) :
    Calls Try.prog 3 #[v, v', .string id, rV z] w fun e w' => e = .returned (.bool true) ∧ Below w.heap.size w w' := by
  obtain ⟨ov, cv, rfl⟩ := hR.val
  obtain ⟨ov', cv', rfl⟩ := hM.val
  have UP := fun w' => Lib.hid (up8_calls w')
  have OZ := Lib.hid (Has.new w (rA z) 25)
  have BEL := Lib.hid ((Below.refl w.heap.size w).alloc (Nat.le_refl _) (.cells (rA z) 25))
  have LX := Lib.hid (hR.alloc (.cells (rA z) 25))
  have LY := Lib.hid (hM.alloc (.cells (rA z) 25))
  have HX := Lib.hid hR.oks
  have HY := Lib.hid hM.oks
  have RX := fun w' h => Lib.hid (real_calls x (.slice ov x.length cv) w' h)
  have RY := fun w' h => Lib.hid (real_calls y (.slice ov' y.length cv') w' h)
  have RZ := fun v w' h => Lib.hid (real_calls [z] v w' h)
  have HZ := Lib.hid hz
  clear hR hM hz
  generalize hlx : x.length = n at *
  generalize hly : y.length = m at *
  have HLX := Lib.hid hlx
  have HLY := Lib.hid hly
  clear hlx hly
  by_cases hn : 60 < n
  · have g1 : decide ((60 : Int) < (n : Int)) = true := decide_eq_true (by omega)
    clear hn
    go_enter Try.func3, Try.ntmps3
    go_wp2_with (first | (go_at_call 5; with_reducible refine (UP _).out.mono ?_; rintro e w3 ⟨rfl, hb⟩; replace OZ := Lib.hid (OZ.out.below hb OZ.out.lt); replace LX := Lib.hid (LX.out.later hb); replace LY := Lib.hid (LY.out.later hb); replace BEL := Lib.hid (BEL.out.trans (hb.mono BEL.out.size)); clear hb) | fail)
    refine wp_region_quiet_below (by kernel_rfl) (by kernel_rfl) ?_
    repeat (first | go_big_quiet_step (fail) | quiet_step (fail))
    refine wpQuiet_nil ?_
    intro w7 hw'
    have hb := regrown_below hw'
    clear hw'
    replace BEL := Lib.hid (BEL.out.trans (hb.mono BEL.out.size))
    clear hb
    go_wp2_with fail
    go_ret
    exact ⟨rfl, BEL.out⟩
  have g1 : decide ((60 : Int) < (n : Int)) = false := decide_eq_false (by omega)
  by_cases hm : 60 < m
  · have g2 : decide ((60 : Int) < (m : Int)) = true := decide_eq_true (by omega)
    clear hm
    go_enter Try.func3, Try.ntmps3
    go_wp2_with (first | (go_at_call 5; with_reducible refine (UP _).out.mono ?_; rintro e w3 ⟨rfl, hb⟩; replace OZ := Lib.hid (OZ.out.below hb OZ.out.lt); replace LX := Lib.hid (LX.out.later hb); replace LY := Lib.hid (LY.out.later hb); replace BEL := Lib.hid (BEL.out.trans (hb.mono BEL.out.size)); clear hb) | fail)
    refine wp_region_quiet_below (by kernel_rfl) (by kernel_rfl) ?_
    repeat (first | go_big_quiet_step (fail) | quiet_step (fail))
    refine wpQuiet_nil ?_
    intro w7 hw'
    have hb := regrown_below hw'
    clear hw'
    replace BEL := Lib.hid (BEL.out.trans (hb.mono BEL.out.size))
    clear hb
    go_wp2_with fail
    go_ret
    exact ⟨rfl, BEL.out⟩
  have g2 : decide ((60 : Int) < (m : Int)) = false := decide_eq_false (by omega)
  have HN := Lib.hid (show n ≤ 60 by omega)
  have HM := Lib.hid (show m ≤ 60 by omega)
  clear hn hm
  -- the numbers that Real tells
  have HV : Hid ((realN x = 0 ∨ realN x = 1) ∧ (realN y = 0 ∨ realN y = 1) ∧ (realN [z] = 0 ∨ realN [z] = 1)) := Lib.hid (by
    unfold realN
    refine ⟨?_, ?_, ?_⟩
    all_goals split <;> simp)
  have HT : Hid (realN x = 1 → realN y = 1 → realN [z] = 1 → (∀ i ∈ x, realB i = true) ∧ (∀ i ∈ y, realB i = true) ∧ realB z = true) := Lib.hid (by
    unfold realN
    intro h1 h2 h3
    refine ⟨?_, ?_, ?_⟩
    · split at h1
      · rename_i h; exact List.all_eq_true.1 h
      · cases h1
    · split at h2
      · rename_i h; exact List.all_eq_true.1 h
      · cases h2
    · split at h3
      · rename_i h; simpa using h
      · cases h3)
  generalize realN x = rx at *
  generalize realN y = ry at *
  generalize realN [z] = rz at *
  go_enter Try.func3, Try.ntmps3
  go_upto_region 2 with (first | (go_at_call 5; with_reducible refine (UP _).out.mono ?_; rintro e w3 ⟨rfl, hb⟩; replace OZ := Lib.hid (OZ.out.below hb OZ.out.lt); replace LX := Lib.hid (LX.out.later hb); replace LY := Lib.hid (LY.out.later hb); replace BEL := Lib.hid (BEL.out.trans (hb.mono BEL.out.size)); clear hb) | fail)
  go_cut [42] (fun s wx => s = .bool (rx * ry * rz == 0) ∧ Hid (Has wx w.heap.size (rA z) ∧ Row 9 rc wx x (.slice ov n cv) ∧ Row 9 rc wx y (.slice ov' m cv') ∧ Below w.heap.size w wx))
  case first =>
    have OZ0 := OZ
    have LX0 := LX
    have LY0 := LY
    have BEL0 := BEL
    replace OZ := Lib.hid (OZ.out.drew)
    replace LX := Lib.hid (LX.out.drew)
    replace LY := Lib.hid (LY.out.drew)
    replace BEL := Lib.hid (BEL.out.drew)
    have hv := HV.out
    clear HT
    rcases hv with ⟨rfl | rfl, rfl | rfl, rfl | rfl⟩
    all_goals
      first
        | (go_region_held3 (fun w' => ∀ o, w'.cell? ⟨w.heap.size, o, none⟩ = (rA z)[o]?) (first | with_reducible exact OZ.out.cell | with_reducible exact (OZ.out.alloc _).cell | with_reducible exact ((OZ0.out.alloc _).drew).cell)
            (first
              | (go_simp; go_at_call_of 6 (ov); with_reducible refine (RX _ LX.out).out.mono ?_; rintro e wa ⟨rfl, hb⟩; replace OZ := Lib.hid (OZ.out.below hb OZ.out.lt); replace LX := Lib.hid (LX.out.later hb); replace LY := Lib.hid (LY.out.later hb); replace BEL := Lib.hid (BEL.out.trans (hb.mono BEL.out.size)); (try replace LZ := Lib.hid (LZ.out.later hb)); clear hb)
              | (go_simp; go_at_call_of 6 (ov); have LZ := Lib.hid (row_oneOf LX.out z 25 HZ.out); replace OZ := Lib.hid (OZ.out.alloc (.cells (rA z) 25)); replace LX := Lib.hid (LX.out.alloc (.cells (rA z) 25)); replace LY := Lib.hid (LY.out.alloc (.cells (rA z) 25)); replace BEL := Lib.hid (BEL.out.alloc BEL.out.size (.cells (rA z) 25)); with_reducible refine (RX _ LX.out).out.mono ?_; rintro e wa ⟨rfl, hb⟩; replace OZ := Lib.hid (OZ.out.below hb OZ.out.lt); replace LX := Lib.hid (LX.out.later hb); replace LY := Lib.hid (LY.out.later hb); replace BEL := Lib.hid (BEL.out.trans (hb.mono BEL.out.size)); (try replace LZ := Lib.hid (LZ.out.later hb)); clear hb)
              | (go_simp; go_at_call_of 6 (ov); have LZ := Lib.hid ((row_oneOf LX0.out z 25 HZ.out).drew); replace OZ := Lib.hid ((OZ0.out.alloc (.cells (rA z) 25)).drew); replace LX := Lib.hid ((LX0.out.alloc (.cells (rA z) 25)).drew); replace LY := Lib.hid ((LY0.out.alloc (.cells (rA z) 25)).drew); replace BEL := Lib.hid ((BEL0.out.alloc BEL0.out.size (.cells (rA z) 25)).drew); with_reducible refine (RX _ LX.out).out.mono ?_; rintro e wa ⟨rfl, hb⟩; replace OZ := Lib.hid (OZ.out.below hb OZ.out.lt); replace LX := Lib.hid (LX.out.later hb); replace LY := Lib.hid (LY.out.later hb); replace BEL := Lib.hid (BEL.out.trans (hb.mono BEL.out.size)); (try replace LZ := Lib.hid (LZ.out.later hb)); clear hb)
              | (go_simp; go_at_call_of 6 (ov'); with_reducible refine (RY _ LY.out).out.mono ?_; rintro e wb ⟨rfl, hb⟩; replace OZ := Lib.hid (OZ.out.below hb OZ.out.lt); replace LX := Lib.hid (LX.out.later hb); replace LY := Lib.hid (LY.out.later hb); replace BEL := Lib.hid (BEL.out.trans (hb.mono BEL.out.size)); (try replace LZ := Lib.hid (LZ.out.later hb)); clear hb)
              | (go_simp; go_at_call_of 6 (ov'); have LZ := Lib.hid (row_oneOf LX.out z 25 HZ.out); replace OZ := Lib.hid (OZ.out.alloc (.cells (rA z) 25)); replace LX := Lib.hid (LX.out.alloc (.cells (rA z) 25)); replace LY := Lib.hid (LY.out.alloc (.cells (rA z) 25)); replace BEL := Lib.hid (BEL.out.alloc BEL.out.size (.cells (rA z) 25)); with_reducible refine (RY _ LY.out).out.mono ?_; rintro e wb ⟨rfl, hb⟩; replace OZ := Lib.hid (OZ.out.below hb OZ.out.lt); replace LX := Lib.hid (LX.out.later hb); replace LY := Lib.hid (LY.out.later hb); replace BEL := Lib.hid (BEL.out.trans (hb.mono BEL.out.size)); (try replace LZ := Lib.hid (LZ.out.later hb)); clear hb)
              | (go_simp; go_at_call 6; with_reducible refine (RZ _ _ LZ.out).out.mono ?_; rintro e wc ⟨rfl, hb⟩; replace OZ := Lib.hid (OZ.out.below hb OZ.out.lt); replace LX := Lib.hid (LX.out.later hb); replace LY := Lib.hid (LY.out.later hb); replace BEL := Lib.hid (BEL.out.trans (hb.mono BEL.out.size)); (try replace LZ := Lib.hid (LZ.out.later hb)); clear hb)
              | (go_simp; go_at_call 6; have LZ := Lib.hid (row_oneOf LX.out z 25 HZ.out); replace OZ := Lib.hid (OZ.out.alloc (.cells (rA z) 25)); replace LX := Lib.hid (LX.out.alloc (.cells (rA z) 25)); replace LY := Lib.hid (LY.out.alloc (.cells (rA z) 25)); replace BEL := Lib.hid (BEL.out.alloc BEL.out.size (.cells (rA z) 25)); with_reducible refine (RZ _ _ LZ.out).out.mono ?_; rintro e wc ⟨rfl, hb⟩; replace OZ := Lib.hid (OZ.out.below hb OZ.out.lt); replace LX := Lib.hid (LX.out.later hb); replace LY := Lib.hid (LY.out.later hb); replace BEL := Lib.hid (BEL.out.trans (hb.mono BEL.out.size)); (try replace LZ := Lib.hid (LZ.out.later hb)); clear hb)
              | fail))
        | fail
      all_goals
        go_wp2_with fail
        go_meet
        exact ⟨rfl, OZ.out, LX.out, LY.out, BEL.out⟩
  case rest =>
    obtain ⟨rfl, hh⟩ := hcut
    clear OZ LX LY BEL RX RY RZ
    obtain ⟨hZ, hX, hY, hB⟩ := Hid.out hh
    have OZ := Lib.hid hZ
    have LX := Lib.hid hX
    have LY := Lib.hid hY
    have BEL := Lib.hid hB
    clear hZ hX hY hB hh
    by_cases hp : rx * ry * rz = 0
    case pos =>
      have gp : (rx * ry * rz == 0) = true := by rw [hp]; rfl
      rw [gp]
      clear HV HT
      go_wp2_with fail
      go_ret
      exact ⟨rfl, BEL.out⟩
    have gp : (rx * ry * rz == 0) = false := by rw [beq_eq_false_iff_ne]; exact hp
    rw [gp]
    have hv := HV.out
    have ht := HT.out
    clear HV HT gp
    rcases hv with ⟨rfl | rfl, rfl | rfl, rfl | rfl⟩
    all_goals first | (exact absurd rfl hp) | skip
    obtain ⟨tx, ty, tz⟩ := ht rfl rfl rfl
    have TX := Lib.hid tx
    have TY := Lib.hid ty
    have TZ := Lib.hid tz
    clear tx ty tz ht hp
    have hlx := HLX.out
    have hly := HLY.out
    have hn6 := HN.out
    have hm6 := HM.out
    have IX := fun w' h => Lib.hid (items_calls x (.slice ov n cv) w' h (by omega))
    have IY := fun w' h => Lib.hid (items_calls y (.slice ov' m cv') w' h (by omega))
    have IZ := fun w' => Lib.hid (item_calls z.id z.r z.c z.st z.kd z.num z.x z.y z.d w')
    have KM := fun v w' h => Lib.hid (listMay_calls x v w' h (by omega))
    have RM := fun v w' h => Lib.hid (show Calls Try.prog 10 #[v] w' (fun e w'' => e = .returned (.bool (mayLB x)) ∧ Below w'.heap.size w' w'') from mayList_calls mayT refMayT_calls x v w' h)
    have SX := fun v w' h => Lib.hid (rises_calls x v w' h)
    have SY := fun v w' h => Lib.hid (rises_calls y v w' h)
    have KG := fun v w' h hr => Lib.hid (listGet_calls x id v w' h hr (by omega) hid)
    have RG := fun v w' h => Lib.hid (refGet_calls x id v w' h)
    have KP := fun v w' h hr => Lib.hid (listPut_calls x z v w' h hr (by omega) HZ.out)
    have RP := fun v w' h => Lib.hid (refPut_calls x z v w' h (by omega))
    have KD := fun v w' h hr => Lib.hid (listDrop_calls x id v w' h hr (by omega) hid)
    have RD := fun v w' h => Lib.hid (refDrop_calls x id v w' h (by omega))
    have KB := fun v v2 w' h h' hr hr' => Lib.hid (listBoth_calls x y v v2 w' h h' hr hr' (by omega) (by omega))
    have RB := fun v v2 w' h h' => Lib.hid (both_calls behT behT_calls x y v v2 w' h h' (by omega) (by omega))
    have DP : Hid (sameL sameT (putI x z) (putI x z) = true ∧ ∀ i ∈ putI x z, i.id.size ≤ maxLen ∧ i.kd.size ≤ maxLen) := Lib.hid ⟨sameL_self fun i hi => by
        rcases put_mem hi with h | h
        · exact real_same (TX.out i h)
        · rw [h]; exact real_same TZ.out, fun i hi => by
        rcases put_mem hi with h | h
        · exact HX.out i h
        · rw [h]; exact HZ.out⟩
    have DD : Hid (sameL sameT (x.filter (neB id)) (x.filter (neB id)) = true ∧ ∀ i ∈ x.filter (neB id), i.id.size ≤ maxLen ∧ i.kd.size ≤ maxLen) := Lib.hid ⟨sameL_self fun i hi => real_same (TX.out i (List.mem_filter.1 hi).1), fun i hi => HX.out i (List.mem_filter.1 hi).1⟩
    have DB : Hid (sameL sameT (bothI behT x y) (bothI behT x y) = true) := Lib.hid (sameL_self fun i hi => by
        rcases both_mem y hi with h | h
        · exact real_same (TX.out i h)
        · exact real_same (TY.out i h))
    have DG : Hid (sameT (getI x id).1 (getI x id).1 = true) := Lib.hid (get_real TX.out id)
    have SP := fun v v2 w' h h' => Lib.hid (lawSame_calls sameT sameT_calls (putI x z) (putI x z) v v2 w' h h' DP.out.1)
    have SD := fun v v2 w' h h' => Lib.hid (lawSame_calls sameT sameT_calls (x.filter (neB id)) (x.filter (neB id)) v v2 w' h h' DD.out.1)
    have SB := fun v v2 w' h h' => Lib.hid (lawSame_calls sameT sameT_calls (bothI behT x y) (bothI behT x y) v v2 w' h h' DB.out)
    have SG := fun w' => Lib.hid (sameT_calls (getI x id).1 (getI x id).1 w')
    rw [DG.out] at SG
    generalize getI x id = g at *
    obtain ⟨gi, gb⟩ := g
    simp only at KG RG SG
    generalize mayLB x = mb at *
    generalize (putI x z) = P at *
    generalize (x.filter (neB id)) = D at *
    generalize (bothI behT x y) = B at *
    have HDP := Lib.hid DP.out.2
    have HDD := Lib.hid DD.out.2
    clear DP DD DB DG hlx hly hn6 hm6 hid TX TY TZ
    go_upto_region 5 with (first | (go_at_call_of 7 (ov); with_reducible refine (IX _ LX.out).out.mono ?_; rintro e wa ⟨va, rfl, hr, hb⟩; have LA := Lib.hid (OwnI.row hr HX.out); replace OZ := Lib.hid (OZ.out.below hb OZ.out.lt); replace LX := Lib.hid (LX.out.later hb); replace LY := Lib.hid (LY.out.later hb); replace BEL := Lib.hid (BEL.out.trans (hb.mono BEL.out.size)); clear hb; clear hr) | fail)
    clear LX IX
    go_upto_region 6 with (first | (go_at_call 7; with_reducible refine (IY _ LY.out).out.mono ?_; rintro e wb ⟨vb, rfl, hr, hb⟩; have LB := Lib.hid (OwnI.row hr HY.out); replace OZ := Lib.hid (OZ.out.below hb OZ.out.lt); replace LY := Lib.hid (LY.out.later hb); replace LA := Lib.hid (LA.out.later hb); replace BEL := Lib.hid (BEL.out.trans (hb.mono BEL.out.size)); clear hb; clear hr) | fail)
    clear LY IY
    have lOZ := OZ.out.cell
    have zOZ := OZ.out.lt
    go_upto_region 7 with (first | (go_at_call 8; with_reducible refine (IZ _).out.mono ?_; rintro e wc ⟨rfl, hb⟩; replace LA := Lib.hid (LA.out.later hb); replace LB := Lib.hid (LB.out.later hb); replace BEL := Lib.hid (BEL.out.trans (hb.mono BEL.out.size)); clear hb; clear lOZ zOZ) | fail)
    clear OZ IZ
    replace LA := Lib.hid (LA.out.alloc (.cells (iA z) 34))
    replace LB := Lib.hid (LB.out.alloc (.cells (iA z) 34))
    replace BEL := Lib.hid (BEL.out.alloc BEL.out.size (.cells (iA z) 34))
    have OC := Lib.hid (Has.new wc (iA z) 34)
    generalize wc.heap.size = bc at *
    generalize wc.alloc (Obj.cells (iA z) 34) = wc' at *
    go_upto_region 9 with (first | (go_at_call 9; with_reducible refine (KM _ _ LA.out).out.mono ?_; rintro e wd ⟨rfl, hb⟩; replace LA := Lib.hid (LA.out.later hb); replace LB := Lib.hid (LB.out.later hb); replace OC := Lib.hid (OC.out.below hb OC.out.lt); replace BEL := Lib.hid (BEL.out.trans (hb.mono BEL.out.size)); clear hb) | (go_at_call 10; with_reducible refine (RM _ _ LA.out).out.mono ?_; rintro e we ⟨rfl, hb⟩; replace LA := Lib.hid (LA.out.later hb); replace LB := Lib.hid (LB.out.later hb); replace OC := Lib.hid (OC.out.below hb OC.out.lt); replace BEL := Lib.hid (BEL.out.trans (hb.mono BEL.out.size)); clear hb) | fail)
    clear KM RM
    have hrx : risesB x = false ∨ RiseI x := by
      cases h : risesB x
      · exact .inl rfl
      · exact .inr (rises_rise.1 h)
    have hry : risesB y = false ∨ RiseI y := by
      cases h : risesB y
      · exact .inl rfl
      · exact .inr (rises_rise.1 h)
    rcases hrx with hrx | hrx
    case inl =>
      rw [hrx] at SX
      clear hrx hry
      generalize risesB y = sy at *
      go_wp2_with (first | (go_at_call_of 11 (va); with_reducible refine (SX _ _ LA.out).out.mono ?_; rintro e wf ⟨rfl, hb⟩; replace LA := Lib.hid (LA.out.later hb); replace LB := Lib.hid (LB.out.later hb); replace OC := Lib.hid (OC.out.below hb OC.out.lt); replace BEL := Lib.hid (BEL.out.trans (hb.mono BEL.out.size)); clear hb) | (go_at_call_of 11 (vb); with_reducible refine (SY _ _ LB.out).out.mono ?_; rintro e wg ⟨rfl, hb⟩; replace LA := Lib.hid (LA.out.later hb); replace LB := Lib.hid (LB.out.later hb); replace OC := Lib.hid (OC.out.below hb OC.out.lt); replace BEL := Lib.hid (BEL.out.trans (hb.mono BEL.out.size)); clear hb) | fail)
      go_ret
      exact ⟨rfl, BEL.out⟩
    rw [rises_rise.2 hrx] at SX
    have QX := Lib.hid hrx
    clear hrx
    rcases hry with hry | hry
    case inl =>
      rw [hry] at SY
      clear hry
      go_wp2_with (first | (go_at_call_of 11 (va); with_reducible refine (SX _ _ LA.out).out.mono ?_; rintro e wf ⟨rfl, hb⟩; replace LA := Lib.hid (LA.out.later hb); replace LB := Lib.hid (LB.out.later hb); replace OC := Lib.hid (OC.out.below hb OC.out.lt); replace BEL := Lib.hid (BEL.out.trans (hb.mono BEL.out.size)); clear hb) | (go_at_call_of 11 (vb); with_reducible refine (SY _ _ LB.out).out.mono ?_; rintro e wg ⟨rfl, hb⟩; replace LA := Lib.hid (LA.out.later hb); replace LB := Lib.hid (LB.out.later hb); replace OC := Lib.hid (OC.out.below hb OC.out.lt); replace BEL := Lib.hid (BEL.out.trans (hb.mono BEL.out.size)); clear hb) | fail)
      go_ret
      exact ⟨rfl, BEL.out⟩
    rw [rises_rise.2 hry] at SY
    have QY := Lib.hid hry
    clear hry
    go_upto_region 12 with (first | (go_at_call_of 11 (va); with_reducible refine (SX _ _ LA.out).out.mono ?_; rintro e wf ⟨rfl, hb⟩; replace LA := Lib.hid (LA.out.later hb); replace LB := Lib.hid (LB.out.later hb); replace OC := Lib.hid (OC.out.below hb OC.out.lt); replace BEL := Lib.hid (BEL.out.trans (hb.mono BEL.out.size)); clear hb) | (go_at_call_of 11 (vb); with_reducible refine (SY _ _ LB.out).out.mono ?_; rintro e wg ⟨rfl, hb⟩; replace LA := Lib.hid (LA.out.later hb); replace LB := Lib.hid (LB.out.later hb); replace OC := Lib.hid (OC.out.below hb OC.out.lt); replace BEL := Lib.hid (BEL.out.trans (hb.mono BEL.out.size)); clear hb) | fail)
    clear SX SY
    go_upto_region 13 with (first | (go_at_call 12; with_reducible refine (KG _ _ LA.out QX.out).out.mono ?_; rintro e wh ⟨rfl, hb⟩; replace LA := Lib.hid (LA.out.later hb); replace LB := Lib.hid (LB.out.later hb); replace OC := Lib.hid (OC.out.below hb OC.out.lt); replace BEL := Lib.hid (BEL.out.trans (hb.mono BEL.out.size)); clear hb) | fail)
    clear KG
    replace LA := Lib.hid (LA.out.alloc (.cells (iA gi) 34))
    replace LB := Lib.hid (LB.out.alloc (.cells (iA gi) 34))
    replace OC := Lib.hid (OC.out.alloc (.cells (iA gi) 34))
    replace BEL := Lib.hid (BEL.out.alloc BEL.out.size (.cells (iA gi) 34))
    have OG := Lib.hid (Has.new wh (iA gi) 34)
    generalize wh.heap.size = bg at *
    generalize wh.alloc (Obj.cells (iA gi) 34) = wh' at *
    go_upto_region 14 with (first | (go_at_call 13; with_reducible refine (RG _ _ LA.out).out.mono ?_; rintro e wi ⟨rfl, hb⟩; replace LA := Lib.hid (LA.out.later hb); replace LB := Lib.hid (LB.out.later hb); replace OC := Lib.hid (OC.out.below hb OC.out.lt); replace BEL := Lib.hid (BEL.out.trans (hb.mono BEL.out.size)); replace OG := Lib.hid (OG.out.below hb OG.out.lt); clear hb) | fail)
    clear RG
    replace LA := Lib.hid (LA.out.alloc (.cells (iA gi) 34))
    replace LB := Lib.hid (LB.out.alloc (.cells (iA gi) 34))
    replace OC := Lib.hid (OC.out.alloc (.cells (iA gi) 34))
    replace BEL := Lib.hid (BEL.out.alloc BEL.out.size (.cells (iA gi) 34))
    replace OG := Lib.hid (OG.out.alloc (.cells (iA gi) 34))
    have OH := Lib.hid (Has.new wi (iA gi) 34)
    generalize wi.heap.size = bh at *
    generalize wi.alloc (Obj.cells (iA gi) 34) = wi' at *
    have lOG := OG.out.cell
    have zOG := OG.out.lt
    have lOH := OH.out.cell
    have zOH := OH.out.lt
    go_upto_region 15 with (first | (go_at_call 14; with_reducible refine (SG _).out.mono ?_; rintro e wj ⟨rfl, hb⟩; replace LA := Lib.hid (LA.out.later hb); replace LB := Lib.hid (LB.out.later hb); replace OC := Lib.hid (OC.out.below hb OC.out.lt); replace BEL := Lib.hid (BEL.out.trans (hb.mono BEL.out.size)); clear hb; clear lOG zOG lOH zOH) | fail)
    clear SG OG OH
    replace LA := Lib.hid (LA.out.drew)
    replace LB := Lib.hid (LB.out.drew)
    replace OC := Lib.hid (OC.out.drew)
    replace BEL := Lib.hid (BEL.out.drew)
    go_region_held3 (fun w' => ∀ o, w'.cell? ⟨bc, o, none⟩ = (iA z)[o]?) (exact OC.out.cell)
      (first
        | (go_simp; go_at_call 16; with_reducible refine (KP _ _ LA.out QX.out).out.mono ?_; rintro e wk ⟨v1, rfl, hr, hb⟩; have LP1 := Lib.hid hr; replace LA := Lib.hid (LA.out.later hb); replace LB := Lib.hid (LB.out.later hb); replace OC := Lib.hid (OC.out.below hb OC.out.lt); replace BEL := Lib.hid (BEL.out.trans (hb.mono BEL.out.size)); (try replace LP2 := Lib.hid (LP2.out.later hb)); clear hb; clear hr)
        | (go_simp; go_at_call 17; with_reducible refine (RP _ _ LA.out).out.mono ?_; rintro e wl ⟨v2, rfl, hr, hb⟩; have LP2 := Lib.hid (OwnI.row hr HDP.out); replace LA := Lib.hid (LA.out.later hb); replace LB := Lib.hid (LB.out.later hb); replace OC := Lib.hid (OC.out.below hb OC.out.lt); replace BEL := Lib.hid (BEL.out.trans (hb.mono BEL.out.size)); (try replace LP1 := Lib.hid (LP1.out.later hb)); clear hb; clear hr)
        | (go_simp; go_at_call 15; with_reducible refine (SP _ _ _ LP1.out LP2.out).out.mono ?_; rintro e wm ⟨rfl, hb⟩; replace LA := Lib.hid (LA.out.later hb); replace LB := Lib.hid (LB.out.later hb); replace OC := Lib.hid (OC.out.below hb OC.out.lt); replace BEL := Lib.hid (BEL.out.trans (hb.mono BEL.out.size)); clear hb)
        | fail)
    all_goals
      clear KP RP SP LP1 LP2
      go_upto_region 17 with (first | (go_at_call 18; with_reducible refine (KD _ _ LA.out QX.out).out.mono ?_; rintro e wn ⟨v3, rfl, hr, hb⟩; have LD1 := Lib.hid hr; replace LA := Lib.hid (LA.out.later hb); replace LB := Lib.hid (LB.out.later hb); replace BEL := Lib.hid (BEL.out.trans (hb.mono BEL.out.size)); clear hb; clear hr) | (go_at_call 19; with_reducible refine (RD _ _ LA.out).out.mono ?_; rintro e wo ⟨v4, rfl, hr, hb⟩; have LD2 := Lib.hid (OwnI.row hr HDD.out); replace LA := Lib.hid (LA.out.later hb); replace LB := Lib.hid (LB.out.later hb); replace BEL := Lib.hid (BEL.out.trans (hb.mono BEL.out.size)); replace LD1 := Lib.hid (LD1.out.later hb); clear hb; clear hr) | (go_at_call 15; with_reducible refine (SD _ _ _ LD1.out LD2.out).out.mono ?_; rintro e wp ⟨rfl, hb⟩; replace LA := Lib.hid (LA.out.later hb); replace LB := Lib.hid (LB.out.later hb); replace BEL := Lib.hid (BEL.out.trans (hb.mono BEL.out.size)); clear hb) | fail)
      clear KD RD SD LD1 LD2
      go_wp2_with (first | (go_at_call 20; with_reducible refine (KB _ _ _ LA.out LB.out QX.out QY.out).out.mono ?_; rintro e wq ⟨v5, rfl, hr, hb⟩; have LE1 := Lib.hid hr; replace LA := Lib.hid (LA.out.later hb); replace LB := Lib.hid (LB.out.later hb); replace BEL := Lib.hid (BEL.out.trans (hb.mono BEL.out.size)); clear hb; clear hr) | (go_at_call 21; with_reducible refine (RB _ _ _ LA.out LB.out).out.mono ?_; rintro e wr ⟨v6, rfl, hr, hb⟩; have LE2 := Lib.hid hr; replace LA := Lib.hid (LA.out.later hb); replace LB := Lib.hid (LB.out.later hb); replace BEL := Lib.hid (BEL.out.trans (hb.mono BEL.out.size)); replace LE1 := Lib.hid (LE1.out.later hb); clear hb; clear hr) | (go_at_call 15; with_reducible refine (SB _ _ _ LE1.out LE2.out).out.mono ?_; rintro e ws ⟨rfl, hb⟩; replace LA := Lib.hid (LA.out.later hb); replace LB := Lib.hid (LB.out.later hb); replace BEL := Lib.hid (BEL.out.trans (hb.mono BEL.out.size)); clear hb) | fail)
      go_ret
      exact ⟨by first | rfl | simp, BEL.out⟩

end Go.Proofs.Ytbojpdlidgmckaa
