/- ListKeeps, walked. -/
import Derived.Test.YtbojpdlidgmckaaListC
import Derived.Test.YtbojpdlidgmckaaListKM
import Derived.Deep.RegionHeld3
import Derived.Deep.DeepCutAuto
namespace Go.Proofs.Ytbojpdlidgmckaa
set_option linter.unusedVariables false
set_option linter.unusedSimpArgs false
open Go.RowKit
attribute [local go_sem ↓] eqItm

set_option maxRecDepth 100000 in
set_option maxHeartbeats 16000000 in
theorem listKeeps_calls (x0 y0 : List Itm) (z : Itm) (id : ByteArray) (v v' : Value) (w : World) (hR : Row 9 rc w x0 v) (hM : Row 9 rc w y0 v') (hz : z.id.size ≤ maxLen ∧ z.kd.size ≤ maxLen) (hid : id.size ≤ maxLen) :
    Calls Try.prog 4 #[v, v', rV z, .string id] w fun e w' => e = .returned (.bool true) ∧ Below w.heap.size w w' := by
  obtain ⟨ov, cv, rfl⟩ := hR.val
  obtain ⟨ov', cv', rfl⟩ := hM.val
  have UP := fun w' => Lib.hid (up8_calls w')
  have OZ := Lib.hid (Has.new w (rA z) 25)
  have BEL := Lib.hid ((Below.refl w.heap.size w).alloc (Nat.le_refl _) (.cells (rA z) 25))
  have LX := Lib.hid ((hR.take 60).alloc (.cells (rA z) 25))
  have LY := Lib.hid ((hM.take 60).alloc (.cells (rA z) 25))
  have hx6 : (x0.take 60).length ≤ 60 := by rw [List.length_take]; omega
  have hy6 : (y0.take 60).length ≤ 60 := by rw [List.length_take]; omega
  have mx : (x0.take 60).length = min x0.length 60 := by rw [List.length_take]; omega
  have my : (y0.take 60).length = min y0.length 60 := by rw [List.length_take]; omega
  have kx := hR.cap
  have ky := hM.cap
  generalize x0.take 60 = x at *
  generalize y0.take 60 = y at *
  generalize hlx : x0.length = n at *
  generalize hly : y0.length = m at *
  have HX := Lib.hid LX.out.oks
  have HY := Lib.hid LY.out.oks
  have IX := fun v w' h => Lib.hid (items_calls x v w' h (by omega))
  have IY := fun v w' h => Lib.hid (items_calls y v w' h (by omega))
  have HL := Lib.hid (And.intro hx6 hy6)
  have HZ := Lib.hid hz
  have HI := Lib.hid hid
  have MX := Lib.hid mx
  have MY := Lib.hid my
  clear hR hM hz hid hlx hly hx6 hy6 mx my
  go_enter Try.func4, Try.ntmps4
  go_upto_region 2 with (first | (go_at_call 5; with_reducible refine (UP _).out.mono ?_; rintro e w3 ⟨rfl, hb⟩; replace OZ := Lib.hid (OZ.out.below hb OZ.out.lt); replace LX := Lib.hid (LX.out.later hb); replace LY := Lib.hid (LY.out.later hb); replace BEL := Lib.hid (BEL.out.trans (hb.mono BEL.out.size)); clear hb) | fail)
  clear UP
  rw [MY.out] at LY
  go_cut [10] (fun s wx => Hid (Row 8 ic wx x s ∧ Has wx w.heap.size (rA z) ∧ Row 9 rc wx y (.slice ov' (min m 60) cv') ∧ Below w.heap.size w wx))
  case first =>
    by_cases hq : 60 < n
    · have g1 : decide ((60 : Int) < (n : Int)) = true := decide_eq_true (by omega)
      have g2 : decide ((n : Int) < (60 : Int)) = false := decide_eq_false (by omega)
      have e := MX.out
      rw [show min n 60 = 60 by omega] at e
      have gm : min (n : Int) 60 = 60 := by omega
      rw [e] at LX
      have k6 : 60 ≤ n := by omega
      clear e
      go_wp2_with (first | (go_at_call 7; with_reducible refine (IX _ _ LX.out).out.mono ?_; rintro e wa ⟨va, rfl, hr, hb⟩; have LA := Lib.hid (OwnI.row hr HX.out); replace OZ := Lib.hid (OZ.out.below hb OZ.out.lt); replace LY := Lib.hid (LY.out.later hb); replace BEL := Lib.hid (BEL.out.trans (hb.mono BEL.out.size)); clear hb; clear hr) | fail)
      go_meet
      exact ⟨LA.out, OZ.out, LY.out, BEL.out⟩
    · have g1 : decide ((60 : Int) < (n : Int)) = false := decide_eq_false (by omega)
      have e := MX.out
      rw [show min n 60 = n by omega] at e
      have gm : min (n : Int) 60 = (n : Int) := by omega
      rw [e] at LX
      clear e
      by_cases hq2 : n = 60
      · have g2 : decide ((n : Int) < (60 : Int)) = false := decide_eq_false (by omega)
        subst hq2
        go_wp2_with (first | (go_at_call 7; with_reducible refine (IX _ _ LX.out).out.mono ?_; rintro e wa ⟨va, rfl, hr, hb⟩; have LA := Lib.hid (OwnI.row hr HX.out); replace OZ := Lib.hid (OZ.out.below hb OZ.out.lt); replace LY := Lib.hid (LY.out.later hb); replace BEL := Lib.hid (BEL.out.trans (hb.mono BEL.out.size)); clear hb; clear hr) | fail)
        go_meet
        exact ⟨LA.out, OZ.out, LY.out, BEL.out⟩
      · have g2 : decide ((n : Int) < (60 : Int)) = true := decide_eq_true (by omega)
        have hq3 : n ≤ 60 := by omega
        clear hq2
        go_wp2_with (first | (go_at_call 7; with_reducible refine (IX _ _ LX.out).out.mono ?_; rintro e wa ⟨va, rfl, hr, hb⟩; have LA := Lib.hid (OwnI.row hr HX.out); replace OZ := Lib.hid (OZ.out.below hb OZ.out.lt); replace LY := Lib.hid (LY.out.later hb); replace BEL := Lib.hid (BEL.out.trans (hb.mono BEL.out.size)); clear hb; clear hr) | fail)
        go_meet
        exact ⟨LA.out, OZ.out, LY.out, BEL.out⟩
  case rest =>
    obtain ⟨h1, h2, h3, h4⟩ := Hid.out hcut
    clear OZ LX BEL IX MX kx LY
    have LA := Lib.hid h1
    have OZ := Lib.hid h2
    have LY := Lib.hid h3
    have BEL := Lib.hid h4
    clear h1 h2 h3 h4 hcut
    go_upto_region 3 with fail
    rw [← MY.out] at LY
    go_cut [11] (fun s wx => Hid (Row 8 ic wx y s ∧ Row 8 ic wx x u10 ∧ Has wx w.heap.size (rA z) ∧ Below w.heap.size w wx))
    case first =>
      by_cases hq : 60 < m
      · have g1 : decide ((60 : Int) < (m : Int)) = true := decide_eq_true (by omega)
        have g2 : decide ((m : Int) < (60 : Int)) = false := decide_eq_false (by omega)
        have e := MY.out
        rw [show min m 60 = 60 by omega] at e
        have gm : min (m : Int) 60 = 60 := by omega
        rw [e] at LY
        have k6 : 60 ≤ m := by omega
        clear e
        go_wp2_with (first | (go_at_call 7; with_reducible refine (IY _ _ LY.out).out.mono ?_; rintro e wb ⟨vb, rfl, hr, hb⟩; have LB := Lib.hid (OwnI.row hr HY.out); replace OZ := Lib.hid (OZ.out.below hb OZ.out.lt); replace LA := Lib.hid (LA.out.later hb); replace BEL := Lib.hid (BEL.out.trans (hb.mono BEL.out.size)); clear hb; clear hr) | fail)
        go_meet
        exact ⟨LB.out, LA.out, OZ.out, BEL.out⟩
      · have g1 : decide ((60 : Int) < (m : Int)) = false := decide_eq_false (by omega)
        have e := MY.out
        rw [show min m 60 = m by omega] at e
        have gm : min (m : Int) 60 = (m : Int) := by omega
        rw [e] at LY
        clear e
        by_cases hq2 : m = 60
        · have g2 : decide ((m : Int) < (60 : Int)) = false := decide_eq_false (by omega)
          subst hq2
          go_wp2_with (first | (go_at_call 7; with_reducible refine (IY _ _ LY.out).out.mono ?_; rintro e wb ⟨vb, rfl, hr, hb⟩; have LB := Lib.hid (OwnI.row hr HY.out); replace OZ := Lib.hid (OZ.out.below hb OZ.out.lt); replace LA := Lib.hid (LA.out.later hb); replace BEL := Lib.hid (BEL.out.trans (hb.mono BEL.out.size)); clear hb; clear hr) | fail)
          go_meet
          exact ⟨LB.out, LA.out, OZ.out, BEL.out⟩
        · have g2 : decide ((m : Int) < (60 : Int)) = true := decide_eq_true (by omega)
          have hq3 : m ≤ 60 := by omega
          clear hq2
          go_wp2_with (first | (go_at_call 7; with_reducible refine (IY _ _ LY.out).out.mono ?_; rintro e wb ⟨vb, rfl, hr, hb⟩; have LB := Lib.hid (OwnI.row hr HY.out); replace OZ := Lib.hid (OZ.out.below hb OZ.out.lt); replace LA := Lib.hid (LA.out.later hb); replace BEL := Lib.hid (BEL.out.trans (hb.mono BEL.out.size)); clear hb; clear hr) | fail)
          go_meet
          exact ⟨LB.out, LA.out, OZ.out, BEL.out⟩
    case rest =>
      obtain ⟨h1, h2, h3, h4⟩ := Hid.out hcut
      clear OZ LA BEL IY MY ky LY
      have LB := Lib.hid h1
      have LA := Lib.hid h2
      have OZ := Lib.hid h3
      have BEL := Lib.hid h4
      clear h1 h2 h3 h4 hcut
      have kx6 := HL.out.1
      have ky6 := HL.out.2
      have IZ := fun w' => Lib.hid (item_calls z.id z.r z.c z.st z.kd z.num z.x z.y z.d w')
      have KMX := fun v w' h => Lib.hid (listMay_calls x v w' h (by omega))
      have KMY := fun v w' h => Lib.hid (listMay_calls y v w' h (by omega))
      have RM := fun w' => Lib.hid (refMayT_calls z w' HZ.out.1 HZ.out.2)
      clear HL
      go_upto_region 4 with fail
      have lOZ := OZ.out.cell
      have zOZ := OZ.out.lt
      go_upto_region 5 with (first | (go_at_call 8; with_reducible refine (IZ _).out.mono ?_; rintro e wc2 ⟨rfl, hb⟩; replace LA := Lib.hid (LA.out.later hb); replace LB := Lib.hid (LB.out.later hb); replace BEL := Lib.hid (BEL.out.trans (hb.mono BEL.out.size)); clear hb; clear lOZ zOZ) | fail)
      clear OZ IZ
      replace LA := Lib.hid (LA.out.alloc (.cells (iA z) 34))
      replace LB := Lib.hid (LB.out.alloc (.cells (iA z) 34))
      replace BEL := Lib.hid (BEL.out.alloc BEL.out.size (.cells (iA z) 34))
      have OC := Lib.hid (Has.new wc2 (iA z) 34)
      generalize wc2.heap.size = bc at *
      generalize wc2.alloc (Obj.cells (iA z) 34) = wc2' at *
      have lOC := OC.out.cell
      have zOC := OC.out.lt
      cases hmx : mayLB x
      case false =>
        rw [hmx] at KMX
        clear hmx
        go_wp2_with (first | (go_at_call_of 9 (u10); with_reducible refine (KMX _ _ LA.out).out.mono ?_; rintro e wd ⟨rfl, hb⟩; replace LA := Lib.hid (LA.out.later hb); replace LB := Lib.hid (LB.out.later hb); replace OC := Lib.hid (OC.out.below hb OC.out.lt); replace BEL := Lib.hid (BEL.out.trans (hb.mono BEL.out.size)); clear hb; replace lOC := OC.out.cell; replace zOC := OC.out.lt) | (go_at_call_of 9 (u11); with_reducible refine (KMY _ _ LB.out).out.mono ?_; rintro e we ⟨rfl, hb⟩; replace LA := Lib.hid (LA.out.later hb); replace LB := Lib.hid (LB.out.later hb); replace OC := Lib.hid (OC.out.below hb OC.out.lt); replace BEL := Lib.hid (BEL.out.trans (hb.mono BEL.out.size)); clear hb; replace lOC := OC.out.cell; replace zOC := OC.out.lt) | (go_at_call 22; with_reducible refine (RM _).out.mono ?_; rintro e wf ⟨rfl, hb⟩; replace LA := Lib.hid (LA.out.later hb); replace LB := Lib.hid (LB.out.later hb); replace OC := Lib.hid (OC.out.below hb OC.out.lt); replace BEL := Lib.hid (BEL.out.trans (hb.mono BEL.out.size)); clear hb; replace lOC := OC.out.cell; replace zOC := OC.out.lt) | fail)
        go_ret
        exact ⟨rfl, BEL.out⟩
      rw [hmx] at KMX
      have JX := Lib.hid hmx
      clear hmx
      cases hmy : mayLB y
      case false =>
        rw [hmy] at KMY
        clear hmy
        go_wp2_with (first | (go_at_call_of 9 (u10); with_reducible refine (KMX _ _ LA.out).out.mono ?_; rintro e wd ⟨rfl, hb⟩; replace LA := Lib.hid (LA.out.later hb); replace LB := Lib.hid (LB.out.later hb); replace OC := Lib.hid (OC.out.below hb OC.out.lt); replace BEL := Lib.hid (BEL.out.trans (hb.mono BEL.out.size)); clear hb; replace lOC := OC.out.cell; replace zOC := OC.out.lt) | (go_at_call_of 9 (u11); with_reducible refine (KMY _ _ LB.out).out.mono ?_; rintro e we ⟨rfl, hb⟩; replace LA := Lib.hid (LA.out.later hb); replace LB := Lib.hid (LB.out.later hb); replace OC := Lib.hid (OC.out.below hb OC.out.lt); replace BEL := Lib.hid (BEL.out.trans (hb.mono BEL.out.size)); clear hb; replace lOC := OC.out.cell; replace zOC := OC.out.lt) | (go_at_call 22; with_reducible refine (RM _).out.mono ?_; rintro e wf ⟨rfl, hb⟩; replace LA := Lib.hid (LA.out.later hb); replace LB := Lib.hid (LB.out.later hb); replace OC := Lib.hid (OC.out.below hb OC.out.lt); replace BEL := Lib.hid (BEL.out.trans (hb.mono BEL.out.size)); clear hb; replace lOC := OC.out.cell; replace zOC := OC.out.lt) | fail)
        go_ret
        exact ⟨rfl, BEL.out⟩
      rw [hmy] at KMY
      have JY := Lib.hid hmy
      clear hmy
      cases hmz : mayT z
      case false =>
        rw [hmz] at RM
        clear hmz
        go_wp2_with (first | (go_at_call_of 9 (u10); with_reducible refine (KMX _ _ LA.out).out.mono ?_; rintro e wd ⟨rfl, hb⟩; replace LA := Lib.hid (LA.out.later hb); replace LB := Lib.hid (LB.out.later hb); replace OC := Lib.hid (OC.out.below hb OC.out.lt); replace BEL := Lib.hid (BEL.out.trans (hb.mono BEL.out.size)); clear hb; replace lOC := OC.out.cell; replace zOC := OC.out.lt) | (go_at_call_of 9 (u11); with_reducible refine (KMY _ _ LB.out).out.mono ?_; rintro e we ⟨rfl, hb⟩; replace LA := Lib.hid (LA.out.later hb); replace LB := Lib.hid (LB.out.later hb); replace OC := Lib.hid (OC.out.below hb OC.out.lt); replace BEL := Lib.hid (BEL.out.trans (hb.mono BEL.out.size)); clear hb; replace lOC := OC.out.cell; replace zOC := OC.out.lt) | (go_at_call 22; with_reducible refine (RM _).out.mono ?_; rintro e wf ⟨rfl, hb⟩; replace LA := Lib.hid (LA.out.later hb); replace LB := Lib.hid (LB.out.later hb); replace OC := Lib.hid (OC.out.below hb OC.out.lt); replace BEL := Lib.hid (BEL.out.trans (hb.mono BEL.out.size)); clear hb; replace lOC := OC.out.cell; replace zOC := OC.out.lt) | fail)
        go_ret
        exact ⟨rfl, BEL.out⟩
      rw [hmz] at RM
      have JZ := Lib.hid hmz
      clear hmz
      go_upto_region 7 with (first | (go_at_call_of 9 (u10); with_reducible refine (KMX _ _ LA.out).out.mono ?_; rintro e wd ⟨rfl, hb⟩; replace LA := Lib.hid (LA.out.later hb); replace LB := Lib.hid (LB.out.later hb); replace OC := Lib.hid (OC.out.below hb OC.out.lt); replace BEL := Lib.hid (BEL.out.trans (hb.mono BEL.out.size)); clear hb; replace lOC := OC.out.cell; replace zOC := OC.out.lt) | (go_at_call_of 9 (u11); with_reducible refine (KMY _ _ LB.out).out.mono ?_; rintro e we ⟨rfl, hb⟩; replace LA := Lib.hid (LA.out.later hb); replace LB := Lib.hid (LB.out.later hb); replace OC := Lib.hid (OC.out.below hb OC.out.lt); replace BEL := Lib.hid (BEL.out.trans (hb.mono BEL.out.size)); clear hb; replace lOC := OC.out.cell; replace zOC := OC.out.lt) | (go_at_call 22; with_reducible refine (RM _).out.mono ?_; rintro e wf ⟨rfl, hb⟩; replace LA := Lib.hid (LA.out.later hb); replace LB := Lib.hid (LB.out.later hb); replace OC := Lib.hid (OC.out.below hb OC.out.lt); replace BEL := Lib.hid (BEL.out.trans (hb.mono BEL.out.size)); clear hb; replace lOC := OC.out.cell; replace zOC := OC.out.lt) | fail)
      clear KMX KMY RM
      have W := Lib.hid (ways (a := x) (b := y) (c := z) JX.out JY.out id)
      have ez : eqT z z = true := eqT_may JZ.out
      have rX := (mayLB_iff.1 JX.out).2
      have rY := (mayLB_iff.1 JY.out).2
      have jP := may_put JX.out JZ.out
      have rP := (mayLB_iff.1 jP).2
      have jD := may_filter (p := neB z.id) jP
      have rD := (mayLB_iff.1 jD).2
      have jB := may_both (f := behT) JX.out JY.out
      have rB := (mayLB_iff.1 jB).2
      have gP : getI (putI x z) z.id = (z, true) := by rw [get_put rX, if_pos rfl]
      have gD : getI ((putI x z).filter (neB z.id)) z.id = (Itm.zero, false) := by rw [get_drop rP, if_pos rfl]
      have nP : (putI x z).length ≤ 61 := Nat.le_trans (putI_len x z) (by omega)
      have nD : ((putI x z).filter (neB z.id)).length ≤ 61 := Nat.le_trans (List.length_filter_le _ _) nP
      have nB : (bothI behT x y).length ≤ 120 := Nat.le_trans listMax (by omega)
      have KP := fun v w' h => Lib.hid (listPut_calls x z v w' h rX (by omega) HZ.out)
      have KD := fun v w' h => Lib.hid (listDrop_calls (putI x z) z.id v w' h rP (by omega) HZ.out.1)
      have KB := fun v v2 w' h h' => Lib.hid (listBoth_calls x y v v2 w' h h' rX rY (by omega) (by omega))
      have MP := fun v w' h => Lib.hid (listMay_calls (putI x z) v w' h (by omega))
      have MD := fun v w' h => Lib.hid (listMay_calls ((putI x z).filter (neB z.id)) v w' h (by omega))
      have MB := fun v w' h => Lib.hid (listMay_calls (bothI behT x y) v w' h (by omega))
      have GP := fun v w' h => Lib.hid (listGet_calls (putI x z) z.id v w' h rP (by omega) HZ.out.1)
      have GD := fun v w' h => Lib.hid (listGet_calls ((putI x z).filter (neB z.id)) z.id v w' h rD (by omega) HZ.out.1)
      have GX := fun v w' h => Lib.hid (listGet_calls x id v w' h rX (by omega) HI.out)
      have GK := fun v w' h => Lib.hid (listGet_calls ((putI x z).filter (neB z.id)) id v w' h rD (by omega) HI.out)
      have GB := fun v w' h => Lib.hid (listGet_calls (bothI behT x y) id v w' h rB (by omega) HI.out)
      have GY := fun v w' h => Lib.hid (listGet_calls y id v w' h rY (by omega) HI.out)
      rw [jP] at MP
      rw [jD] at MD
      rw [jB] at MB
      rw [gP] at GP
      rw [gD] at GD
      simp only at GP GD
      generalize getI x id = g1 at *
      obtain ⟨had, was⟩ := g1
      generalize getI ((putI x z).filter (neB z.id)) id = g2 at *
      obtain ⟨kept, is⟩ := g2
      generalize getI (bothI behT x y) id = g3 at *
      obtain ⟨all, there⟩ := g3
      generalize getI y id = g4 at *
      obtain ⟨other, beside⟩ := g4
      simp only at W GX GK GB GY
      generalize ((putI x z).filter (neB z.id)) = D at *
      generalize (putI x z) = P at *
      generalize (bothI behT x y) = B at *
      have EZ := Lib.hid ez
      clear ez rX rY jP rP jD rD jB rB gP gD nP nD nB JX JY JZ kx6 ky6 HX HY
      go_upto_region 8 with (first | (go_at_call 16; with_reducible refine (KP _ _ LA.out).out.mono ?_; rintro e wg ⟨v1, rfl, hr, hb⟩; have LP := Lib.hid hr; replace LA := Lib.hid (LA.out.later hb); replace LB := Lib.hid (LB.out.later hb); replace OC := Lib.hid (OC.out.below hb OC.out.lt); replace BEL := Lib.hid (BEL.out.trans (hb.mono BEL.out.size)); clear hb; clear hr; replace lOC := OC.out.cell; replace zOC := OC.out.lt) | fail)
      clear KP
      go_upto_region 9 with (first | (go_at_call 18; with_reducible refine (KD _ _ LP.out).out.mono ?_; rintro e wh ⟨v2, rfl, hr, hb⟩; have LD := Lib.hid hr; replace LA := Lib.hid (LA.out.later hb); replace LB := Lib.hid (LB.out.later hb); replace LP := Lib.hid (LP.out.later hb); replace OC := Lib.hid (OC.out.below hb OC.out.lt); replace BEL := Lib.hid (BEL.out.trans (hb.mono BEL.out.size)); clear hb; clear hr; replace lOC := OC.out.cell; replace zOC := OC.out.lt) | fail)
      clear KD
      go_upto_region 10 with (first | (go_at_call 20; with_reducible refine (KB _ _ _ LA.out LB.out).out.mono ?_; rintro e wi ⟨v3, rfl, hr, hb⟩; have LE := Lib.hid hr; replace LA := Lib.hid (LA.out.later hb); replace LB := Lib.hid (LB.out.later hb); replace LP := Lib.hid (LP.out.later hb); replace LD := Lib.hid (LD.out.later hb); replace OC := Lib.hid (OC.out.below hb OC.out.lt); replace BEL := Lib.hid (BEL.out.trans (hb.mono BEL.out.size)); clear hb; clear hr; replace lOC := OC.out.cell; replace zOC := OC.out.lt) | fail)
      clear KB
      go_upto_region 12 with (first | (go_at_call_of 9 (v1); with_reducible refine (MP _ _ LP.out).out.mono ?_; rintro e wj ⟨rfl, hb⟩; replace LA := Lib.hid (LA.out.later hb); replace LB := Lib.hid (LB.out.later hb); replace LP := Lib.hid (LP.out.later hb); replace LD := Lib.hid (LD.out.later hb); replace LE := Lib.hid (LE.out.later hb); replace OC := Lib.hid (OC.out.below hb OC.out.lt); replace BEL := Lib.hid (BEL.out.trans (hb.mono BEL.out.size)); clear hb; replace lOC := OC.out.cell; replace zOC := OC.out.lt) | (go_at_call_of 9 (v2); with_reducible refine (MD _ _ LD.out).out.mono ?_; rintro e wk ⟨rfl, hb⟩; replace LA := Lib.hid (LA.out.later hb); replace LB := Lib.hid (LB.out.later hb); replace LP := Lib.hid (LP.out.later hb); replace LD := Lib.hid (LD.out.later hb); replace LE := Lib.hid (LE.out.later hb); replace OC := Lib.hid (OC.out.below hb OC.out.lt); replace BEL := Lib.hid (BEL.out.trans (hb.mono BEL.out.size)); clear hb; replace lOC := OC.out.cell; replace zOC := OC.out.lt) | (go_at_call_of 9 (v3); with_reducible refine (MB _ _ LE.out).out.mono ?_; rintro e wl ⟨rfl, hb⟩; replace LA := Lib.hid (LA.out.later hb); replace LB := Lib.hid (LB.out.later hb); replace LP := Lib.hid (LP.out.later hb); replace LD := Lib.hid (LD.out.later hb); replace LE := Lib.hid (LE.out.later hb); replace OC := Lib.hid (OC.out.below hb OC.out.lt); replace BEL := Lib.hid (BEL.out.trans (hb.mono BEL.out.size)); clear hb; replace lOC := OC.out.cell; replace zOC := OC.out.lt) | fail)
      clear MP MD MB
      go_upto_region 13 with (first | (go_at_call 12; with_reducible refine (GP _ _ LP.out).out.mono ?_; rintro e wm ⟨rfl, hb⟩; replace LA := Lib.hid (LA.out.later hb); replace LB := Lib.hid (LB.out.later hb); replace LP := Lib.hid (LP.out.later hb); replace LD := Lib.hid (LD.out.later hb); replace LE := Lib.hid (LE.out.later hb); replace OC := Lib.hid (OC.out.below hb OC.out.lt); replace BEL := Lib.hid (BEL.out.trans (hb.mono BEL.out.size)); clear hb; replace lOC := OC.out.cell; replace zOC := OC.out.lt) | fail)
      replace LA := Lib.hid (LA.out.alloc (.cells (iA z) 34))
      replace LB := Lib.hid (LB.out.alloc (.cells (iA z) 34))
      replace LP := Lib.hid (LP.out.alloc (.cells (iA z) 34))
      replace LD := Lib.hid (LD.out.alloc (.cells (iA z) 34))
      replace LE := Lib.hid (LE.out.alloc (.cells (iA z) 34))
      replace OC := Lib.hid (OC.out.alloc (.cells (iA z) 34))
      replace BEL := Lib.hid (BEL.out.alloc BEL.out.size (.cells (iA z) 34))
      have OG := Lib.hid (Has.new wm (iA z) 34)
      generalize wm.heap.size = bg at *
      generalize wm.alloc (Obj.cells (iA z) 34) = wm' at *
      clear GP LP
      replace lOC := OC.out.cell
      replace zOC := OC.out.lt
      go_upto_region 14 with (first | (go_at_call 12; with_reducible refine (GD _ _ LD.out).out.mono ?_; rintro e wn ⟨rfl, hb⟩; replace LA := Lib.hid (LA.out.later hb); replace LB := Lib.hid (LB.out.later hb); replace LD := Lib.hid (LD.out.later hb); replace LE := Lib.hid (LE.out.later hb); replace OC := Lib.hid (OC.out.below hb OC.out.lt); replace BEL := Lib.hid (BEL.out.trans (hb.mono BEL.out.size)); replace OG := Lib.hid (OG.out.below hb OG.out.lt); clear hb; replace lOC := OC.out.cell; replace zOC := OC.out.lt) | fail)
      replace LA := Lib.hid (LA.out.alloc (.cells (iA Itm.zero) 34))
      replace LB := Lib.hid (LB.out.alloc (.cells (iA Itm.zero) 34))
      replace LD := Lib.hid (LD.out.alloc (.cells (iA Itm.zero) 34))
      replace LE := Lib.hid (LE.out.alloc (.cells (iA Itm.zero) 34))
      replace OC := Lib.hid (OC.out.alloc (.cells (iA Itm.zero) 34))
      replace BEL := Lib.hid (BEL.out.alloc BEL.out.size (.cells (iA Itm.zero) 34))
      replace OG := Lib.hid (OG.out.alloc (.cells (iA Itm.zero) 34))
      have OH := Lib.hid (Has.new wn (iA Itm.zero) 34)
      generalize wn.heap.size = bh at *
      generalize wn.alloc (Obj.cells (iA Itm.zero) 34) = wn' at *
      clear GD
      replace lOC := OC.out.cell
      replace zOC := OC.out.lt
      have lOG := OG.out.cell
      have zOG := OG.out.lt
      have lOH := OH.out.cell
      have zOH := OH.out.lt
      have ez := EZ.out
      go_upto_region 16 with fail
      clear lOG zOG lOH zOH OG OH lOC zOC ez
      go_upto_region 17 with (first | (go_at_call 12; with_reducible refine (GX _ _ LA.out).out.mono ?_; rintro e wo ⟨rfl, hb⟩; replace LA := Lib.hid (LA.out.later hb); replace LB := Lib.hid (LB.out.later hb); replace LD := Lib.hid (LD.out.later hb); replace LE := Lib.hid (LE.out.later hb); replace OC := Lib.hid (OC.out.below hb OC.out.lt); replace BEL := Lib.hid (BEL.out.trans (hb.mono BEL.out.size)); clear hb) | fail)
      replace LA := Lib.hid (LA.out.alloc (.cells (iA had) 34))
      replace LB := Lib.hid (LB.out.alloc (.cells (iA had) 34))
      replace LD := Lib.hid (LD.out.alloc (.cells (iA had) 34))
      replace LE := Lib.hid (LE.out.alloc (.cells (iA had) 34))
      replace OC := Lib.hid (OC.out.alloc (.cells (iA had) 34))
      replace BEL := Lib.hid (BEL.out.alloc BEL.out.size (.cells (iA had) 34))
      have OI := Lib.hid (Has.new wo (iA had) 34)
      generalize wo.heap.size = bi at *
      generalize wo.alloc (Obj.cells (iA had) 34) = wo' at *
      clear GX LA
      go_upto_region 18 with (first | (go_at_call 12; with_reducible refine (GK _ _ LD.out).out.mono ?_; rintro e wp ⟨rfl, hb⟩; replace LB := Lib.hid (LB.out.later hb); replace LD := Lib.hid (LD.out.later hb); replace LE := Lib.hid (LE.out.later hb); replace OC := Lib.hid (OC.out.below hb OC.out.lt); replace BEL := Lib.hid (BEL.out.trans (hb.mono BEL.out.size)); replace OI := Lib.hid (OI.out.below hb OI.out.lt); clear hb) | fail)
      replace LB := Lib.hid (LB.out.alloc (.cells (iA kept) 34))
      replace LD := Lib.hid (LD.out.alloc (.cells (iA kept) 34))
      replace LE := Lib.hid (LE.out.alloc (.cells (iA kept) 34))
      replace OC := Lib.hid (OC.out.alloc (.cells (iA kept) 34))
      replace BEL := Lib.hid (BEL.out.alloc BEL.out.size (.cells (iA kept) 34))
      replace OI := Lib.hid (OI.out.alloc (.cells (iA kept) 34))
      have OJ := Lib.hid (Has.new wp (iA kept) 34)
      generalize wp.heap.size = bj at *
      generalize wp.alloc (Obj.cells (iA kept) 34) = wp' at *
      clear GK LD
      have hw := W.out.two
      clear W EZ
      generalize hs : (id.toList == z.id.toList) = same at *
      have lOC := OC.out.cell
      have zOC := OC.out.lt
      have lOI := OI.out.cell
      have zOI := OI.out.lt
      have lOJ := OJ.out.cell
      have zOJ := OJ.out.lt
      have BH := fun w' => Lib.hid (behT_calls had all w')
      have BO := fun w' => Lib.hid (behT_calls other all w')
      rcases hw with (⟨rfl, rfl, rfl, rfl⟩ | ⟨rfl, rfl, rfl, rfl, hb1, hb2⟩) | ⟨⟨rfl, rfl, rfl, hb1, hb2⟩ | ⟨rfl, rfl, rfl, hb1, hb2, hb3⟩, ⟨rfl, rfl⟩ | ⟨rfl, rfl, hb4⟩⟩
      · cases same
        all_goals
          go_upto_region 20 with fail
          clear lOC zOC lOI zOI lOJ zOJ
          go_upto_region 21 with (first | (go_at_call 12; with_reducible refine (GB _ _ LE.out).out.mono ?_; rintro e wq ⟨rfl, hb⟩; replace LB := Lib.hid (LB.out.later hb); replace LE := Lib.hid (LE.out.later hb); replace OI := Lib.hid (OI.out.below hb OI.out.lt); replace BEL := Lib.hid (BEL.out.trans (hb.mono BEL.out.size)); clear hb) | fail)
          replace LB := Lib.hid (LB.out.alloc (.cells (iA all) 34))
          replace LE := Lib.hid (LE.out.alloc (.cells (iA all) 34))
          replace OI := Lib.hid (OI.out.alloc (.cells (iA all) 34))
          replace BEL := Lib.hid (BEL.out.alloc BEL.out.size (.cells (iA all) 34))
          have OL := Lib.hid (Has.new wq (iA all) 34)
          generalize wq.heap.size = bl at *
          generalize wq.alloc (Obj.cells (iA all) 34) = wq' at *
          go_upto_region 22 with (first | (go_at_call 12; with_reducible refine (GY _ _ LB.out).out.mono ?_; rintro e wr ⟨rfl, hb⟩; replace LB := Lib.hid (LB.out.later hb); replace OI := Lib.hid (OI.out.below hb OI.out.lt); replace BEL := Lib.hid (BEL.out.trans (hb.mono BEL.out.size)); replace OL := Lib.hid (OL.out.below hb OL.out.lt); clear hb) | fail)
          replace LB := Lib.hid (LB.out.alloc (.cells (iA other) 34))
          replace OI := Lib.hid (OI.out.alloc (.cells (iA other) 34))
          replace BEL := Lib.hid (BEL.out.alloc BEL.out.size (.cells (iA other) 34))
          replace OL := Lib.hid (OL.out.alloc (.cells (iA other) 34))
          have OM := Lib.hid (Has.new wr (iA other) 34)
          generalize wr.heap.size = bm at *
          generalize wr.alloc (Obj.cells (iA other) 34) = wr' at *
          have lOI := OI.out.cell
          have zOI := OI.out.lt
          have lOL := OL.out.cell
          have zOL := OL.out.lt
          have lOM := OM.out.cell
          have zOM := OM.out.lt
          go_wp2_with (first | (go_at_call_of 23 (Itm.id had); with_reducible refine (BH _).out.mono ?_; rintro e wt ⟨rfl, hb⟩; replace OI := Lib.hid (OI.out.below hb OI.out.lt); replace OL := Lib.hid (OL.out.below hb OL.out.lt); replace OM := Lib.hid (OM.out.below hb OM.out.lt); replace BEL := Lib.hid (BEL.out.trans (hb.mono BEL.out.size)); clear hb; replace lOI := OI.out.cell; replace zOI := OI.out.lt; replace lOL := OL.out.cell; replace zOL := OL.out.lt; replace lOM := OM.out.cell; replace zOM := OM.out.lt) | (go_at_call_of 23 (Itm.id other); with_reducible refine (BO _).out.mono ?_; rintro e wu ⟨rfl, hb⟩; replace OI := Lib.hid (OI.out.below hb OI.out.lt); replace OL := Lib.hid (OL.out.below hb OL.out.lt); replace OM := Lib.hid (OM.out.below hb OM.out.lt); replace BEL := Lib.hid (BEL.out.trans (hb.mono BEL.out.size)); clear hb; replace lOI := OI.out.cell; replace zOI := OI.out.lt; replace lOL := OL.out.cell; replace zOL := OL.out.lt; replace lOM := OM.out.cell; replace zOM := OM.out.lt) | fail)
          go_ret
          exact ⟨by first | rfl | simp_all, BEL.out⟩
      · rw [hb1] at BO
        clear hb1
        cases same
        all_goals
          go_upto_region 20 with fail
          clear lOC zOC lOI zOI lOJ zOJ
          go_upto_region 21 with (first | (go_at_call 12; with_reducible refine (GB _ _ LE.out).out.mono ?_; rintro e wq ⟨rfl, hb⟩; replace LB := Lib.hid (LB.out.later hb); replace LE := Lib.hid (LE.out.later hb); replace OI := Lib.hid (OI.out.below hb OI.out.lt); replace BEL := Lib.hid (BEL.out.trans (hb.mono BEL.out.size)); clear hb) | fail)
          replace LB := Lib.hid (LB.out.alloc (.cells (iA all) 34))
          replace LE := Lib.hid (LE.out.alloc (.cells (iA all) 34))
          replace OI := Lib.hid (OI.out.alloc (.cells (iA all) 34))
          replace BEL := Lib.hid (BEL.out.alloc BEL.out.size (.cells (iA all) 34))
          have OL := Lib.hid (Has.new wq (iA all) 34)
          generalize wq.heap.size = bl at *
          generalize wq.alloc (Obj.cells (iA all) 34) = wq' at *
          go_upto_region 22 with (first | (go_at_call 12; with_reducible refine (GY _ _ LB.out).out.mono ?_; rintro e wr ⟨rfl, hb⟩; replace LB := Lib.hid (LB.out.later hb); replace OI := Lib.hid (OI.out.below hb OI.out.lt); replace BEL := Lib.hid (BEL.out.trans (hb.mono BEL.out.size)); replace OL := Lib.hid (OL.out.below hb OL.out.lt); clear hb) | fail)
          replace LB := Lib.hid (LB.out.alloc (.cells (iA other) 34))
          replace OI := Lib.hid (OI.out.alloc (.cells (iA other) 34))
          replace BEL := Lib.hid (BEL.out.alloc BEL.out.size (.cells (iA other) 34))
          replace OL := Lib.hid (OL.out.alloc (.cells (iA other) 34))
          have OM := Lib.hid (Has.new wr (iA other) 34)
          generalize wr.heap.size = bm at *
          generalize wr.alloc (Obj.cells (iA other) 34) = wr' at *
          have lOI := OI.out.cell
          have zOI := OI.out.lt
          have lOL := OL.out.cell
          have zOL := OL.out.lt
          have lOM := OM.out.cell
          have zOM := OM.out.lt
          go_wp2_with (first | (go_at_call_of 23 (Itm.id had); with_reducible refine (BH _).out.mono ?_; rintro e wt ⟨rfl, hb⟩; replace OI := Lib.hid (OI.out.below hb OI.out.lt); replace OL := Lib.hid (OL.out.below hb OL.out.lt); replace OM := Lib.hid (OM.out.below hb OM.out.lt); replace BEL := Lib.hid (BEL.out.trans (hb.mono BEL.out.size)); clear hb; replace lOI := OI.out.cell; replace zOI := OI.out.lt; replace lOL := OL.out.cell; replace zOL := OL.out.lt; replace lOM := OM.out.cell; replace zOM := OM.out.lt) | (go_at_call_of 23 (Itm.id other); with_reducible refine (BO _).out.mono ?_; rintro e wu ⟨rfl, hb⟩; replace OI := Lib.hid (OI.out.below hb OI.out.lt); replace OL := Lib.hid (OL.out.below hb OL.out.lt); replace OM := Lib.hid (OM.out.below hb OM.out.lt); replace BEL := Lib.hid (BEL.out.trans (hb.mono BEL.out.size)); clear hb; replace lOI := OI.out.cell; replace zOI := OI.out.lt; replace lOL := OL.out.cell; replace zOL := OL.out.lt; replace lOM := OM.out.cell; replace zOM := OM.out.lt) | fail)
          go_ret
          exact ⟨by first | rfl | simp_all, BEL.out⟩
      · rw [hb1] at BH
        clear hb1
        go_upto_region 20 with fail
        clear lOC zOC lOI zOI lOJ zOJ
        go_upto_region 21 with (first | (go_at_call 12; with_reducible refine (GB _ _ LE.out).out.mono ?_; rintro e wq ⟨rfl, hb⟩; replace LB := Lib.hid (LB.out.later hb); replace LE := Lib.hid (LE.out.later hb); replace OI := Lib.hid (OI.out.below hb OI.out.lt); replace BEL := Lib.hid (BEL.out.trans (hb.mono BEL.out.size)); clear hb) | fail)
        replace LB := Lib.hid (LB.out.alloc (.cells (iA all) 34))
        replace LE := Lib.hid (LE.out.alloc (.cells (iA all) 34))
        replace OI := Lib.hid (OI.out.alloc (.cells (iA all) 34))
        replace BEL := Lib.hid (BEL.out.alloc BEL.out.size (.cells (iA all) 34))
        have OL := Lib.hid (Has.new wq (iA all) 34)
        generalize wq.heap.size = bl at *
        generalize wq.alloc (Obj.cells (iA all) 34) = wq' at *
        go_upto_region 22 with (first | (go_at_call 12; with_reducible refine (GY _ _ LB.out).out.mono ?_; rintro e wr ⟨rfl, hb⟩; replace LB := Lib.hid (LB.out.later hb); replace OI := Lib.hid (OI.out.below hb OI.out.lt); replace BEL := Lib.hid (BEL.out.trans (hb.mono BEL.out.size)); replace OL := Lib.hid (OL.out.below hb OL.out.lt); clear hb) | fail)
        replace LB := Lib.hid (LB.out.alloc (.cells (iA other) 34))
        replace OI := Lib.hid (OI.out.alloc (.cells (iA other) 34))
        replace BEL := Lib.hid (BEL.out.alloc BEL.out.size (.cells (iA other) 34))
        replace OL := Lib.hid (OL.out.alloc (.cells (iA other) 34))
        have OM := Lib.hid (Has.new wr (iA other) 34)
        generalize wr.heap.size = bm at *
        generalize wr.alloc (Obj.cells (iA other) 34) = wr' at *
        have lOI := OI.out.cell
        have zOI := OI.out.lt
        have lOL := OL.out.cell
        have zOL := OL.out.lt
        have lOM := OM.out.cell
        have zOM := OM.out.lt
        go_wp2_with (first | (go_at_call_of 23 (Itm.id had); with_reducible refine (BH _).out.mono ?_; rintro e wt ⟨rfl, hb⟩; replace OI := Lib.hid (OI.out.below hb OI.out.lt); replace OL := Lib.hid (OL.out.below hb OL.out.lt); replace OM := Lib.hid (OM.out.below hb OM.out.lt); replace BEL := Lib.hid (BEL.out.trans (hb.mono BEL.out.size)); clear hb; replace lOI := OI.out.cell; replace zOI := OI.out.lt; replace lOL := OL.out.cell; replace zOL := OL.out.lt; replace lOM := OM.out.cell; replace zOM := OM.out.lt) | (go_at_call_of 23 (Itm.id other); with_reducible refine (BO _).out.mono ?_; rintro e wu ⟨rfl, hb⟩; replace OI := Lib.hid (OI.out.below hb OI.out.lt); replace OL := Lib.hid (OL.out.below hb OL.out.lt); replace OM := Lib.hid (OM.out.below hb OM.out.lt); replace BEL := Lib.hid (BEL.out.trans (hb.mono BEL.out.size)); clear hb; replace lOI := OI.out.cell; replace zOI := OI.out.lt; replace lOL := OL.out.cell; replace zOL := OL.out.lt; replace lOM := OM.out.cell; replace zOM := OM.out.lt) | fail)
        go_ret
        exact ⟨by first | rfl | simp_all, BEL.out⟩
      · rw [hb1] at BH
        clear hb1
        go_upto_region 20 with fail
        clear lOC zOC lOI zOI lOJ zOJ
        go_upto_region 21 with (first | (go_at_call 12; with_reducible refine (GB _ _ LE.out).out.mono ?_; rintro e wq ⟨rfl, hb⟩; replace LB := Lib.hid (LB.out.later hb); replace LE := Lib.hid (LE.out.later hb); replace OI := Lib.hid (OI.out.below hb OI.out.lt); replace BEL := Lib.hid (BEL.out.trans (hb.mono BEL.out.size)); clear hb) | fail)
        replace LB := Lib.hid (LB.out.alloc (.cells (iA all) 34))
        replace LE := Lib.hid (LE.out.alloc (.cells (iA all) 34))
        replace OI := Lib.hid (OI.out.alloc (.cells (iA all) 34))
        replace BEL := Lib.hid (BEL.out.alloc BEL.out.size (.cells (iA all) 34))
        have OL := Lib.hid (Has.new wq (iA all) 34)
        generalize wq.heap.size = bl at *
        generalize wq.alloc (Obj.cells (iA all) 34) = wq' at *
        go_upto_region 22 with (first | (go_at_call 12; with_reducible refine (GY _ _ LB.out).out.mono ?_; rintro e wr ⟨rfl, hb⟩; replace LB := Lib.hid (LB.out.later hb); replace OI := Lib.hid (OI.out.below hb OI.out.lt); replace BEL := Lib.hid (BEL.out.trans (hb.mono BEL.out.size)); replace OL := Lib.hid (OL.out.below hb OL.out.lt); clear hb) | fail)
        replace LB := Lib.hid (LB.out.alloc (.cells (iA other) 34))
        replace OI := Lib.hid (OI.out.alloc (.cells (iA other) 34))
        replace BEL := Lib.hid (BEL.out.alloc BEL.out.size (.cells (iA other) 34))
        replace OL := Lib.hid (OL.out.alloc (.cells (iA other) 34))
        have OM := Lib.hid (Has.new wr (iA other) 34)
        generalize wr.heap.size = bm at *
        generalize wr.alloc (Obj.cells (iA other) 34) = wr' at *
        have lOI := OI.out.cell
        have zOI := OI.out.lt
        have lOL := OL.out.cell
        have zOL := OL.out.lt
        have lOM := OM.out.cell
        have zOM := OM.out.lt
        go_wp2_with (first | (go_at_call_of 23 (Itm.id had); with_reducible refine (BH _).out.mono ?_; rintro e wt ⟨rfl, hb⟩; replace OI := Lib.hid (OI.out.below hb OI.out.lt); replace OL := Lib.hid (OL.out.below hb OL.out.lt); replace OM := Lib.hid (OM.out.below hb OM.out.lt); replace BEL := Lib.hid (BEL.out.trans (hb.mono BEL.out.size)); clear hb; replace lOI := OI.out.cell; replace zOI := OI.out.lt; replace lOL := OL.out.cell; replace zOL := OL.out.lt; replace lOM := OM.out.cell; replace zOM := OM.out.lt) | (go_at_call_of 23 (Itm.id other); with_reducible refine (BO _).out.mono ?_; rintro e wu ⟨rfl, hb⟩; replace OI := Lib.hid (OI.out.below hb OI.out.lt); replace OL := Lib.hid (OL.out.below hb OL.out.lt); replace OM := Lib.hid (OM.out.below hb OM.out.lt); replace BEL := Lib.hid (BEL.out.trans (hb.mono BEL.out.size)); clear hb; replace lOI := OI.out.cell; replace zOI := OI.out.lt; replace lOL := OL.out.cell; replace zOL := OL.out.lt; replace lOM := OM.out.cell; replace zOM := OM.out.lt) | fail)
        go_ret
        exact ⟨by first | rfl | simp_all, BEL.out⟩
      · rw [hb1] at BH
        rw [hb2] at BO
        clear hb1 hb2
        rcases hb3 with hb3 | ⟨hb3, hb5⟩
        all_goals
          go_upto_region 20 with fail
          clear lOC zOC lOI zOI lOJ zOJ
          go_upto_region 21 with (first | (go_at_call 12; with_reducible refine (GB _ _ LE.out).out.mono ?_; rintro e wq ⟨rfl, hb⟩; replace LB := Lib.hid (LB.out.later hb); replace LE := Lib.hid (LE.out.later hb); replace OI := Lib.hid (OI.out.below hb OI.out.lt); replace BEL := Lib.hid (BEL.out.trans (hb.mono BEL.out.size)); clear hb) | fail)
          replace LB := Lib.hid (LB.out.alloc (.cells (iA all) 34))
          replace LE := Lib.hid (LE.out.alloc (.cells (iA all) 34))
          replace OI := Lib.hid (OI.out.alloc (.cells (iA all) 34))
          replace BEL := Lib.hid (BEL.out.alloc BEL.out.size (.cells (iA all) 34))
          have OL := Lib.hid (Has.new wq (iA all) 34)
          generalize wq.heap.size = bl at *
          generalize wq.alloc (Obj.cells (iA all) 34) = wq' at *
          go_upto_region 22 with (first | (go_at_call 12; with_reducible refine (GY _ _ LB.out).out.mono ?_; rintro e wr ⟨rfl, hb⟩; replace LB := Lib.hid (LB.out.later hb); replace OI := Lib.hid (OI.out.below hb OI.out.lt); replace BEL := Lib.hid (BEL.out.trans (hb.mono BEL.out.size)); replace OL := Lib.hid (OL.out.below hb OL.out.lt); clear hb) | fail)
          replace LB := Lib.hid (LB.out.alloc (.cells (iA other) 34))
          replace OI := Lib.hid (OI.out.alloc (.cells (iA other) 34))
          replace BEL := Lib.hid (BEL.out.alloc BEL.out.size (.cells (iA other) 34))
          replace OL := Lib.hid (OL.out.alloc (.cells (iA other) 34))
          have OM := Lib.hid (Has.new wr (iA other) 34)
          generalize wr.heap.size = bm at *
          generalize wr.alloc (Obj.cells (iA other) 34) = wr' at *
          have lOI := OI.out.cell
          have zOI := OI.out.lt
          have lOL := OL.out.cell
          have zOL := OL.out.lt
          have lOM := OM.out.cell
          have zOM := OM.out.lt
          go_wp2_with (first | (go_at_call_of 23 (Itm.id had); with_reducible refine (BH _).out.mono ?_; rintro e wt ⟨rfl, hb⟩; replace OI := Lib.hid (OI.out.below hb OI.out.lt); replace OL := Lib.hid (OL.out.below hb OL.out.lt); replace OM := Lib.hid (OM.out.below hb OM.out.lt); replace BEL := Lib.hid (BEL.out.trans (hb.mono BEL.out.size)); clear hb; replace lOI := OI.out.cell; replace zOI := OI.out.lt; replace lOL := OL.out.cell; replace zOL := OL.out.lt; replace lOM := OM.out.cell; replace zOM := OM.out.lt) | (go_at_call_of 23 (Itm.id other); with_reducible refine (BO _).out.mono ?_; rintro e wu ⟨rfl, hb⟩; replace OI := Lib.hid (OI.out.below hb OI.out.lt); replace OL := Lib.hid (OL.out.below hb OL.out.lt); replace OM := Lib.hid (OM.out.below hb OM.out.lt); replace BEL := Lib.hid (BEL.out.trans (hb.mono BEL.out.size)); clear hb; replace lOI := OI.out.cell; replace zOI := OI.out.lt; replace lOL := OL.out.cell; replace zOL := OL.out.lt; replace lOM := OM.out.cell; replace zOM := OM.out.lt) | fail)
          go_ret
          exact ⟨by first | rfl | simp_all, BEL.out⟩
      · rw [hb1] at BH
        rw [hb2] at BO
        clear hb1 hb2
        rcases hb3 with hb3 | ⟨hb3, hb5⟩
        all_goals
          go_upto_region 20 with fail
          clear lOC zOC lOI zOI lOJ zOJ
          go_upto_region 21 with (first | (go_at_call 12; with_reducible refine (GB _ _ LE.out).out.mono ?_; rintro e wq ⟨rfl, hb⟩; replace LB := Lib.hid (LB.out.later hb); replace LE := Lib.hid (LE.out.later hb); replace OI := Lib.hid (OI.out.below hb OI.out.lt); replace BEL := Lib.hid (BEL.out.trans (hb.mono BEL.out.size)); clear hb) | fail)
          replace LB := Lib.hid (LB.out.alloc (.cells (iA all) 34))
          replace LE := Lib.hid (LE.out.alloc (.cells (iA all) 34))
          replace OI := Lib.hid (OI.out.alloc (.cells (iA all) 34))
          replace BEL := Lib.hid (BEL.out.alloc BEL.out.size (.cells (iA all) 34))
          have OL := Lib.hid (Has.new wq (iA all) 34)
          generalize wq.heap.size = bl at *
          generalize wq.alloc (Obj.cells (iA all) 34) = wq' at *
          go_upto_region 22 with (first | (go_at_call 12; with_reducible refine (GY _ _ LB.out).out.mono ?_; rintro e wr ⟨rfl, hb⟩; replace LB := Lib.hid (LB.out.later hb); replace OI := Lib.hid (OI.out.below hb OI.out.lt); replace BEL := Lib.hid (BEL.out.trans (hb.mono BEL.out.size)); replace OL := Lib.hid (OL.out.below hb OL.out.lt); clear hb) | fail)
          replace LB := Lib.hid (LB.out.alloc (.cells (iA other) 34))
          replace OI := Lib.hid (OI.out.alloc (.cells (iA other) 34))
          replace BEL := Lib.hid (BEL.out.alloc BEL.out.size (.cells (iA other) 34))
          replace OL := Lib.hid (OL.out.alloc (.cells (iA other) 34))
          have OM := Lib.hid (Has.new wr (iA other) 34)
          generalize wr.heap.size = bm at *
          generalize wr.alloc (Obj.cells (iA other) 34) = wr' at *
          have lOI := OI.out.cell
          have zOI := OI.out.lt
          have lOL := OL.out.cell
          have zOL := OL.out.lt
          have lOM := OM.out.cell
          have zOM := OM.out.lt
          go_wp2_with (first | (go_at_call_of 23 (Itm.id had); with_reducible refine (BH _).out.mono ?_; rintro e wt ⟨rfl, hb⟩; replace OI := Lib.hid (OI.out.below hb OI.out.lt); replace OL := Lib.hid (OL.out.below hb OL.out.lt); replace OM := Lib.hid (OM.out.below hb OM.out.lt); replace BEL := Lib.hid (BEL.out.trans (hb.mono BEL.out.size)); clear hb; replace lOI := OI.out.cell; replace zOI := OI.out.lt; replace lOL := OL.out.cell; replace zOL := OL.out.lt; replace lOM := OM.out.cell; replace zOM := OM.out.lt) | (go_at_call_of 23 (Itm.id other); with_reducible refine (BO _).out.mono ?_; rintro e wu ⟨rfl, hb⟩; replace OI := Lib.hid (OI.out.below hb OI.out.lt); replace OL := Lib.hid (OL.out.below hb OL.out.lt); replace OM := Lib.hid (OM.out.below hb OM.out.lt); replace BEL := Lib.hid (BEL.out.trans (hb.mono BEL.out.size)); clear hb; replace lOI := OI.out.cell; replace zOI := OI.out.lt; replace lOL := OL.out.cell; replace zOL := OL.out.lt; replace lOM := OM.out.cell; replace zOM := OM.out.lt) | fail)
          go_ret
          exact ⟨by first | rfl | simp_all, BEL.out⟩

end Go.Proofs.Ytbojpdlidgmckaa
