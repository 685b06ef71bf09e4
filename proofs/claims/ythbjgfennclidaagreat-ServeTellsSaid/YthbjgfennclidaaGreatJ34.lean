/- Joined: SrvV, FreK, SrvC, SrvB, SrvL. -/
import Derived.Test.YthbjgfennclidaaGreatJ33
import Derived.Test.YthbjgfennclidaaGreatJ22
import Derived.Test.YthbjgfennclidaaGreatJ30
/- What leaves, and what is lost. Walked. -/
namespace Go.Proofs.YthbjgfennclidaaGreat
set_option linter.unusedVariables false
set_option linter.unusedSimpArgs false
set_option maxRecDepth 100000
open Go Go.RowKit
set_option maxRecDepth 100000 in
set_option maxHeartbeats 8000000 in
theorem srvLost_calls (all : List Itm) (s : St) (m : Mg) (av fv kv hv lv gv sv ov qv : Value) (w : World) (hA : Row 8 ic w all av) (hK : FrW w s.k.l qv) (hH : Row 4 hc w m.has hv) (hrise : RiseI all) (hn : all.length ≤ 1000) (hh : m.has.length ≤ 1000) :
    Calls Tryz.prog 117 #[.agg (stA s gv sv ov qv), .agg (mgA m fv kv hv lv), av] w fun e w' => ∃ v', e = .returned v' ∧ OwnG 70 11 ec w' w.heap.size (lostE s all m.has) v' ∧ Below w.heap.size w w' := by
  obtain ⟨ok_, ck, rfl⟩ := hK.val
  obtain ⟨oh, ch, bh, oh9, rfl, hr⟩ := hH
  obtain ⟨oa, ca, rfl⟩ := hA.val
  have HR := Lib.hid hr
  have HOK := Lib.hid hr.ok
  have HAR := Lib.hid hA
  have HRISE := Lib.hid hrise
  have HAN := Lib.hid hn
  have HK := Lib.hid hK
  have hcap := hr.len
  have hmax := hr.max
  unfold maxLen at hmax
  clear hr hA hrise hn hK
  generalize hlen9 : m.has.length = hlen at *
  have HLEN := Lib.hid hlen9
  have HL0 := Lib.hid (fun k => Nat.le_trans (filter_len (m.has.take k) (lostB s all) (fun h => goneE h 0 0)) (by rw [List.length_take]; omega : _ ≤ hlen))
  clear hlen9
  have OB := Lib.hid ((Own.new w (stA s gv sv ov (.slice ok_ s.k.l.length ck)) 52).alloc (.cells (mgA m fv kv (.slice oh hlen ch) lv) 47))
  have OA := Lib.hid (Own.newAt (w.alloc (.cells (stA s gv sv ov (.slice ok_ s.k.l.length ck)) 52)) (mgA m fv kv (.slice oh hlen ch) lv) 47 (b := w.heap.size + 1) (by simp))
  have BEL := Lib.hid (((Below.refl w.heap.size w).alloc (Nat.le_refl _) (.cells (stA s gv sv ov (.slice ok_ s.k.l.length ck)) 52)).alloc (by simp) (.cells (mgA m fv kv (.slice oh hlen ch) lv) 47))
  go_enter Tryz.func117, Tryz.ntmps117
  go_upto_region 1 with fail
  revert OB OA BEL
  generalize World.alloc (World.alloc _ _) _ = W1
  intro OB OA BEL
  have AS : Hid (LkS w (fun w' => Own w' w.heap.size (stA s gv sv ov (.slice ok_ s.k.l.length ck)) 52 ∧ Own w' (w.heap.size + 1) (mgA m fv kv (.slice oh hlen ch) lv) 47) (w.heap.size + 2) [] nilV W1) := Lib.hid ⟨⟨OB.out, OA.out⟩, OwnG.nil, BEL.out⟩
  clear OB OA BEL
  have lA := AS.out.o.2.cell
  have zA := AS.out.o.2.lt
  go_wp2_with fail
  clear lA zA
  go_loopw [7, 15] (fun v i wr => LkRel w (fun w' => Own w' w.heap.size (stA s gv sv ov (.slice ok_ s.k.l.length ck)) 52 ∧ Own w' (w.heap.size + 1) (mgA m fv kv (.slice oh hlen ch) lv) 47) (w.heap.size + 2) (fun k => ((m.has.take k).filter (lostB s all)).map (fun h => goneE h 0 0)) hlen v i wr) (fun _ i _ => hlen - (intOf i).toNat)
  case atStart => exact ⟨0, Nat.zero_le _, rfl, AS⟩
  case round =>
    clear AS
    obtain ⟨k, hk, rfl, AS⟩ := hrel
    dsimp only at AS
    by_cases hlt : k < hlen
    · obtain ⟨ov9, cv9, rfl⟩ := AS.out.r.val
      obtain ⟨h, hx⟩ : ∃ x, m.has[k]? = some x := ⟨_, List.getElem?_eq_getElem (by rw [HLEN.out]; exact hlt)⟩
      obtain ⟨rfl, hS⟩ := HR.out.at0 (by rw [HLEN.out]; omega)
      have HX := Lib.hid hx
      have HID := Lib.hid (HOK.out h (List.mem_of_getElem? hx)).1
      have HC := fun j u hu => (AS.out.b.cell (p := ⟨bh, oh9 + k * 4 + j, none⟩) hS).trans (HR.out.cell k h hx j u hu)
      have c0 := HC 0 _ rfl
      have c1 := HC 1 _ rfl
      have c2 := HC 2 _ rfl
      have c3 := HC 3 _ rfl
      simp only [Nat.add_zero] at c0
      have zb : bh < wr.heap.size := Nat.lt_of_lt_of_le hS AS.out.b.size
      have OB := Lib.hid AS.out.o.1
      have OA := Lib.hid AS.out.o.2
      have RW := Lib.hid AS.out.r
      have BEL := Lib.hid AS.out.b
      have HL := Lib.hid (HL0.out k)
      have k0 : (0 : Int) ≤ (k : Int) := by omega
      have k1 : (k : Int) < (hlen : Int) := by omega
      clear AS hx HC
      have CG := fun w' h9 => Lib.hid (listGet_calls all h.id (.slice oa all.length ca) w' h9 HRISE.out HAN.out HID.out)
      obtain ⟨g, there, hg⟩ : ∃ g there, getI all h.id = (g, there) := ⟨_, _, rfl⟩
      have HG := Lib.hid hg
      have HGI := Lib.hid (show g.id.size ≤ maxLen by have := (getI_ok (id := h.id) HAR.out.oks).1; rw [hg] at this; exact this)
      rw [hg] at CG
      clear hg
      simp only at CG
      generalize hll : (((m.has.take k).filter (lostB s all)).map (fun h => goneE h 0 0)).length = nl at *
      go_upto_region 5 with fail
      clear c0 c1 c2 c3 zb
      have O7 := Lib.hid (Own.new wr (hc h).toArray 74)
      have hb9 : Below wr.heap.size wr (wr.alloc (.cells (hc h).toArray 74)) := (Below.refl _ _).alloc (Nat.le_refl _) _
      replace OB := Lib.hid (OB.out.later hb9)
      replace OA := Lib.hid (OA.out.later hb9)
      replace RW := Lib.hid (RW.out.later hb9)
      replace BEL := Lib.hid (BEL.out.trans (Below.mono hb9 BEL.out.size))
      clear hb9
      revert OB
      revert OA
      revert RW
      revert BEL
      revert O7
      generalize World.alloc _ _ = VO7
      intro O7 BEL RW OA OB
      try simp only [Act.put]
      have l7 := O7.out.cell
      have z7 := O7.out.lt
      go_upto_region 6 with (first
        | (go_at_call 114; refine (CG _ (HAR.out.later BEL.out)).out.mono ?_; rintro e wg ⟨rfl, hb⟩; replace OB := Lib.hid (OB.out.later hb); replace OA := Lib.hid (OA.out.later hb); replace O7 := Lib.hid (O7.out.later hb); replace RW := Lib.hid (RW.out.later hb); replace BEL := Lib.hid (BEL.out.trans (Below.mono hb BEL.out.size)); clear hb)
        | fail)
      clear l7 z7 CG
      have O8 := Lib.hid (Own.new wg (iA g) 68)
      have hb9 : Below wg.heap.size wg (wg.alloc (.cells (iA g) 68)) := (Below.refl _ _).alloc (Nat.le_refl _) _
      replace OB := Lib.hid (OB.out.later hb9)
      replace OA := Lib.hid (OA.out.later hb9)
      replace O7 := Lib.hid (O7.out.later hb9)
      replace RW := Lib.hid (RW.out.later hb9)
      replace BEL := Lib.hid (BEL.out.trans (Below.mono hb9 BEL.out.size))
      clear hb9
      revert OB
      revert OA
      revert O7
      revert RW
      revert BEL
      revert O8
      generalize World.alloc _ _ = VO8
      intro O8 BEL RW O7 OA OB
      try simp only [Act.put]
      have CK := fun w' h9 => Lib.hid (knowHas_calls s.k h.id h.r h.c (.slice ok_ s.k.l.length ck) w' h9 HID.out)
      have CGO := fun w' => Lib.hid (srvGoes_calls h 0 0 w')
      have HST := Lib.hid (show lostB s all h = (!there && hasK s.k h.id h.r h.c) by unfold lostB; rw [HG.out])
      have l7 := O7.out.cell
      have z7 := O7.out.lt
      have lB := OB.out.cell
      have zB := OB.out.lt
      cases there
      · cases hq : hasK s.k h.id h.r h.c
        · rw [hq] at CK HST
          clear hq
          go_wp2_with (first
                  | (go_at_call 113; refine (CK _ (HK.out.later BEL.out (Nat.le_refl _))).out.mono ?_; rintro e wy ⟨rfl, hb⟩; replace OB := Lib.hid (OB.out.later hb); replace OA := Lib.hid (OA.out.later hb); replace O7 := Lib.hid (O7.out.later hb); replace O8 := Lib.hid (O8.out.later hb); replace RW := Lib.hid (RW.out.later hb); replace BEL := Lib.hid (BEL.out.trans (Below.mono hb BEL.out.size)); clear hb; clear l7 z7 lB zB)
                  | fail)
          go_roundw
          case rel => exact ⟨k + 1, by omega, by go_num, Lib.hid (by dsimp only; rw [filter_no HX.out HST.out]; exact ⟨⟨OB.out, OA.out⟩, RW.out, BEL.out⟩)⟩
          case measure => simp [intOf]; omega
        · rw [hq] at CK HST
          clear hq
          go_upto_region 7 with (first
                  | (go_at_call 113; refine (CK _ (HK.out.later BEL.out (Nat.le_refl _))).out.mono ?_; rintro e wy ⟨rfl, hb⟩; replace OB := Lib.hid (OB.out.later hb); replace OA := Lib.hid (OA.out.later hb); replace O7 := Lib.hid (O7.out.later hb); replace O8 := Lib.hid (O8.out.later hb); replace RW := Lib.hid (RW.out.later hb); replace BEL := Lib.hid (BEL.out.trans (Below.mono hb BEL.out.size)); clear hb; clear l7 z7 lB zB)
                  | fail)
          have l7 := O7.out.cell
          have z7 := O7.out.lt
          go_wp2_with (first
                  | (go_at_call 115; refine (CGO _).out.mono ?_; rintro e w8 ⟨rfl, hb⟩; replace OB := Lib.hid (OB.out.later hb); replace OA := Lib.hid (OA.out.later hb); replace RW := Lib.hid (RW.out.later hb); replace BEL := Lib.hid (BEL.out.trans (Below.mono hb BEL.out.size)); clear hb; clear l7 z7; have HP := Lib.hid (fun ty => run_push_en ty (goneE h 0 0) RW.out (by have := HL.out; omega) OA.out.lt))
                  | (at_builtin; obtain ⟨v9, w9, hrun, hown, hgr⟩ := HP.out _; refine Lib.wpList_append_run _ rfl _ _ _ _ rfl _ _ rfl rfl _ _ hrun ?_; have AS9 := Lib.hid (lk_push2 OB.out OA.out RW.out BEL.out hown hgr); clear hown hgr hrun HP)
                  | fail)
          go_roundw
          case rel => exact ⟨k + 1, by omega, by go_num, Lib.hid (by dsimp only; rw [filter_yes HX.out HST.out]; exact AS9.out)⟩
          case measure => simp [intOf]; omega
      · go_wp2_with fail
        go_roundw
        case rel => exact ⟨k + 1, by omega, by go_num, Lib.hid (by dsimp only; rw [filter_no HX.out HST.out]; exact ⟨⟨OB.out, OA.out⟩, RW.out, BEL.out⟩)⟩
        case measure => simp [intOf]; omega
    · have e : k = hlen := by omega
      subst e
      have HE := Lib.hid (show ((m.has.take k).filter (lostB s all)).map (fun h => goneE h 0 0) = (lostE s all m.has) by unfold lostE; rw [List.take_of_length_le (by rw [HLEN.out]; exact Nat.le_refl _)])
      have hlr := AS.out.r
      rw [HE.out] at hlr
      go_wp2_with fail
      go_ret
      exact ⟨_, rfl, hlr.base (by first | exact Nat.le_succ _ | exact Nat.le_add_right _ _), AS.out.b⟩
set_option maxRecDepth 100000 in
set_option maxHeartbeats 8000000 in
theorem srvLeaves_calls (all : List Itm) (m : Mg) (av fv kv hv lv : Value) (w : World) (hA : Row 8 ic w all av) (hF : LP w m.f fv) (hH : Row 4 hc w m.has hv) (hrise : RiseI all) (hn : all.length ≤ 1000) (hh : m.has.length ≤ 1000) :
    Calls Tryz.prog 59 #[av, .agg (mgA m fv kv hv lv)] w fun e w' => ∃ v', e = .returned v' ∧ OwnG 70 11 ec w' w.heap.size (leavesE all m m.has) v' ∧ Below w.heap.size w w' := by
  obtain ⟨of_, cf, rfl⟩ := lies_val hF
  obtain ⟨oh, ch, bh, oh9, rfl, hr⟩ := hH
  obtain ⟨oa, ca, rfl⟩ := hA.val
  have HR := Lib.hid hr
  have HOK := Lib.hid hr.ok
  have HAR := Lib.hid hA
  have HRISE := Lib.hid hrise
  have HAN := Lib.hid hn
  have HF := Lib.hid hF
  have hcap := hr.len
  have hmax := hr.max
  unfold maxLen at hmax
  clear hr hA hrise hn hF
  generalize hlen9 : m.has.length = hlen at *
  have HLEN := Lib.hid hlen9
  have HL0 := Lib.hid (fun k => Nat.le_trans (filter_len (m.has.take k) (leftB all m) (leftE all)) (by rw [List.length_take]; omega : _ ≤ hlen))
  clear hlen9
  have OA := Lib.hid (Own.new w (mgA m (.slice of_ m.f.kids.length cf) kv (.slice oh hlen ch) lv) 47)
  have BEL := Lib.hid ((Below.refl w.heap.size w).alloc (Nat.le_refl _) (.cells (mgA m (.slice of_ m.f.kids.length cf) kv (.slice oh hlen ch) lv) 47))
  go_enter Tryz.func59, Tryz.ntmps59
  go_upto_region 1 with fail
  revert OA BEL
  generalize World.alloc _ _ = W1
  intro OA BEL
  have AS : Hid (LkS w (fun w' => Own w' w.heap.size (mgA m (.slice of_ m.f.kids.length cf) kv (.slice oh hlen ch) lv) 47) (w.heap.size + 1) [] nilV W1) := Lib.hid ⟨OA.out, OwnG.nil, BEL.out⟩
  clear OA BEL
  have lA := AS.out.o.cell
  have zA := AS.out.o.lt
  go_wp2_with fail
  clear lA zA
  go_loopw [5, 13] (fun v i wr => LkRel w (fun w' => Own w' w.heap.size (mgA m (.slice of_ m.f.kids.length cf) kv (.slice oh hlen ch) lv) 47) (w.heap.size + 1) (fun k => ((m.has.take k).filter (leftB all m)).map (leftE all)) hlen v i wr) (fun _ i _ => hlen - (intOf i).toNat)
  case atStart => exact ⟨0, Nat.zero_le _, rfl, AS⟩
  case round =>
    clear AS
    obtain ⟨k, hk, rfl, AS⟩ := hrel
    dsimp only at AS
    by_cases hlt : k < hlen
    · obtain ⟨ov9, cv9, rfl⟩ := AS.out.r.val
      obtain ⟨h, hx⟩ : ∃ x, m.has[k]? = some x := ⟨_, List.getElem?_eq_getElem (by rw [HLEN.out]; exact hlt)⟩
      obtain ⟨rfl, hS⟩ := HR.out.at0 (by rw [HLEN.out]; omega)
      have HX := Lib.hid hx
      have HID := Lib.hid (HOK.out h (List.mem_of_getElem? hx)).1
      have HC := fun j u hu => (AS.out.b.cell (p := ⟨bh, oh9 + k * 4 + j, none⟩) hS).trans (HR.out.cell k h hx j u hu)
      have c0 := HC 0 _ rfl
      have c1 := HC 1 _ rfl
      have c2 := HC 2 _ rfl
      have c3 := HC 3 _ rfl
      simp only [Nat.add_zero] at c0
      have zb : bh < wr.heap.size := Nat.lt_of_lt_of_le hS AS.out.b.size
      have OA := Lib.hid AS.out.o
      have RW := Lib.hid AS.out.r
      have BEL := Lib.hid AS.out.b
      have HL := Lib.hid (HL0.out k)
      have k0 : (0 : Int) ≤ (k : Int) := by omega
      have k1 : (k : Int) < (hlen : Int) := by omega
      clear AS hx HC
      have CG := fun w' h9 => Lib.hid (listGet_calls all h.id (.slice oa all.length ca) w' h9 HRISE.out HAN.out HID.out)
      obtain ⟨g, there, hg⟩ : ∃ g there, getI all h.id = (g, there) := ⟨_, _, rfl⟩
      have HG := Lib.hid hg
      have HGI := Lib.hid (show g.id.size ≤ maxLen by have := (getI_ok (id := h.id) HAR.out.oks).1; rw [hg] at this; exact this)
      rw [hg] at CG
      clear hg
      simp only at CG
      generalize hll : (((m.has.take k).filter (leftB all m)).map (leftE all)).length = nl at *
      go_upto_region 5 with fail
      clear c0 c1 c2 c3 zb
      have O7 := Lib.hid (Own.new wr (hc h).toArray 74)
      have hb9 : Below wr.heap.size wr (wr.alloc (.cells (hc h).toArray 74)) := (Below.refl _ _).alloc (Nat.le_refl _) _
      replace OA := Lib.hid (OA.out.later hb9)
      replace RW := Lib.hid (RW.out.later hb9)
      replace BEL := Lib.hid (BEL.out.trans (Below.mono hb9 BEL.out.size))
      clear hb9
      revert OA
      revert RW
      revert BEL
      revert O7
      generalize World.alloc _ _ = VO7
      intro O7 BEL RW OA
      try simp only [Act.put]
      have l7 := O7.out.cell
      have z7 := O7.out.lt
      go_upto_region 6 with (first
        | (go_at_call 114; refine (CG _ (HAR.out.later BEL.out)).out.mono ?_; rintro e wg ⟨rfl, hb⟩; replace OA := Lib.hid (OA.out.later hb); replace O7 := Lib.hid (O7.out.later hb); replace RW := Lib.hid (RW.out.later hb); replace BEL := Lib.hid (BEL.out.trans (Below.mono hb BEL.out.size)); clear hb)
        | fail)
      clear l7 z7 CG
      have O8 := Lib.hid (Own.new wg (iA g) 68)
      have hb9 : Below wg.heap.size wg (wg.alloc (.cells (iA g) 68)) := (Below.refl _ _).alloc (Nat.le_refl _) _
      replace OA := Lib.hid (OA.out.later hb9)
      replace O7 := Lib.hid (O7.out.later hb9)
      replace RW := Lib.hid (RW.out.later hb9)
      replace BEL := Lib.hid (BEL.out.trans (Below.mono hb9 BEL.out.size))
      clear hb9
      revert OA
      revert O7
      revert RW
      revert BEL
      revert O8
      generalize World.alloc _ _ = VO8
      intro O8 BEL RW O7 OA
      try simp only [Act.put]
      have CH := fun w' h9 => Lib.hid (hasX_calls g m.f (.slice of_ m.f.kids.length cf) w' h9 HGI.out)
      have CGO := fun w' => Lib.hid (srvGoes_calls h g.r g.c w')
      have COF := fun w' => Lib.hid (srvOf_calls h w')
      have CCM := fun w' => Lib.hid (compare_calls g.id g.r g.c g.st g.kd g.num g.x g.y g.d (ofI h).id (ofI h).r (ofI h).c (ofI h).st (ofI h).kd (ofI h).num (ofI h).x (ofI h).y (ofI h).d w')
      have HFN := Lib.hid (show leftE all h = goneE h g.r g.c by unfold leftE; rw [HG.out])
      have HST := Lib.hid (show leftB all m h = (there && (!hasT m.f g && behT g h)) by unfold leftB; rw [HG.out])
      have q := cmpV_val g.st g.r g.c (ofI h).st (ofI h).r (ofI h).c
      have HCQ := Lib.hid (show behT g h = decide (cmpV g.st g.r g.c (ofI h).st (ofI h).r (ofI h).c = 1) from rfl)
      generalize cmpV g.st g.r g.c (ofI h).st (ofI h).r (ofI h).c = cq at *
      have LOA := fun dd os o => OA.out.has.regrown dd os o
      have LO7 := fun dd os o => O7.out.has.regrown dd os o
      have LO8 := fun dd os o => O8.out.has.regrown dd os o
      have m1 := fun dd os => Lib.hid (Calls.regrown_of (CH (Sort.grow (redrawn VO8 dd) os) ((HF.out.later BEL.out (Nat.le_refl _)).later (below_regrown _ _ _) (Nat.le_refl _))).out)
      have m2 := fun dd os => Lib.hid (Calls.regrown_of (COF (Sort.grow (redrawn VO8 dd) os)).out)
      have m3 := fun dd os => Lib.hid (Calls.regrown_of (CCM (Sort.grow (redrawn VO8 dd) os)).out)
      clear CH COF CCM
      cases there
      · clear q
        go_upto_region 6 with fail
        refine wp_region_quiet_below (by kernel_rfl) (by kernel_rfl) ?_
        repeat (first | go_big_quiet_step ((fail)) | quiet_step (fail))
        refine wpQuiet_nil ?_
        intro w7 hw'
        have hb := regrown_below hw'
        clear hw' m1 m2 m3 LOA LO7 LO8
        replace OA := Lib.hid (OA.out.later hb)
        replace O7 := Lib.hid (O7.out.later hb)
        replace O8 := Lib.hid (O8.out.later hb)
        replace RW := Lib.hid (RW.out.later hb)
        replace BEL := Lib.hid (BEL.out.trans (Below.mono hb BEL.out.size))
        clear hb
        go_wp2_with fail
        go_roundw
        case rel => exact ⟨k + 1, by omega, by go_num, Lib.hid (by dsimp only; rw [filter_no HX.out HST.out]; exact ⟨OA.out, RW.out, BEL.out⟩)⟩
        case measure => simp [intOf]; omega
      · cases hh : hasT m.f g
        · rw [hh] at m1 HST
          clear hh
          by_cases h1 : cq = 1
          · subst h1
            clear q
            rw [HCQ.out] at HST
            go_upto_region 6 with fail
            refine wp_region_quiet_below (by kernel_rfl) (by kernel_rfl) ?_
            repeat (first | go_big_quiet_step ((first | (with_reducible exact (m1 _ _).out) | (with_reducible exact (m2 _ _).out) | (with_reducible exact (m3 _ _).out))) | quiet_step (first | (with_reducible exact (m1 _ _).out) | (with_reducible exact (m2 _ _).out) | (with_reducible exact (m3 _ _).out)))
            refine wpQuiet_nil ?_
            intro w7 hw'
            have hb := regrown_below hw'
            clear hw' m1 m2 m3 LOA LO7 LO8
            replace OA := Lib.hid (OA.out.later hb)
            replace O7 := Lib.hid (O7.out.later hb)
            replace O8 := Lib.hid (O8.out.later hb)
            replace RW := Lib.hid (RW.out.later hb)
            replace BEL := Lib.hid (BEL.out.trans (Below.mono hb BEL.out.size))
            clear hb
            go_upto_region 7 with fail
            have l7 := O7.out.cell
            have z7 := O7.out.lt
            have l8 := O8.out.cell
            have z8 := O8.out.lt
            go_wp2_with (first
                    | (go_at_call 115; refine (CGO _).out.mono ?_; rintro e w8 ⟨rfl, hb⟩; replace OA := Lib.hid (OA.out.later hb); replace RW := Lib.hid (RW.out.later hb); replace BEL := Lib.hid (BEL.out.trans (Below.mono hb BEL.out.size)); clear hb; clear l7 z7 l8 z8; have HP := Lib.hid (fun ty => run_push_en ty (goneE h g.r g.c) RW.out (by have := HL.out; omega) OA.out.lt))
                    | (at_builtin; obtain ⟨v9, w9, hrun, hown, hgr⟩ := HP.out _; refine Lib.wpList_append_run _ rfl _ _ _ _ rfl _ _ rfl rfl _ _ hrun ?_; have AS9 := Lib.hid (lk_push OA.out RW.out BEL.out hown hgr); clear hown hgr hrun HP)
                    | fail)
            go_roundw
            case rel => exact ⟨k + 1, by omega, by go_num, Lib.hid (by dsimp only; rw [filter_yes HX.out HST.out, HFN.out]; exact AS9.out)⟩
            case measure => simp [intOf]; omega
          · have hq : ¬ (0 : Int) < cq := by omega
            have HST2 := Lib.hid (show leftB all m h = false by rw [HST.out, HCQ.out, decide_eq_false h1]; rfl)
            clear HST q h1
            have HST := HST2
            clear HST2
            go_upto_region 6 with fail
            refine wp_region_quiet_below (by kernel_rfl) (by kernel_rfl) ?_
            repeat (first | go_big_quiet_step ((first | (with_reducible exact (m1 _ _).out) | (with_reducible exact (m2 _ _).out) | (with_reducible exact (m3 _ _).out))) | quiet_step (first | (with_reducible exact (m1 _ _).out) | (with_reducible exact (m2 _ _).out) | (with_reducible exact (m3 _ _).out)))
            refine wpQuiet_nil ?_
            intro w7 hw'
            have hb := regrown_below hw'
            clear hw' m1 m2 m3 LOA LO7 LO8
            replace OA := Lib.hid (OA.out.later hb)
            replace O7 := Lib.hid (O7.out.later hb)
            replace O8 := Lib.hid (O8.out.later hb)
            replace RW := Lib.hid (RW.out.later hb)
            replace BEL := Lib.hid (BEL.out.trans (Below.mono hb BEL.out.size))
            clear hb
            go_wp2_with fail
            go_roundw
            case rel => exact ⟨k + 1, by omega, by go_num, Lib.hid (by dsimp only; rw [filter_no HX.out HST.out]; exact ⟨OA.out, RW.out, BEL.out⟩)⟩
            case measure => simp [intOf]; omega
        · rw [hh] at m1 HST
          clear hh q
          go_upto_region 6 with fail
          refine wp_region_quiet_below (by kernel_rfl) (by kernel_rfl) ?_
          repeat (first | go_big_quiet_step ((first | (with_reducible exact (m1 _ _).out) | (with_reducible exact (m2 _ _).out) | (with_reducible exact (m3 _ _).out))) | quiet_step (first | (with_reducible exact (m1 _ _).out) | (with_reducible exact (m2 _ _).out) | (with_reducible exact (m3 _ _).out)))
          refine wpQuiet_nil ?_
          intro w7 hw'
          have hb := regrown_below hw'
          clear hw' m1 m2 m3 LOA LO7 LO8
          replace OA := Lib.hid (OA.out.later hb)
          replace O7 := Lib.hid (O7.out.later hb)
          replace O8 := Lib.hid (O8.out.later hb)
          replace RW := Lib.hid (RW.out.later hb)
          replace BEL := Lib.hid (BEL.out.trans (Below.mono hb BEL.out.size))
          clear hb
          go_wp2_with fail
          go_roundw
          case rel => exact ⟨k + 1, by omega, by go_num, Lib.hid (by dsimp only; rw [filter_no HX.out HST.out]; exact ⟨OA.out, RW.out, BEL.out⟩)⟩
          case measure => simp [intOf]; omega
    · have e : k = hlen := by omega
      subst e
      have HE := Lib.hid (show ((m.has.take k).filter (leftB all m)).map (leftE all) = (leavesE all m m.has) by unfold leavesE; rw [List.take_of_length_le (by rw [HLEN.out]; exact Nat.le_refl _)])
      have hlr := AS.out.r
      rw [HE.out] at hlr
      go_wp2_with fail
      go_ret
      exact ⟨_, rfl, hlr.base (by first | exact Nat.le_succ _ | exact Nat.le_add_right _ _), AS.out.b⟩
end Go.Proofs.YthbjgfennclidaaGreat
/- The code's fresh: what is known in new memory. Walked. -/
namespace Go.Proofs.YthbjgfennclidaaGreat
set_option linter.unusedVariables false
set_option linter.unusedSimpArgs false
set_option maxRecDepth 100000
open Go.RowKit
abbrev knZ : Array Value := #[.int .i64 0, .int .i64 0, .int .i64 0, .int .i64 0, .int .i64 0, .int .i64 0, .int .i64 0, .int .i64 0, .slice none 0 0]
structure KnX (w : World) (k : Kn) (kv : Value) (X : World) : Prop where
  a : Own X w.heap.size (knA k.star kv) 31
  t : Own X (w.heap.size + 1) knZ 31
  b : Below w.heap.size w X
theorem KnX.later {w X X' : World} {k : Kn} {kv : Value} (h : KnX w k kv X) (hb : Below X.heap.size X X') : KnX w k kv X' := ⟨h.a.later hb, h.t.later hb, h.b.trans (hb.mono h.b.size)⟩
theorem KnX.setK {w X : World} {k : Kn} {kv : Value} (h : KnX w k kv X) (kv' : Value) : KnX w k kv' (X.setCell ⟨w.heap.size, 8, none⟩ kv') :=
  ⟨by have := h.a.set 8 kv'; exact this, h.t.setFar _ _ (by show w.heap.size + 1 ≠ w.heap.size; omega), h.b.setCell (p := ⟨w.heap.size, 8, none⟩) (Nat.le_refl _) _⟩
theorem KnX.fin {w wr : World} {k : Kn} {kv : Value} (h : KnX w k kv wr) (hk : FrFresh wr (w.heap.size + 2) k.l kv) (vs : List Value) (hv : vs = (knA k.star kv).toList) :
    Own (wr.setCells (w.heap.size + 1) 0 vs) (w.heap.size + 1) vs.toArray 31 ∧ FrFresh (wr.setCells (w.heap.size + 1) 0 vs) w.heap.size k.l kv ∧ Below w.heap.size w (wr.setCells (w.heap.size + 1) 0 vs) := by
  have hb : w.heap.size + 1 < w.heap.size + 2 := by omega
  exact ⟨h.t.sets vs (by rw [hv]; rfl), (hk.sets hb vs 0).mono (by omega), below_sets (b := w.heap.size + 1) (by omega) vs 0 h.b⟩
set_option maxRecDepth 100000 in
set_option maxHeartbeats 8000000 in
theorem freKnow_calls (k : Kn) (kv : Value) (w : World) (hF : FrW w k.l kv) (hl : k.l.length ≤ 10000) (hi : (flatI k.l).length ≤ 10000) :
    Calls Tryz.prog 74 #[knV k.star kv] w fun e w' => ∃ kv', e = .returned (knV k.star kv') ∧ FrFresh w' w.heap.size k.l kv' ∧ Below w.heap.size w w' := by
  have HOK := Lib.hid hF.fr_ok
  obtain ⟨U, ok, ck, bk, okk, rfl, hF⟩ := hF
  have HF := Lib.hid hF
  have HFL := Lib.hid hi
  have HLL := Lib.hid hl
  have AX : Hid (KnX w k (.slice ok k.l.length ck) ((w.alloc (.cells (knA k.star (.slice ok k.l.length ck)) 31)).alloc (.cells knZ 31))) := Lib.hid ⟨(Own.new w (knA k.star (.slice ok k.l.length ck)) 31).alloc (.cells knZ 31), Own.newAt (w.alloc (.cells (knA k.star (.slice ok k.l.length ck)) 31)) knZ 31 (b := w.heap.size + 1) (by simp), ((Below.refl w.heap.size w).alloc (Nat.le_refl _) (.cells (knA k.star (.slice ok k.l.length ck)) 31)).alloc (by simp) (.cells knZ 31)⟩
  clear hF hi hl
  go_enter Tryz.func74, Tryz.ntmps74
  go_upto_region 1 with fail
  revert AX
  generalize World.alloc (World.alloc _ _) _ = X1
  intro AX
  have CF9 := Lib.hid (cloneF_calls k.l U ok ck bk okk X1 (HF.out.later AX.out.b (Nat.le_refl _)) (by have := HLL.out; omega))
  have l1 := AX.out.a.cell
  have f1 := AX.out.a.free
  have z1 := AX.out.a.lt
  go_upto_region 2 with (go_at_call 130; refine CF9.out.mono ?_; rintro e w9 ⟨v9, rfl, hr9, hb9⟩; have HR9 := Lib.hid hr9; obtain ⟨o9, c9, g, rfl, r1, r2, r3⟩ := row_slice hr9; clear l1 f1 z1 hr9; have A9 := Lib.hid (AX.out.a.later hb9); have HB9 := Lib.hid hb9; have HG := Lib.hid r3; have l1 := A9.out.cell; have f1 := A9.out.free; have z1 := A9.out.lt; clear hb9 r3)
  unfold maxLen at r2
  clear l1 f1 z1 CF9 A9
  have AY := Lib.hid (AX.out.setK (.slice o9 k.l.length c9))
  have AS : Hid (AgS (X1.setCell ⟨w.heap.size, 8, none⟩ (.slice o9 k.l.length c9)) X1.heap.size k.l U (.slice o9 k.l.length c9) g 0 U (w9.setCell ⟨w.heap.size, 8, none⟩ (.slice o9 k.l.length c9))) := Lib.hid ⟨by simp [World.setCell], below_both HB9.out (p := ⟨w.heap.size, 8, none⟩) AX.out.a.lt (Nat.le_refl _) _, ownsRow_setCell_below HR9.out AX.out.a.lt _, fun i f hi => absurd hi (by omega), fun _ _ => rfl⟩
  have zX := Lib.hid (show w.heap.size + 2 ≤ X1.heap.size from by have := AX.out.t.lt; omega)
  clear AX HB9 HR9
  revert AY AS
  generalize World.setCell w9 _ _ = W2
  generalize World.setCell X1 _ _ = X
  intro AY AS
  generalize X1.heap.size = B at *
  have aw := AY.out.a.below AS.out.b (by have := zX.out; omega)
  have l1 := aw.cell
  have z1 := aw.lt
  clear aw
  generalize hlen : k.l.length = len at *
  have HLEN := Lib.hid hlen
  clear hlen
  go_wp2_with fail
  go_loopw [12] (fun i wr => AgRel X B k.l len U (.slice o9 len c9) g i wr) (fun i _ => len - (intOf i).toNat)
  case atStart => exact ⟨0, U, Nat.zero_le _, rfl, AS⟩
  case round =>
    clear AS l1 z1
    obtain ⟨j, U', hk, rfl, AS⟩ := hrel
    have OX0 := Lib.hid (AY.out.a.below AS.out.b (by have := zX.out; omega))
    by_cases hlt : j < len
    · obtain ⟨f, hf⟩ : ∃ f, k.l[j]? = some f := ⟨_, List.getElem?_eq_getElem (by rw [HLEN.out]; exact hlt)⟩
      obtain ⟨rfl, _, _⟩ := HG.out (by omega)
      have hrow := AS.out.row
      rw [HLEN.out] at hrow
      have zg : B ≤ g ∧ g < wr.heap.size := hrow.lt g rfl
      have hT := (HF.out.ids j f hf).later (AY.out.b.trans (AS.out.b.mono (by have := zX.out; omega))) (Nat.le_refl _)
      obtain ⟨ou, cu, hU⟩ := hT.val
      have hUk : U' j = .slice ou f.ids.length cu := (AS.out.left j (Nat.le_refl _)).trans hU
      obtain ⟨c0, c1, c2, c3', c4', c5', c6, c7, c8⟩ := fc_cells (w := wr) (f := f) (u := U' j) (b := g) (o := j * 9) (fun i z hz => by
        have hj : i < 9 := (List.getElem?_eq_some_iff.1 hz).1
        rw [hrow.cellAt (j * 9 + i) (by omega), frCs_get _ _ _ _ _ hf _ hj, Nat.zero_add]
        exact hz)
      rw [hUk] at c0
      rw [hU] at hT
      have hlen9 := ids_le_flat (List.mem_of_getElem? hf)
      have hfl := HFL.out
      have CC := Lib.hid (cloneT_calls f.ids (.slice ou f.ids.length cu) (wr.alloc (.cells #[.slice ou f.ids.length cu, .int .i64 (f.v 0), .int .i64 (f.v 1), .int .i64 (f.v 2), .int .i64 (f.v 3), .int .i64 (f.v 4), .int .i64 (f.v 5), .int .i64 (f.v 6), .int .i64 (f.v 7)] 125)).drew (hT.later (((Below.refl wr.heap.size wr).alloc (Nat.le_refl _) _).drew) (Nat.le_refl _)) (by omega))
      have OX := Lib.hid (OX0.out.alloc (.cells #[.slice ou f.ids.length cu, .int .i64 (f.v 0), .int .i64 (f.v 1), .int .i64 (f.v 2), .int .i64 (f.v 3), .int .i64 (f.v 4), .int .i64 (f.v 5), .int .i64 (f.v 6), .int .i64 (f.v 7)] 125))
      have OQ := Lib.hid (Own.new wr #[.slice ou f.ids.length cu, .int .i64 (f.v 0), .int .i64 (f.v 1), .int .i64 (f.v 2), .int .i64 (f.v 3), .int .i64 (f.v 4), .int .i64 (f.v 5), .int .i64 (f.v 6), .int .i64 (f.v 7)] 125)
      have HROW := Lib.hid hrow
      have HF2 := Lib.hid hf
      have HUK := Lib.hid hUk
      have hg1 : w.heap.size ≠ g := by have := zX.out; omega
      have hg3 : wr.heap.size ≠ g := by omega
      have zg1 := zg.2
      clear hT hU hUk hlen9 hfl hrow
      go_upto_region 5 with fail
      clear c0 c1 c2 c3' c4' c5' c6 c7 c8
      go_region_held3 (fun w' => (∀ o, w'.cell? ⟨w.heap.size, o, none⟩ = (knA k.star (.slice (some ⟨g, 0, none⟩) len c9) : Array Value)[o]?) ∧ (∀ o, w'.cell? ⟨wr.heap.size, o, none⟩ = (#[.slice ou f.ids.length cu, .int .i64 (f.v 0), .int .i64 (f.v 1), .int .i64 (f.v 2), .int .i64 (f.v 3), .int .i64 (f.v 4), .int .i64 (f.v 5), .int .i64 (f.v 6), .int .i64 (f.v 7)] : Array Value)[o]?)) (first | with_reducible exact ⟨OX8.out.cell, OQ8.out.cell⟩ | with_reducible exact ⟨(OX8.out.setFar ⟨g, j * 9, none⟩ _ hg1).cell, (OQ8.out.setFar ⟨g, j * 9, none⟩ _ hg3).cell⟩ | with_reducible exact ⟨OX.out.cell, OQ.out.cell⟩ | with_reducible exact ⟨OX.out.drew.cell, OQ.out.drew.cell⟩) (first
        | (go_simp; go_at_call 131; (with_reducible refine CC.out.mono ?_); rintro e w8 ⟨v8, rfl, hL8, hb8⟩; obtain ⟨o8, c8, rfl⟩ := hL8.val; have OX8 := Lib.hid (OX.out.drew.later hb8); have OQ8 := Lib.hid (OQ.out.drew.later hb8); have hb9 : Below wr.heap.size wr w8 := (((Below.refl wr.heap.size wr).alloc (Nat.le_refl _) _).drew).trans (hb8.mono (by simp)); have hrow8 := ownsRow_below HROW.out hb9; have fg := row_free hrow8 (j * 9); have zg8 := (hrow8.lt g rfl).2; have e0 := fr_at hrow8 HLEN.out HF2.out; rw [HUK.out] at e0; clear hrow8; have HL8 := Lib.hid hL8; have HB8 := Lib.hid hb8; clear hL8 hb8 hb9)
        | fail)
      have KEY : Hid (AgS X B k.l U (.slice (some ⟨g, 0, none⟩) len c9) g (j + 1) (updU U' j (.slice o8 f.ids.length c8)) (w8.setCell ⟨g, j * 9, none⟩ (.slice o8 f.ids.length c8))) := Lib.hid (AgS.step AS.out HLEN.out HF2.out HL8.out HB8.out)
      clear e0 fg zg8 OX8 OQ8 HL8 HB8 CC OX OQ AS OX0
      revert KEY
      generalize World.setCell w8 _ _ = W5
      intro KEY
      go_wp2_with fail
      go_roundw
      case rel => exact ⟨j + 1, _, by omega, by go_num, KEY⟩
      case measure => simp [intOf]; omega
    · have e : j = len := by omega
      subst e
      have hrow := AS.out.row
      have FF := Lib.hid ((frFresh_of hrow (fun i f hf => AS.out.done i f (by have := posA hf; have := HLEN.out; omega) hf) (fun h0 => Nat.le_succ_of_le (HG.out (by have := HLEN.out; omega)).2.1) HOK.out).mono zX.out)
      have AW := AY.out.later (AS.out.e ▸ AS.out.b)
      have HK := Lib.hid (AW.fin FF.out (knA k.star (.slice o9 j c9)).toList rfl)
      have OAR := Lib.hid AW.a
      have OTR := Lib.hid AW.t
      clear AY AW FF AS OX0 hrow
      go_wp2_with (first | (refine wpList_load_mid (by rfl) 31 _ (by rfl) w.heap.size 0 (by rfl) (knA k.star (.slice o9 j c9)).toList _ OAR.out.range Tryz.underlying31 (by rfl) (by kernel_rfl) ?_) | (refine wpList_store_mid (by rfl) 31 _ _ (by rfl) (w.heap.size + 1) 0 (knA k.star (.slice o9 j c9)) (by rfl) (by rfl) (OTR.out.there (by rfl)) (by kernel_rfl) (by simp [Value.oneCell']) ?_) | fail)
      revert HK
      generalize World.setCells _ _ _ _ = WW
      intro HK
      exact ret_cell (by rfl) (by rfl) (l := (knA k.star (.slice o9 j c9)).toList) HK.out.1.range Tryz.underlying31 (by rfl) (by kernel_rfl) rfl ⟨_, rfl, HK.out.2⟩
end Go.Proofs.YthbjgfennclidaaGreat
/- The code's end of an answer. Walked. -/
namespace Go.Proofs.YthbjgfennclidaaGreat
set_option linter.unusedVariables false
set_option linter.unusedSimpArgs false
set_option maxRecDepth 100000
open Go Go.RowKit
def toM (m : Mg) (turn : Int) : Mg := ⟨0, m.dst, m.frm, m.sid, turn, noP, noK, [], 0, [], false⟩
def endM (m : Mg) (turn n : Int) (k : Kn) (l : List En) : Mg := ⟨3, m.dst, m.frm, m.sid, turn, noP, k, [], n, l, false⟩
theorem done_no {s : St} {m : Mg} {turn : Int} {all : List Itm} {n : Nat} (h : Pr.inB m.f s.f = false) : doneM s m turn all n = endM m turn n noK [] := by unfold doneM endM; rw [h]; rfl
theorem done_yes {s : St} {m : Mg} {turn : Int} {all : List Itm} {n : Nat} (h : Pr.inB m.f s.f = true) : doneM s m turn all n = endM m turn n s.k (lostE s all m.has) := by unfold doneM endM; rw [h]; rfl
theorem setEnd9 (m : Mg) (turn n : Int) (k0 k : Kn) (l : List En) (kv0 kv lv : Value) : setArrN (mgA (endM m turn n k0 l) nilV kv0 nilV lv) 10 (knA k.star kv).toList = mgA (endM m turn n k l) nilV kv nilV lv := by simp [setArrN, endM]
theorem noP_lies (w : World) : LP w noP nilV := lies_leaf 0 ⟨#[]⟩ 0 0 0 (by decide)
theorem has_nil (w : World) : Row 4 hc w [] nilV := ⟨none, 0, 0, 0, rfl, Nat.le_refl _, by decide, fun h => absurd h (by simp), fun k i hk => by simp at hk, fun i hi => by simp at hi⟩
set_option maxRecDepth 100000 in
set_option maxHeartbeats 8000000 in
theorem srvDone_calls (s : St) (m : Mg) (turn : Int) (all : List Itm) (n : Nat) (gv sv ov qv fv kv hv lv av : Value) (w : World) (hG : LP w s.f gv) (hQ : FrW w s.k.l qv) (hF : LP w m.f fv) (hH : Row 4 hc w m.has hv) (hA : Row 8 ic w all av) (hrise : RiseI all) (hn : all.length ≤ 1000) (hh : m.has.length ≤ 1000)
    (h1 : m.f.size ≤ 1000) (h2 : s.f.size ≤ 1000) (h3 : s.k.l.length ≤ 10000) (h4 : (flatI s.k.l).length ≤ 10000) :
    Calls Tryz.prog 60 #[.agg (mgA (toM m turn) nilV nilV nilV nilV), stV s gv sv ov qv, .agg (mgA m fv kv hv lv), av, .int .i64 n] w fun e w' => ∃ kv' lv', e = .returned (.agg (mgA (doneM s m turn all n) nilV kv' nilV lv')) ∧ Sure (fun b => b < w.heap.size) w' (fun w => MgW w (doneM s m turn all n) nilV kv' nilV lv') ∧ Below w.heap.size w w' := by
  have HX := Lib.hid (And.intro hG (And.intro hQ (And.intro hF (And.intro hH hA))))
  have CI := fun w' ha hb => Lib.hid (contIn_calls m.f s.f fv gv w' ha hb h1 h2)
  have CK := fun w' h => Lib.hid (freKnow_calls s.k qv w' h h3 h4)
  have CL := fun w' hK hH hA => Lib.hid (srvLost_calls all s m av fv kv hv lv gv sv ov qv w' hA hK hH hrise hn hh)
  clear hG hQ hF hH hA hrise hn hh h1 h2 h3 h4
  have O5 := Lib.hid ((((Own.new w (mgA (toM m turn) nilV nilV nilV nilV) 47).alloc (.cells (stA s gv sv ov qv) 52)).alloc (.cells (mgA m fv kv hv lv) 47)).alloc (.cells mgZ 47))
  have O6 := Lib.hid (((Own.newAt (w.alloc (.cells (mgA (toM m turn) nilV nilV nilV nilV) 47)) (stA s gv sv ov qv) 52 (b := w.heap.size + 1) (by simp)).alloc (.cells (mgA m fv kv hv lv) 47)).alloc (.cells mgZ 47))
  have O7 := Lib.hid ((Own.newAt ((w.alloc (.cells (mgA (toM m turn) nilV nilV nilV nilV) 47)).alloc (.cells (stA s gv sv ov qv) 52)) (mgA m fv kv hv lv) 47 (b := w.heap.size + 2) (by simp)).alloc (.cells mgZ 47))
  have O10 := Lib.hid (Own.newAt (((w.alloc (.cells (mgA (toM m turn) nilV nilV nilV nilV) 47)).alloc (.cells (stA s gv sv ov qv) 52)).alloc (.cells (mgA m fv kv hv lv) 47)) mgZ 47 (b := w.heap.size + 3) (by simp))
  have BEL := Lib.hid (((((Below.refl w.heap.size w).alloc (Nat.le_refl _) (.cells (mgA (toM m turn) nilV nilV nilV nilV) 47)).alloc (by simp) (.cells (stA s gv sv ov qv) 52)).alloc (by simp; omega) (.cells (mgA m fv kv hv lv) 47)).alloc (by simp; omega) (.cells mgZ 47))
  go_enter Tryz.func60, Tryz.ntmps60
  go_upto_region 1 with fail
  revert O5 O6 O7 O10 BEL
  generalize World.alloc (World.alloc (World.alloc (World.alloc _ _) _) _) _ = W1
  intro O5 O6 O7 O10 BEL
  have l5 := O5.out.cell
  have z5 := O5.out.lt
  have f5 := O5.out.free
  have E5 := Lib.hid (show Own ((W1.setCell ⟨w.heap.size, 0, none⟩ (.int .i64 3)).setCell ⟨w.heap.size, 20, none⟩ (.int .i64 n)) w.heap.size (mgA (endM m turn n noK []) nilV nilV nilV nilV) 47 from (O5.out.set 0 (.int .i64 3)).set 20 (.int .i64 n))
  have E6 := Lib.hid ((O6.out.setFar ⟨w.heap.size, 0, none⟩ (.int .i64 3) (by simp)).setFar ⟨w.heap.size, 20, none⟩ (.int .i64 n) (by simp))
  have E7 := Lib.hid ((O7.out.setFar ⟨w.heap.size, 0, none⟩ (.int .i64 3) (by simp)).setFar ⟨w.heap.size, 20, none⟩ (.int .i64 n) (by simp))
  have E10 := Lib.hid ((O10.out.setFar ⟨w.heap.size, 0, none⟩ (.int .i64 3) (by simp)).setFar ⟨w.heap.size, 20, none⟩ (.int .i64 n) (by simp))
  have EB := Lib.hid ((BEL.out.setCell (p := ⟨w.heap.size, 0, none⟩) (Nat.le_refl _) (.int .i64 3)).setCell (p := ⟨w.heap.size, 20, none⟩) (Nat.le_refl _) (.int .i64 n))
  go_upto_region 2 with fail
  clear l5 z5 f5 O5 O6 O7 O10 BEL
  revert E5 E6 E7 E10 EB
  generalize World.setCell (World.setCell _ _ _) _ _ = W2
  intro O5 O6 O7 O10 BEL
  try simp only [Act.put]
  go_wp2_with (first
    | (refine wpList_load_mid (by rfl) 44 _ (by rfl) (w.heap.size + 2) 5 (by rfl) [.int .i64 m.f.op, .string m.f.text, .int .i64 m.f.n, .complex .f64 m.f.x m.f.y, fv] _ (by exact O7.out.part 5 _ (by rfl)) Tryz.underlying44 (by rfl) (by kernel_rfl) ?_)
    | (refine wpList_load_mid (by rfl) 44 _ (by rfl) (w.heap.size + 1) 1 (by rfl) [.int .i64 s.f.op, .string s.f.text, .int .i64 s.f.n, .complex .f64 s.f.x s.f.y, gv] _ (by exact O6.out.part 1 _ (by rfl)) Tryz.underlying44 (by rfl) (by kernel_rfl) ?_)
    | fail)
  refine (CI _ (HX.out.2.2.1.later BEL.out (Nat.le_refl _)) (HX.out.1.later BEL.out (Nat.le_refl _))).out.mono ?_
  rintro e w3 ⟨rfl, hb⟩
  replace O5 := Lib.hid (O5.out.later hb)
  replace O6 := Lib.hid (O6.out.later hb)
  replace O7 := Lib.hid (O7.out.later hb)
  replace O10 := Lib.hid (O10.out.later hb)
  replace BEL := Lib.hid (BEL.out.trans (Below.mono hb BEL.out.size))
  clear hb CI
  cases hin : Pr.inB m.f s.f
  · have HD := Lib.hid (done_no (turn := turn) (all := all) (n := n) hin)
    clear hin
    go_wp2_with (first
      | (refine wpList_load_mid (by rfl) 47 _ (by rfl) w.heap.size 0 (by rfl) (mgA (endM m turn n noK []) nilV nilV nilV nilV).toList _ (by exact O5.out.part 0 _ (by rfl)) Tryz.underlying47 (by rfl) (by kernel_rfl) ?_)
      | (refine wpList_store_mid (by rfl) 47 _ _ (by rfl) (w.heap.size + 3) 0 (mgA (endM m turn n noK []) nilV nilV nilV nilV) (by rfl) (by rfl) (O10.out.there (by rfl)) (by kernel_rfl) (by simp [Value.oneCell']) ?_)
      | fail)
    have HR := Lib.hid (And.intro (O10.out.sets (mgA (endM m turn n noK []) nilV nilV nilV nilV).toList (by rfl)) (below_sets (B := w.heap.size) (b := w.heap.size + 3) (Nat.le_add_right _ _) (mgA (endM m turn n noK []) nilV nilV nilV nilV).toList 0 BEL.out))
    exact ret_cell (by rfl) (by rfl) (l := (mgA (endM m turn n noK []) nilV nilV nilV nilV).toList) HR.out.1.range Tryz.underlying47 (by rfl) (by kernel_rfl) rfl ⟨nilV, nilV, by rw [HD.out], by rw [HD.out]; exact fun w2 _ => ⟨noP_lies w2, frW_nil' w2, has_nil w2, GRow.nil⟩, HR.out.2⟩
  · have HD := Lib.hid (done_yes (turn := turn) (all := all) (n := n) hin)
    clear hin
    go_upto_region 3 with fail
    have z5 := O5.out.lt
    have z6 := O6.out.lt
    have z7 := O7.out.lt
    have z10 := O10.out.lt
    go_cut [18] (fun s18 wx => s18 = Value.bool true ∧ Hid (∃ ok ck ol cl, Own wx w.heap.size (mgA (endM m turn n s.k (lostE s all m.has)) nilV (.slice ok s.k.l.length ck) nilV (.slice ol (lostE s all m.has).length cl)) 47 ∧ Own wx (w.heap.size + 3) mgZ 47 ∧ Sure (fun b => b < w.heap.size + 4) wx (fun w => MgW w (endM m turn n s.k (lostE s all m.has)) nilV (.slice ok s.k.l.length ck) nilV (.slice ol (lostE s all m.has).length cl)) ∧ Below w.heap.size w wx))
    case first =>
      refine monoN_start (T := fun k => k = w.heap.size) (D := fun k => k == 8 || k == 10) (by kernel_rfl) (fun wd hbd => ?_)
      replace O5 := Lib.hid (O5.out.later hbd)
      replace O6 := Lib.hid (O6.out.later hbd)
      replace O7 := Lib.hid (O7.out.later hbd)
      replace O10 := Lib.hid (O10.out.later hbd)
      replace BEL := Lib.hid (BEL.out.trans (Below.mono hbd BEL.out.size))
      clear hbd
      refine monoN_stay (i := 0) (v := ?_) rfl (by kernel_rfl) (by kernel_rfl) (by kernel_rfl) (fun _ _ _ h => h) (Or.inl ⟨by rfl, ?_⟩) ?_
      rotate_left 1
      · (intro wL hL; go_simp; try with_reducible rfl)
      try simp only [Act.put, List.getElem_toArray, List.getElem_cons_zero, List.getElem_cons_succ, List.setIfInBounds_toArray, List.set_cons_zero, List.set_cons_succ]
      refine monoN_stay (i := 1) (v := .agg (knA s.k.star qv)) rfl (by kernel_rfl) (by kernel_rfl) (by kernel_rfl) (fun _ _ _ h => h) (Or.inl ⟨by rfl, fun wL hL => exec_load_mid 31 _ rfl (w.heap.size + 1) 8 (by rfl) ((knA s.k.star qv) : Array Value).toList _ ((O6.out.but hL (by show ¬ _ = _; omega)).part 8 _ (by rfl)) Tryz.underlying31 (by rfl) (by kernel_rfl)⟩) ?_
      try simp only [Act.put, List.getElem_toArray, List.getElem_cons_zero, List.getElem_cons_succ, List.setIfInBounds_toArray, List.set_cons_zero, List.set_cons_succ]
      refine monoN_stay (i := 3) (v := .agg (stA s gv sv ov qv)) rfl (by kernel_rfl) (by kernel_rfl) (by kernel_rfl) (fun _ _ _ h => h) (Or.inl ⟨by rfl, fun wL hL => exec_load_mid 52 _ rfl (w.heap.size + 1) 0 (by rfl) ((stA s gv sv ov qv) : Array Value).toList _ ((O6.out.but hL (by show ¬ _ = _; omega)).part 0 _ (by rfl)) Tryz.underlying52 (by rfl) (by kernel_rfl)⟩) ?_
      try simp only [Act.put, List.getElem_toArray, List.getElem_cons_zero, List.getElem_cons_succ, List.setIfInBounds_toArray, List.set_cons_zero, List.set_cons_succ]
      refine monoN_stay (i := 4) (v := .agg (mgA m fv kv hv lv)) rfl (by kernel_rfl) (by kernel_rfl) (by kernel_rfl) (fun _ _ _ h => h) (Or.inl ⟨by rfl, fun wL hL => exec_load_mid 47 _ rfl (w.heap.size + 2) 0 (by rfl) ((mgA m fv kv hv lv) : Array Value).toList _ ((O7.out.but hL (by show ¬ _ = _; omega)).part 0 _ (by rfl)) Tryz.underlying47 (by rfl) (by kernel_rfl)⟩) ?_
      try simp only [Act.put, List.getElem_toArray, List.getElem_cons_zero, List.getElem_cons_succ, List.setIfInBounds_toArray, List.set_cons_zero, List.set_cons_succ]
      refine monoN_stay (i := 5) (v := ?_) rfl (by kernel_rfl) (by kernel_rfl) (by kernel_rfl) (fun _ _ _ h => h) (Or.inl ⟨by rfl, ?_⟩) ?_
      rotate_left 1
      · (intro wL hL; go_simp; try with_reducible rfl)
      try simp only [Act.put, List.getElem_toArray, List.getElem_cons_zero, List.getElem_cons_succ, List.setIfInBounds_toArray, List.set_cons_zero, List.set_cons_succ]
      refine monoN_r1 (i := 2) (by kernel_rfl) ?_
      have z2O5 := O5.out.lt
      have z2O6 := O6.out.lt
      have z2O7 := O7.out.lt
      have z2O10 := O10.out.lt
      refine stepN_call (by rfl) (by rfl) (fun K hK => ?_)
      try simp only [List.getElem_toArray, List.getElem_cons_zero, List.getElem_cons_succ]
      (go_simp; go_at_call 74; refine (CK _ (HX.out.2.1.later BEL.out (Nat.le_refl _))).out.mono ?_; rintro e wc ⟨kv9, rfl, hk9, hb⟩; obtain ⟨o9, c9, rfl⟩ := hk9.fr.val; have SK := Lib.hid (hk9.sure.mono (T' := fun b => b < w.heap.size + 4) (fun b hq => by have hq' : b < w.heap.size + 4 := hq; show b < _; omega)); clear hk9)
      try go_wp2_with fail
      refine hK.out _ _ (fun _ => hb) (But.of hb) ?_
      clear hK K
      replace O5 := Lib.hid (O5.out.later hb)
      replace O6 := Lib.hid (O6.out.later hb)
      replace O7 := Lib.hid (O7.out.later hb)
      replace O10 := Lib.hid (O10.out.later hb)
      replace BEL := Lib.hid (BEL.out.trans (Below.mono hb BEL.out.size))
      clear hb
      try simp only [Act.put, List.getElem_toArray, List.getElem_cons_zero, List.getElem_cons_succ, List.setIfInBounds_toArray, List.set_cons_zero, List.set_cons_succ]
      refine monoN_stay (i := 7) (v := ?_) rfl (by kernel_rfl) (by kernel_rfl) (by kernel_rfl) (fun _ _ _ h => h) (Or.inl ⟨by rfl, ?_⟩) ?_
      rotate_left 1
      · (intro wL hL; go_simp; try with_reducible rfl)
      try simp only [Act.put, List.getElem_toArray, List.getElem_cons_zero, List.getElem_cons_succ, List.setIfInBounds_toArray, List.set_cons_zero, List.set_cons_succ]
      refine monoN_r1 (i := 6) (by kernel_rfl) ?_
      have z6O5 := O5.out.lt
      have z6O6 := O6.out.lt
      have z6O7 := O7.out.lt
      have z6O10 := O10.out.lt
      refine stepN_call (by rfl) (by rfl) (fun K hK => ?_)
      try simp only [List.getElem_toArray, List.getElem_cons_zero, List.getElem_cons_succ]
      (go_simp; go_at_call 117; refine (CL _ (HX.out.2.1.later BEL.out (Nat.le_refl _)) (HX.out.2.2.2.1.later BEL.out) (HX.out.2.2.2.2.later BEL.out)).out.mono ?_; rintro e wc ⟨lv9, rfl, hl9, hb⟩; obtain ⟨o8, c8, rfl⟩ := hl9.val; have SL := Lib.hid ((hl9.row (fun _ => rfl)).mono (T' := fun b => b < w.heap.size + 4) (fun b hq => by have hq' : b < w.heap.size + 4 := hq; show b < _; omega)); clear hl9)
      try go_wp2_with fail
      refine hK.out _ _ (fun _ => hb) (But.of hb) ?_
      clear hK K
      replace O5 := Lib.hid (O5.out.later hb)
      replace O6 := Lib.hid (O6.out.later hb)
      replace O7 := Lib.hid (O7.out.later hb)
      replace O10 := Lib.hid (O10.out.later hb)
      replace BEL := Lib.hid (BEL.out.trans (Below.mono hb BEL.out.size))
      replace SK := Lib.hid (SK.out.later hb)
      clear hb
      try simp only [Act.put, List.getElem_toArray, List.getElem_cons_zero, List.getElem_cons_succ, List.setIfInBounds_toArray, List.set_cons_zero, List.set_cons_succ]
      refine monoN_r1 (i := 8) (by kernel_rfl) ?_
      refine stepN_store (by rfl) (by rfl) 31 _ _ (by rfl) (w.heap.size) (10) (knA s.k.star (.slice o9 s.k.l.length c9)) (by rfl) (by rfl) O5.out (by simp) (by kernel_rfl) (by simp [Value.oneCell']) (by rfl) (rfl) (fun ws hs ho => ?_)
      replace O6 := Lib.hid (O6.out.stored hs (by omega))
      replace O7 := Lib.hid (O7.out.stored hs (by omega))
      replace O10 := Lib.hid (O10.out.stored hs (by omega))
      replace BEL := Lib.hid (hs.bel (by omega) BEL.out)
      replace SK := Lib.hid (SK.out.stored hs (by show w.heap.size < _; omega))
      replace SL := Lib.hid (SL.out.stored hs (by show w.heap.size < _; omega))
      replace O5 := Lib.hid ho
      clear hs ho
      replace O5 := Lib.hid (setEnd9 m turn n noK s.k [] nilV (.slice o9 s.k.l.length c9) nilV ▸ O5.out)
      try simp only [Act.put, List.getElem_toArray, List.getElem_cons_zero, List.getElem_cons_succ, List.setIfInBounds_toArray, List.set_cons_zero, List.set_cons_succ]
      refine monoN_stay (i := 9) (v := ?_) rfl (by kernel_rfl) (by kernel_rfl) (by kernel_rfl) (fun _ _ _ h => h) (Or.inl ⟨by rfl, ?_⟩) ?_
      rotate_left 1
      · (intro wL hL; go_simp; try with_reducible rfl)
      try simp only [Act.put, List.getElem_toArray, List.getElem_cons_zero, List.getElem_cons_succ, List.setIfInBounds_toArray, List.set_cons_zero, List.set_cons_succ]
      refine monoN_r1 (i := 10) (by kernel_rfl) ?_
      refine stepN_store1 (by rfl) (by rfl) (w.heap.size) (21) ((.slice o8 (lostE s all m.has).length c8)) O5.out (by have lL := O5.out.cell; have fL := O5.out.free; have zL := O5.out.lt; go_simp; try rfl) (by rfl) (rfl) (fun ws hs ho => ?_)
      replace O6 := Lib.hid (O6.out.stored hs (by omega))
      replace O7 := Lib.hid (O7.out.stored hs (by omega))
      replace O10 := Lib.hid (O10.out.stored hs (by omega))
      replace BEL := Lib.hid (hs.bel (by omega) BEL.out)
      replace SK := Lib.hid (SK.out.stored hs (by show w.heap.size < _; omega))
      replace SL := Lib.hid (SL.out.stored hs (by show w.heap.size < _; omega))
      replace O5 := Lib.hid ho
      clear hs ho
      replace O5 := Lib.hid (show Own _ w.heap.size (mgA (endM m turn n s.k (lostE s all m.has)) nilV (.slice o9 s.k.l.length c9) nilV (.slice o8 (lostE s all m.has).length c8)) 47 from O5.out)
      try simp only [Act.put, List.getElem_toArray, List.getElem_cons_zero, List.getElem_cons_succ, List.setIfInBounds_toArray, List.set_cons_zero, List.set_cons_succ]
      refine monoN_done (by kernel_rfl) ?_ _
      go_wp2_with fail
      go_meet
      exact ⟨rfl, Lib.hid ⟨o9, c9, o8, c8, O5.out, O10.out, fun w2 h2 => ⟨noP_lies w2, SK.out w2 h2, has_nil w2, SL.out w2 h2⟩, BEL.out⟩⟩
    case rest =>
      obtain ⟨rfl, HC⟩ := hcut
      obtain ⟨ok, ck, ol, cl, h5, h10, hs, hb⟩ := HC.out
      have O5 := Lib.hid h5
      have O10 := Lib.hid h10
      clear h5 h10 HC
      go_wp2_with (first
        | (refine wpList_load_mid (by rfl) 47 _ (by rfl) w.heap.size 0 (by rfl) (mgA (endM m turn n s.k (lostE s all m.has)) nilV (.slice ok s.k.l.length ck) nilV (.slice ol (lostE s all m.has).length cl)).toList _ (by exact O5.out.part 0 _ (by rfl)) Tryz.underlying47 (by rfl) (by kernel_rfl) ?_)
        | (refine wpList_store_mid (by rfl) 47 _ _ (by rfl) (w.heap.size + 3) 0 (mgA (endM m turn n s.k (lostE s all m.has)) nilV (.slice ok s.k.l.length ck) nilV (.slice ol (lostE s all m.has).length cl)) (by rfl) (by rfl) (O10.out.there (by rfl)) (by kernel_rfl) (by simp [Value.oneCell']) ?_)
        | fail)
      have HR := Lib.hid (And.intro (O10.out.sets (mgA (endM m turn n s.k (lostE s all m.has)) nilV (.slice ok s.k.l.length ck) nilV (.slice ol (lostE s all m.has).length cl)).toList (by rfl)) (And.intro (below_sets (B := w.heap.size) (b := w.heap.size + 3) (Nat.le_add_right _ _) (mgA (endM m turn n s.k (lostE s all m.has)) nilV (.slice ok s.k.l.length ck) nilV (.slice ol (lostE s all m.has).length cl)).toList 0 hb) (StoreR.sets (w.heap.size + 3) (mgA (endM m turn n s.k (lostE s all m.has)) nilV (.slice ok s.k.l.length ck) nilV (.slice ol (lostE s all m.has).length cl)).toList wc 0)))
      exact ret_cell (by rfl) (by rfl) (l := (mgA (endM m turn n s.k (lostE s all m.has)) nilV (.slice ok s.k.l.length ck) nilV (.slice ol (lostE s all m.has).length cl)).toList) HR.out.1.range Tryz.underlying47 (by rfl) (by kernel_rfl) rfl ⟨_, _, by rw [HD.out], by rw [HD.out]; exact ((hs.stored HR.out.2.2 (by show _ < _; omega)).mono (fun b hq => by have hq' : b < w.heap.size := hq; show b < _; omega)), HR.out.2.1⟩
end Go.Proofs.YthbjgfennclidaaGreat
/- The code's had and May of layer 12. Walked. -/
namespace Go.Proofs.YthbjgfennclidaaGreat
set_option linter.unusedVariables false
set_option linter.unusedSimpArgs false
set_option maxRecDepth 100000
open Go Go.RowKit
theorem had_of (h : Itm) : mayT (ofI h) = hadI h := by
  have e1 : txtB ⟨#[]⟩ = true := by decide
  have e2 : inB 0 (-1000000) 1000000 = true := by decide
  have e3 : mayB 0 0 = true := by decide
  unfold mayT mayI ofI hadI
  simp only [e1, e2, e3, Bool.true_and, Bool.and_true]
theorem hadB_all {l : List Itm} (hn : l.length ≤ 40) (h1 : ∀ j a, j < l.length → l[j]? = some a → hadI a = true) (h2 : ∀ j a b, j + 1 < l.length → l[j]? = some a → l[j + 1]? = some b → upB a b = true) : hadB l = true := by
  unfold hadB
  rw [allI_true h1, rises_iff.2 fun j a b ha hb => h2 j a b (some_posI hb) ha hb, decide_eq_true hn]; rfl
theorem hadB_item {l : List Itm} {k : Nat} {i : Itm} (hi : l[k]? = some i) (h : hadI i = false) : hadB l = false := by
  unfold hadB; rw [allI_false hi h]; simp
theorem hadB_up {l : List Itm} {k : Nat} {a b : Itm} (ha : l[k]? = some a) (hb : l[k + 1]? = some b) (h : upB a b = false) : hadB l = false := by
  unfold hadB; rw [rises_false ha hb h]; simp
theorem hadB_len {l : List Itm} (h : ¬ l.length ≤ 40) : hadB l = false := by unfold hadB; rw [decide_eq_false h]; rfl
def HadRel (l : List Itm) (len : Nat) (w : World) (iv : Value) (wr : World) : Prop :=
  ∃ k : Nat, k ≤ len ∧ iv = .int .i64 k ∧ Hid (∀ j a, j < k → l[j]? = some a → hadI a = true) ∧ Hid (∀ j a b, j + 1 < k → l[j]? = some a → l[j + 1]? = some b → upB a b = true) ∧ Hid (Below w.heap.size w wr)
set_option maxRecDepth 100000 in
set_option maxHeartbeats 8000000 in
theorem srvHad_calls (l : List Itm) (v : Value) (w : World) (hR : Row 4 hc w l v) :
    Calls Tryz.prog 43 #[v] w fun e w' => e = .returned (.bool (hadB l)) ∧ Below w.heap.size w w' := by
  obtain ⟨oa, cap, b, o, rfl, hr⟩ := hR
  have HR := Lib.hid hr
  have hcap := hr.len
  have hmax := hr.max
  unfold maxLen at hmax
  clear hr
  generalize hn : l.length = len at *
  have HN := Lib.hid hn
  clear hn
  by_cases h40 : len ≤ 40
  · have HN40 := Lib.hid h40
    have h41 : (len : Int) ≤ 40 := by omega
    clear h40
    go_enter Tryz.func43, Tryz.ntmps43
    go_wp2_with fail
    go_loopw [10] (fun iv wr => HadRel l len w iv wr) (fun iv _ => len - (intOf iv).toNat)
    case atStart => exact ⟨0, Nat.zero_le _, rfl, fun j a hj => absurd hj (by omega), fun j a b hj => absurd hj (by omega), Below.refl _ _⟩
    case round =>
      obtain ⟨k, hk, rfl, HS, HU, HB⟩ := hrel
      by_cases hlt : k < len
      · obtain ⟨i, hi9⟩ : ∃ i, l[k]? = some i := ⟨_, List.getElem?_eq_getElem (by rw [HN.out]; omega)⟩
        obtain ⟨rfl, hb0⟩ := HR.out.at0 (by rw [HN.out]; omega)
        have HC := fun j u hu => (HB.out.cell (p := ⟨b, o + k * 4 + j, none⟩) hb0).trans (HR.out.cell k i hi9 j u hu)
        have c0 := HC 0 _ rfl
        have c1 := HC 1 _ rfl
        have c2 := HC 2 _ rfl
        have c3 := HC 3 _ rfl
        simp only [Nat.add_zero] at c0
        clear HC
        have zb := Nat.lt_of_lt_of_le hb0 HB.out.size
        have O := Has.new wr (hc i).toArray 74
        have HB1 := Lib.hid (HB.out.alloc HB.out.size (.cells (hc i).toArray 74))
        have r0 := fun dd os => cell_regrown (O.cell 0) dd os
        have r1 := fun dd os => cell_regrown (O.cell 1) dd os
        have r2 := fun dd os => cell_regrown (O.cell 2) dd os
        have r3 := fun dd os => cell_regrown (O.cell 3) dd os
        have m1 := fun dd os => Lib.hid (Calls.regrown_of (srvOf_calls i (Sort.grow (redrawn (wr.alloc (.cells (hc i).toArray 74)) dd) os)))
        have m2 := fun dd os => Lib.hid (Calls.regrown_of (mayC_calls (ofI i) (Sort.grow (redrawn (wr.alloc (.cells (hc i).toArray 74)) dd) os)))
        rw [had_of] at m2
        have k0 : (0 : Int) ≤ (k : Int) := by omega
        have k1 : (k : Int) < (len : Int) := by omega
        have HI := Lib.hid hi9
        clear hi9 O
        cases ht : hadI i
        · have E := Lib.hid (hadB_item HI.out ht)
          rw [ht] at m2
          clear ht
          go_wp2_with fail
          refine wp_region_quiet_below (by kernel_rfl) (by kernel_rfl) ?_
          repeat (first | go_big_quiet_step ((first | (with_reducible exact (m1 _ _).out) | (with_reducible exact (m2 _ _).out))) | quiet_step (first | (with_reducible exact (m1 _ _).out) | (with_reducible exact (m2 _ _).out)))
          refine wpQuiet_nil ?_
          intro w7 hw'
          have hb' := Lib.hid (regrown_below hw')
          clear hw'
          clear m1 m2 r0 r1 r2 r3
          go_wp2_with fail
          go_ret
          exact ⟨ret_bool E.out.symm, HB1.out.trans (hb'.out.mono HB1.out.size)⟩
        · have HS2 := Lib.hid (allI_step HS.out HI.out ht)
          rw [ht] at m2
          clear ht
          by_cases hk0 : k = 0
          · subst hk0
            simp only [Nat.zero_mul, Nat.add_zero] at c0 c1 c2 c3
            have HU2 := Lib.hid (show ∀ j a b, j + 1 < 0 + 1 → l[j]? = some a → l[j + 1]? = some b → upB a b = true from fun j a b hj => absurd hj (by omega))
            go_wp2_with fail
            refine wp_region_quiet_below (by kernel_rfl) (by kernel_rfl) ?_
            repeat (first | go_big_quiet_step ((first | (with_reducible exact (m1 _ _).out) | (with_reducible exact (m2 _ _).out))) | quiet_step (first | (with_reducible exact (m1 _ _).out) | (with_reducible exact (m2 _ _).out)))
            refine wpQuiet_nil ?_
            intro w7 hw'
            have hb' := Lib.hid (regrown_below hw')
            clear hw'
            clear m1 m2 r0 r1 r2 r3
            go_wp2_with fail
            go_roundw
            case rel => exact ⟨0 + 1, by omega, by go_num, HS2.out, HU2.out, Lib.hid (HB1.out.trans (hb'.out.mono HB1.out.size))⟩
            case measure => simp [intOf]; omega
          · obtain ⟨q, rfl⟩ : ∃ q, k = q + 1 := ⟨k - 1, by omega⟩
            obtain ⟨y, hy9⟩ : ∃ y, l[q]? = some y := ⟨_, List.getElem?_eq_getElem (by rw [HN.out]; omega)⟩
            have d0 := (HB1.out.cell (p := ⟨b, o + q * 4 + 0, none⟩) hb0).trans (HR.out.cell q y hy9 0 _ rfl)
            simp only [Nat.add_zero] at d0
            have s0 := fun dd os => cell_regrown d0 dd os
            have p0 : (0 : Int) < ((q + 1 : Nat) : Int) := by omega
            have p1 : ((q + 1 : Nat) : Int) - 1 = (q : Int) := by omega
            have p2 : (q : Int) < (len : Int) := by omega
            have p3 : (0 : Int) ≤ (q : Int) := by omega
            have HY := Lib.hid hy9
            clear d0 hy9
            cases hu : upB y i
            · have E := Lib.hid (hadB_up HY.out HI.out hu)
              have hg : Op.bytesLess y.id.toList i.id.toList = false := by rw [up_eq] at hu; exact hu
              clear hu
              go_wp2_with fail
              refine wp_region_quiet_below (by kernel_rfl) (by kernel_rfl) ?_
              repeat (first | go_big_quiet_step ((first | (with_reducible exact (m1 _ _).out) | (with_reducible exact (m2 _ _).out))) | quiet_step (first | (with_reducible exact (m1 _ _).out) | (with_reducible exact (m2 _ _).out)))
              refine wpQuiet_nil ?_
              intro w7 hw'
              have hb' := Lib.hid (regrown_below hw')
              clear hw'
              clear m1 m2 r0 r1 r2 r3
              go_wp2_with fail
              go_ret
              exact ⟨ret_bool E.out.symm, HB1.out.trans (hb'.out.mono HB1.out.size)⟩
            · have hg : Op.bytesLess y.id.toList i.id.toList = true := by rw [up_eq] at hu; exact hu
              have HU2 := Lib.hid (show ∀ j a b, j + 1 < q + 1 + 1 → l[j]? = some a → l[j + 1]? = some b → upB a b = true from fun j a b hj ha hb => by
                by_cases e : j = q
                · subst e; rw [HY.out] at ha; rw [HI.out] at hb; cases ha; cases hb; exact hu
                · exact HU.out j a b (by omega) ha hb)
              clear hu
              go_wp2_with fail
              refine wp_region_quiet_below (by kernel_rfl) (by kernel_rfl) ?_
              repeat (first | go_big_quiet_step ((first | (with_reducible exact (m1 _ _).out) | (with_reducible exact (m2 _ _).out))) | quiet_step (first | (with_reducible exact (m1 _ _).out) | (with_reducible exact (m2 _ _).out)))
              refine wpQuiet_nil ?_
              intro w7 hw'
              have hb' := Lib.hid (regrown_below hw')
              clear hw'
              clear m1 m2 r0 r1 r2 r3
              clear s0
              go_wp2_with fail
              go_roundw
              case rel => exact ⟨q + 1 + 1, by omega, by go_num, HS2.out, HU2.out, Lib.hid (HB1.out.trans (hb'.out.mono HB1.out.size))⟩
              case measure => simp [intOf]; omega
      · have E := Lib.hid (hadB_all (l := l) (by rw [HN.out]; exact HN40.out) (fun j a hj ha => HS.out j a (by rw [HN.out] at hj; omega) ha) (fun j a b hj ha hb => HU.out j a b (by rw [HN.out] at hj; omega) ha hb))
        go_wp2_with fail
        go_ret
        exact ⟨ret_bool E.out.symm, HB.out⟩
  · have E := Lib.hid (hadB_len (l := l) (by rw [HN.out]; exact h40))
    have h41 : (40 : Int) < (len : Int) := by omega
    clear h40
    go_enter Tryz.func43, Tryz.ntmps43
    go_wp2_with fail
    go_ret
    exact ⟨ret_bool E.out.symm, Below.refl _ _⟩
end Go.Proofs.YthbjgfennclidaaGreat
/- What the code lacks. Walked. -/
namespace Go.Proofs.YthbjgfennclidaaGreat
set_option linter.unusedVariables false
set_option linter.unusedSimpArgs false
set_option maxRecDepth 100000
open Go Go.RowKit
set_option maxRecDepth 100000 in
set_option maxHeartbeats 8000000 in
theorem srvLacks_calls (all : List Itm) (m : Mg) (av fv kv hv lv : Value) (w : World) (hA : Row 8 ic w all av) (hF : LP w m.f fv) (hK : FrW w m.k.l kv) (hn : all.length ≤ 1000) :
    Calls Tryz.prog 58 #[av, .agg (mgA m fv kv hv lv)] w fun e w' => ∃ v', e = .returned v' ∧ OwnG 70 11 ec w' w.heap.size (lacksE all m) v' ∧ Below w.heap.size w w' := by
  obtain ⟨of_, cf, rfl⟩ := lies_val hF
  obtain ⟨ok_, ck, rfl⟩ := hK.val
  obtain ⟨oa, cap, b, o, rfl, hr⟩ := hA
  have HR := Lib.hid hr
  have HOK := Lib.hid hr.ok
  have HF := Lib.hid hF
  have HK := Lib.hid hK
  have hcap := hr.len
  have hmax := hr.max
  unfold maxLen at hmax
  clear hr hF hK
  generalize hlen : all.length = len at *
  have HLEN := Lib.hid hlen
  have HL0 := Lib.hid (fun k => Nat.le_trans (filter_len (all.take k) (wantI m) enI) (by rw [List.length_take]; omega : _ ≤ len))
  clear hlen
  obtain ⟨C, hC⟩ : ∃ C, C = (mgA m (.slice of_ m.f.kids.length cf) (.slice ok_ m.k.l.length ck) hv lv) := ⟨_, rfl⟩
  obtain ⟨hv, rfl⟩ : ∃ x, x = hv := ⟨_, rfl⟩
  have OA := Lib.hid (Own.new w (mgA m (.slice of_ m.f.kids.length cf) (.slice ok_ m.k.l.length ck) hv lv) 47)
  have BEL := Lib.hid ((Below.refl w.heap.size w).alloc (Nat.le_refl _) (.cells (mgA m (.slice of_ m.f.kids.length cf) (.slice ok_ m.k.l.length ck) hv lv) 47))
  go_enter Tryz.func58, Tryz.ntmps58
  go_upto_region 1 with fail
  revert OA BEL
  generalize World.alloc _ _ = W1
  intro OA BEL
  have AS : Hid (LkS w (fun w' => Own w' w.heap.size (mgA m (.slice of_ m.f.kids.length cf) (.slice ok_ m.k.l.length ck) hv lv) 47) (w.heap.size + 1) [] nilV W1) := Lib.hid ⟨OA.out, OwnG.nil, BEL.out⟩
  clear OA BEL hC C
  go_wp2_with fail
  go_loopw [5, 10] (fun v i wr => LkRel w (fun w' => Own w' w.heap.size (mgA m (.slice of_ m.f.kids.length cf) (.slice ok_ m.k.l.length ck) hv lv) 47) (w.heap.size + 1) (fun k => ((all.take k).filter (wantI m)).map enI) len v i wr) (fun _ i _ => len - (intOf i).toNat)
  case atStart => exact ⟨0, Nat.zero_le _, rfl, AS⟩
  case round =>
    clear AS
    obtain ⟨k, hk, rfl, AS⟩ := hrel
    dsimp only at AS
    by_cases hlt : k < len
    · obtain ⟨ov, cv, rfl⟩ := AS.out.r.val
      obtain ⟨x, hx⟩ : ∃ x, all[k]? = some x := ⟨_, List.getElem?_eq_getElem (by rw [HLEN.out]; exact hlt)⟩
      obtain ⟨rfl, hS⟩ := HR.out.at0 (by rw [HLEN.out]; omega)
      have HX := Lib.hid hx
      have hid := (HOK.out x (List.mem_of_getElem? hx)).1
      obtain ⟨c0, c1, c2, c3, c4, c5, c6, c7⟩ := ic_cells (w := wr) (fun j u hu => (AS.out.b.cell (p := ⟨b, o + k * 8 + j, none⟩) hS).trans (HR.out.cell k x hx j u hu))
      have zb : b < wr.heap.size := Nat.lt_of_lt_of_le hS AS.out.b.size
      have OA := Lib.hid AS.out.o
      have RW := Lib.hid AS.out.r
      have BEL := Lib.hid AS.out.b
      have HL := Lib.hid (HL0.out k)
      have k0 : (0 : Int) ≤ (k : Int) := by omega
      have k1 : (k : Int) < (len : Int) := by omega
      clear AS hx
      have CH := fun w' h => Lib.hid (hasX_calls x m.f (.slice of_ m.f.kids.length cf) w' h hid)
      have CK := fun w' h => Lib.hid (knowHas_calls m.k x.id x.r x.c (.slice ok_ m.k.l.length ck) w' h hid)
      generalize hll : (((all.take k).filter (wantI m)).map enI).length = nl at *
      go_upto_region 5 with fail
      clear c0 c1 c2 c3 c4 c5 c6 c7 zb
      have O7 := Lib.hid (Own.new wr (iA x) 68)
      have hb9 : Below wr.heap.size wr (wr.alloc (.cells (iA x) 68)) := (Below.refl _ _).alloc (Nat.le_refl _) _
      replace OA := Lib.hid (OA.out.later hb9)
      replace RW := Lib.hid (RW.out.later hb9)
      replace BEL := Lib.hid (BEL.out.trans (Below.mono hb9 BEL.out.size))
      clear hb9
      revert OA
      revert RW
      revert BEL
      revert O7
      generalize World.alloc _ _ = VO7
      intro O7 BEL RW OA
      try simp only [Act.put]
      have HST := Lib.hid (show wantI m x = (hasT m.f x && !hasK m.k x.id x.r x.c) from rfl)
      cases hh : hasT m.f x
      · rw [hh] at CH HST
        clear hh
        go_wp2_with (first
          | (refine wpList_load_mid (by rfl) 44 _ (by rfl) w.heap.size 5 (by rfl) [.int .i64 m.f.op, .string m.f.text, .int .i64 m.f.n, .complex .f64 m.f.x m.f.y, .slice of_ m.f.kids.length cf] _ (by exact OA.out.part 5 _ (by rfl)) Tryz.underlying44 (by rfl) (by kernel_rfl) ?_)
          | (refine wpList_load_mid (by rfl) 68 _ (by rfl) wr.heap.size 0 (by rfl) (ic x) _ (by exact O7.out.part 0 _ (by rfl)) Tryz.underlying68 (by rfl) (by kernel_rfl) ?_)
          | fail)
        refine (CH _ (HF.out.later BEL.out (Nat.le_refl _))).out.mono ?_
        rintro e wy ⟨rfl, hb⟩
        replace OA := Lib.hid (OA.out.later hb)
        replace O7 := Lib.hid (O7.out.later hb)
        replace RW := Lib.hid (RW.out.later hb)
        replace BEL := Lib.hid (BEL.out.trans (Below.mono hb BEL.out.size))
        clear hb
        have lA := OA.out.cell
        have zA := OA.out.lt
        have l7 := O7.out.cell
        have z7 := O7.out.lt
        go_wp2_with fail
        go_roundw
        case rel => exact ⟨k + 1, by omega, by go_num, Lib.hid (by dsimp only; rw [filter_no HX.out HST.out]; exact ⟨OA.out, RW.out, BEL.out⟩)⟩
        case measure => simp [intOf]; omega
      · rw [hh] at CH HST
        clear hh
        cases hq : hasK m.k x.id x.r x.c
        · rw [hq] at CK HST
          clear hq
          go_wp2_with (first
          | (refine wpList_load_mid (by rfl) 44 _ (by rfl) w.heap.size 5 (by rfl) [.int .i64 m.f.op, .string m.f.text, .int .i64 m.f.n, .complex .f64 m.f.x m.f.y, .slice of_ m.f.kids.length cf] _ (by exact OA.out.part 5 _ (by rfl)) Tryz.underlying44 (by rfl) (by kernel_rfl) ?_)
          | (refine wpList_load_mid (by rfl) 68 _ (by rfl) wr.heap.size 0 (by rfl) (ic x) _ (by exact O7.out.part 0 _ (by rfl)) Tryz.underlying68 (by rfl) (by kernel_rfl) ?_)
          | fail)
          refine (CH _ (HF.out.later BEL.out (Nat.le_refl _))).out.mono ?_
          rintro e wy ⟨rfl, hb⟩
          replace OA := Lib.hid (OA.out.later hb)
          replace O7 := Lib.hid (O7.out.later hb)
          replace RW := Lib.hid (RW.out.later hb)
          replace BEL := Lib.hid (BEL.out.trans (Below.mono hb BEL.out.size))
          clear hb
          have lA := OA.out.cell
          have zA := OA.out.lt
          have l7 := O7.out.cell
          have z7 := O7.out.lt
          go_upto_region 6 with (first
          | (go_at_call 113; refine (CK _ (HK.out.later BEL.out (Nat.le_refl _))).out.mono ?_; rintro e wy ⟨rfl, hb⟩; replace OA := Lib.hid (OA.out.later hb); replace O7 := Lib.hid (O7.out.later hb); replace RW := Lib.hid (RW.out.later hb); replace BEL := Lib.hid (BEL.out.trans (Below.mono hb BEL.out.size)); clear hb; clear l7 z7 lA zA; have l7 := O7.out.cell; have z7 := O7.out.lt)
          | fail)
          have HP := Lib.hid (fun ty => run_push_en ty (⟨x, false, 0, 0⟩ : En) RW.out (by have := HL.out; omega) OA.out.lt)
          go_wp2_with (first
          | (at_builtin; obtain ⟨v9, w9, hrun, hown, hgr⟩ := HP.out _; refine Lib.wpList_append_run _ rfl _ _ _ _ rfl _ _ rfl rfl _ _ hrun ?_; have AS9 := Lib.hid (lk_push OA.out RW.out BEL.out hown hgr); clear hown hgr hrun HP)
          | fail)
          go_roundw
          case rel => exact ⟨k + 1, by omega, by go_num, Lib.hid (by dsimp only; rw [filter_yes HX.out HST.out]; exact AS9.out)⟩
          case measure => simp [intOf]; omega
        · rw [hq] at CK HST
          clear hq
          go_wp2_with (first
          | (refine wpList_load_mid (by rfl) 44 _ (by rfl) w.heap.size 5 (by rfl) [.int .i64 m.f.op, .string m.f.text, .int .i64 m.f.n, .complex .f64 m.f.x m.f.y, .slice of_ m.f.kids.length cf] _ (by exact OA.out.part 5 _ (by rfl)) Tryz.underlying44 (by rfl) (by kernel_rfl) ?_)
          | (refine wpList_load_mid (by rfl) 68 _ (by rfl) wr.heap.size 0 (by rfl) (ic x) _ (by exact O7.out.part 0 _ (by rfl)) Tryz.underlying68 (by rfl) (by kernel_rfl) ?_)
          | fail)
          refine (CH _ (HF.out.later BEL.out (Nat.le_refl _))).out.mono ?_
          rintro e wy ⟨rfl, hb⟩
          replace OA := Lib.hid (OA.out.later hb)
          replace O7 := Lib.hid (O7.out.later hb)
          replace RW := Lib.hid (RW.out.later hb)
          replace BEL := Lib.hid (BEL.out.trans (Below.mono hb BEL.out.size))
          clear hb
          have lA := OA.out.cell
          have zA := OA.out.lt
          have l7 := O7.out.cell
          have z7 := O7.out.lt
          go_wp2_with (first
          | (go_at_call 113; refine (CK _ (HK.out.later BEL.out (Nat.le_refl _))).out.mono ?_; rintro e wy ⟨rfl, hb⟩; replace OA := Lib.hid (OA.out.later hb); replace O7 := Lib.hid (O7.out.later hb); replace RW := Lib.hid (RW.out.later hb); replace BEL := Lib.hid (BEL.out.trans (Below.mono hb BEL.out.size)); clear hb; clear l7 z7 lA zA; have l7 := O7.out.cell; have z7 := O7.out.lt)
          | fail)
          go_roundw
          case rel => exact ⟨k + 1, by omega, by go_num, Lib.hid (by dsimp only; rw [filter_no HX.out HST.out]; exact ⟨OA.out, RW.out, BEL.out⟩)⟩
          case measure => simp [intOf]; omega
    · have e : k = len := by omega
      subst e
      have E : ((all.take k).filter (wantI m)).map enI = lacksE all m := by unfold lacksE; rw [List.take_of_length_le (by rw [HLEN.out]; exact Nat.le_refl _)]
      have HE := Lib.hid E
      clear E
      have hlr := AS.out.r
      rw [HE.out] at hlr
      go_wp2_with fail
      go_ret
      exact ⟨_, rfl, hlr.base (Nat.le_succ _), AS.out.b⟩
end Go.Proofs.YthbjgfennclidaaGreat
