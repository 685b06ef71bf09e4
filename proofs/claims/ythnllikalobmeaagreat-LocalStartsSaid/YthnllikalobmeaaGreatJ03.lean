/- Joined: RefVec2, VecWith, VecMax, VecMay. -/
import Derived.Test.YthnllikalobmeaaGreatJ01
import Derived.Test.YthnllikalobmeaaGreatJ02
import Derived.StillTailTactics
namespace Go.Proofs.YthnllikalobmeaaGreat
set_option linter.unusedVariables false
set_option linter.unusedSimpArgs false
set_option maxRecDepth 100000
set_option maxHeartbeats 8000000
open Go.RowKit
theorem y03h {p:Prop} (h:p):Hid p:=Lib.hid h
theorem zv0 (M:Nat → Int):arr8 (fun _=>0) = arr8 (upTo 0 M):=zbf fun j _=>by unfold upTo;rw [if_neg (by omega)]
theorem ztr (M:Nat → Int):arr8 (upTo 8 M) = arr8 M:=zbf fun j h=>by unfold upTo;rw [if_pos h]
theorem zj3 {A:Nat → Int} {r c:Int} (h:r < 1 ∨ 8 < r):vecV A = vecV (zaw A r c):=zf6 fun j _=>by unfold zaw;rw [if_neg (by omega)]
theorem zry {A:Nat → Int} {c:Int} {k:Nat} (hc:c ≤ A k):vecV A = vecV (zaw A ((k:Int) + 1) c):=zf6 fun j _=>by
 unfold zaw
 rw [if_neg]
 rintro ⟨h1,_,_,h2⟩
 have e:((k:Int) + 1 - 1).toNat = k:=by omega
 rw [e] at h1;subst h1;omega
theorem zrx {A:Nat → Int} {c:Int} {k:Nat} (hk:k < 8) (hc:A k < c):vecV (fun j=>if j = k then c else A j) = vecV (zaw A ((k:Int) + 1) c):=zf6 fun j _=>by
 have e:((k:Int) + 1 - 1).toNat = k:=by omega
 unfold zaw
 rw [e]
 by_cases h:j = k
 · subst h;rw [if_pos rfl,if_pos ⟨rfl,by omega,by omega,hc⟩]
 · rw [if_neg h,if_neg (fun h'=>h h'.1)]
theorem zpo (A B:Nat → Int) (w:World) :
   Calls Tryz.prog 167 #[vecV A,vecV B] w fun e w'=>e = .returned (vecV (maxV A B)) ∧ Below w.heap.size w w':=by
 have I0:MSt A B (maxV A B) 0 w ((((w.alloc (.cells (arr8 A) 28)).alloc (.cells (arr8 B) 28)).alloc (.cells (arr8 fun _=>0) 28)).alloc (.cells (arr8 fun _=>0) 28)) :=
   ⟨(((Own.new w _ _).alloc _).alloc _).alloc _,((Own.newAt _ _ _ (by simp)).alloc _).alloc _,(Own.newAt _ _ _ (by simp)).alloc _,by rw [← zv0];exact Own.newAt _ _ _ (by simp),((((Below.refl _ _).alloc (Nat.le_refl _) _).alloc (by simp) _).alloc (by simp;omega) _).alloc (by simp;omega) _⟩
 have HI0:=y03h I0
 clear I0
 go_enter Tryz.func167,Tryz.ntmps167
 go_wp2_with fail
 go_loopw [6] (fun i wr=>z1x A B (maxV A B) w i wr) (fun i _=>8 - (intOf i).toNat)
 case atStart=>exact ⟨0,by omega,rfl,HI0⟩
 case round =>
   clear HI0
   obtain ⟨k,hk,rfl,HP⟩:=hrel
   by_cases hlt:k < 8
   · have ca:=(HP.out.o1.cell k).trans (zbo A hlt)
     have c4:=(HP.out.o4.cell k).trans (zbo (upTo k (maxV A B)) hlt)
     have f4:=HP.out.o4.free k
     have z1:=HP.out.o1.lt
     have z2:=HP.out.o2.lt
     have z3:=HP.out.o3.lt
     have z4:=HP.out.o4.lt
     have k0:(0:Int) ≤ (k:Int):=by omega
     have k1:(k:Int) < 8:=by omega
     -- behind the first store
     have P1:=(HP.out.put hlt (A k)).1
     have b1:=HP.out.bel.setCell (p:=⟨w.heap.size + 1 + 1 + 1,k,none⟩) (by show w.heap.size ≤ w.heap.size + 1 + 1 + 1;omega) (.int .i64 (A k))
     have q1:=HP.out.o1.setFar ⟨w.heap.size + 1 + 1 + 1,k,none⟩ (.int .i64 (A k)) (by show w.heap.size ≠ w.heap.size + 1 + 1 + 1;omega)
     have q2:=HP.out.o2.setFar ⟨w.heap.size + 1 + 1 + 1,k,none⟩ (.int .i64 (A k)) (by show w.heap.size + 1 ≠ w.heap.size + 1 + 1 + 1;omega)
     have q3:=HP.out.o3.setFar ⟨w.heap.size + 1 + 1 + 1,k,none⟩ (.int .i64 (A k)) (by show w.heap.size + 1 + 1 ≠ w.heap.size + 1 + 1 + 1;omega)
     have HQ:=y03h (show Own _ _ _ _ ∧ Own _ _ _ _ ∧ Own _ _ _ _ ∧ Own _ _ _ _ ∧ Below _ _ _ from ⟨q1,q2,q3,P1,b1⟩)
     clear P1 b1 q1 q2 q3
     have LA:=fun dd os=>(HQ.out.1.has.regrown dd os k).trans (zbo A hlt)
     have LB:=fun dd os=>(HQ.out.2.1.has.regrown dd os k).trans (zbo B hlt)
     by_cases h:A k < B k
     · have g:decide (A k < B k) = true:=decide_eq_true h
       have hm:maxV A B k = B k:=by unfold maxV;rw [if_pos h]
       go_wp2_with fail
       refine wp_region_quiet_below (by kernel_rfl) (by kernel_rfl) ?_
       repeat (first | go_big_quiet_step (fail) | quiet_step (fail))
       refine wpQuiet_nil ?_
       intro w7 hw'
       have hb':=y03h (zac hw')
       clear hw'
       clear LA LB
       have O1:=HQ.out.1.later hb'.out
       have O2:=HQ.out.2.1.later hb'.out
       have O3:=HQ.out.2.2.1.later hb'.out
       have O4:=HQ.out.2.2.2.1.later hb'.out
       have B4:=HQ.out.2.2.2.2.trans (hb'.out.mono HQ.out.2.2.2.2.size)
       have cb:=(O2.cell k).trans (zbo B hlt)
       have c5:=(O4.cell k).trans (zbo _ hlt)
       have f5:=O4.free k
       have y2:=O2.lt
       have y4:=O4.lt
       have R1:=O1.setFar ⟨w.heap.size + 1 + 1 + 1,k,none⟩ (.int .i64 (B k)) (by show w.heap.size ≠ w.heap.size + 1 + 1 + 1;omega)
       have R2:=O2.setFar ⟨w.heap.size + 1 + 1 + 1,k,none⟩ (.int .i64 (B k)) (by show w.heap.size + 1 ≠ w.heap.size + 1 + 1 + 1;omega)
       have R3:=O3.setFar ⟨w.heap.size + 1 + 1 + 1,k,none⟩ (.int .i64 (B k)) (by show w.heap.size + 1 + 1 ≠ w.heap.size + 1 + 1 + 1;omega)
       have R4:=O4.set k (.int .i64 (B k))
       rw [zdm _ hlt] at R4
       have R5:=B4.setCell (p:=⟨w.heap.size + 1 + 1 + 1,k,none⟩) (by show w.heap.size ≤ w.heap.size + 1 + 1 + 1;omega) (.int .i64 (B k))
       have HR:=y03h (HP.out.step R1 R2 R3 (by
         have e:arr8 (fun j=>if j = k then B k else (fun j=>if j = k then A k else upTo k (maxV A B) j) j) = arr8 (fun j=>if j = k then maxV A B k else upTo k (maxV A B) j):=zbf fun j _=>by
           by_cases hj:j = k
           · simp [hj,hm]
           · simp [hj]
         rw [← e];exact R4) R5)
       clear O1 O2 O3 O4 B4 R1 R2 R3 R4 R5 ca c4 f4
       go_wp2_with fail
       go_roundw
       case rel=>exact ⟨k + 1,by omega,by go_num,HR⟩
       case measure=>simp [intOf];omega
     · have g:decide (A k < B k) = false:=decide_eq_false h
       have hm:maxV A B k = A k:=by unfold maxV;rw [if_neg h]
       have HS:=y03h (HP.out.step HQ.out.1 HQ.out.2.1 HQ.out.2.2.1 (by rw [hm];exact HQ.out.2.2.2.1) HQ.out.2.2.2.2)
       go_wp2_with fail
       refine wp_region_quiet_below (by kernel_rfl) (by kernel_rfl) ?_
       repeat (first | go_big_quiet_step (fail) | quiet_step (fail))
       refine wpQuiet_nil ?_
       intro w7 hw'
       have hb':=y03h (zac hw')
       clear hw'
       clear LA LB ca c4 f4
       go_wp2_with fail
       go_roundw
       case rel=>exact ⟨k + 1,by omega,by go_num,y03h (HS.out.later hb'.out)⟩
       case measure=>simp [intOf];omega
   · have e:k = 8:=by omega
     subst e
     have o4:=HP.out.o4
     rw [ztr] at o4
     have l3:=HP.out.o3.cell
     have f3:=HP.out.o3.free
     have z3:=HP.out.o3.lt
     have l4:=o4.cell
     have z4:=o4.lt
     have BEL:=y03h HP.out.bel
     go_wp2_with fail
     have key:=And.intro (zbl HP.out.o3 (.int .i64 ((maxV A B) 0)) (.int .i64 ((maxV A B) 1)) (.int .i64 ((maxV A B) 2)) (.int .i64 ((maxV A B) 3)) (.int .i64 ((maxV A B) 4)) (.int .i64 ((maxV A B) 5)) (.int .i64 ((maxV A B) 6)) (.int .i64 ((maxV A B) 7))) (za3 (b:=w.heap.size + 1 + 1) BEL.out (by omega) (.int .i64 ((maxV A B) 0)) (.int .i64 ((maxV A B) 1)) (.int .i64 ((maxV A B) 2)) (.int .i64 ((maxV A B) 3)) (.int .i64 ((maxV A B) 4)) (.int .i64 ((maxV A B) 5)) (.int .i64 ((maxV A B) 6)) (.int .i64 ((maxV A B) 7)))
     clear l3 f3 z3 l4 z4
     unfold st8 at key
     revert key
     generalize World.setCell (World.setCell (World.setCell (World.setCell (World.setCell (World.setCell (World.setCell (World.setCell _ _ _) _ _) _ _) _ _) _ _) _ _) _ _) _ _ = WW
     rintro ⟨of,bf⟩
     have lf:=of.cell
     refine bodyPost_ret (v:=vecV ((maxV A B))) (by simp [results,Tryz.results167,go_sem,lf]) rfl ⟨rfl,bf⟩
theorem zhp (A:Nat → Int) (r c:Int) (w:World) :
   Calls Tryz.prog 148 #[vecV A,.agg #[.int .i64 r,.int .i64 c]] w fun e w'=>e = .returned (vecV (zaw A r c)) ∧ Below w.heap.size w w':=by
 have O1:=y03h (((Own.new w (arr8 A) 28).alloc (.cells #[.int .i64 r,.int .i64 c] 67)).alloc (.cells (arr8 fun _=>0) 28))
 have O2:=y03h ((Own.newAt (w.alloc (.cells (arr8 A) 28)) #[.int .i64 r,.int .i64 c] 67 (b:=w.heap.size + 1) (by simp)).alloc (.cells (arr8 fun _=>0) 28))
 have O3:=y03h (Own.newAt ((w.alloc (.cells (arr8 A) 28)).alloc (.cells #[.int .i64 r,.int .i64 c] 67)) (arr8 fun _=>0) 28 (b:=w.heap.size + 1 + 1) (by simp))
 have BEL:=y03h ((((Below.refl w.heap.size w).alloc (Nat.le_refl _) (.cells (arr8 A) 28)).alloc (by simp) (.cells #[.int .i64 r,.int .i64 c] 67)).alloc (by simp;omega) (.cells (arr8 fun _=>0) 28))
 have LB:=fun dd os o=>O2.out.has.regrown dd os o
 by_cases h1:r < 1
 · have HE:=y03h (zj3 (A:=A) (r:=r) (c:=c) (.inl h1))
   have g1:decide (r < 1) = true:=decide_eq_true h1
   go_enter Tryz.func148,Tryz.ntmps148
   go_wp2_with fail
   refine wp_region_quiet_below (by kernel_rfl) (by kernel_rfl) ?_
   repeat (first | go_big_quiet_step (fail) | quiet_step (fail))
   refine wpQuiet_nil ?_
   intro w7 hw'
   have hb':=y03h (zac hw')
   clear hw'
   clear LB
   replace O1:=y03h (O1.out.later hb'.out)
   replace O2:=y03h (O2.out.later hb'.out)
   replace O3:=y03h (O3.out.later hb'.out)
   replace BEL:=y03h (BEL.out.trans (hb'.out.mono BEL.out.size))
   have l1:=O1.out.cell
   have z1:=O1.out.lt
   have l3:=O3.out.cell
   have f3:=O3.out.free
   have z3:=O3.out.lt
   go_wp2_with fail
   have key:=And.intro (zbl O3.out (.int .i64 (A 0)) (.int .i64 (A 1)) (.int .i64 (A 2)) (.int .i64 (A 3)) (.int .i64 (A 4)) (.int .i64 (A 5)) (.int .i64 (A 6)) (.int .i64 (A 7))) (za3 (b:=w.heap.size + 1 + 1) BEL.out (by omega) (.int .i64 (A 0)) (.int .i64 (A 1)) (.int .i64 (A 2)) (.int .i64 (A 3)) (.int .i64 (A 4)) (.int .i64 (A 5)) (.int .i64 (A 6)) (.int .i64 (A 7)))
   clear l1 z1 l3 f3 z3
   unfold st8 at key
   revert key
   generalize World.setCell (World.setCell (World.setCell (World.setCell (World.setCell (World.setCell (World.setCell (World.setCell _ _ _) _ _) _ _) _ _) _ _) _ _) _ _) _ _ = WW
   rintro ⟨of,bf⟩
   have lf:=of.cell
   refine bodyPost_ret (v:=vecV A) (by simp [results,Tryz.results148,go_sem,lf]) rfl ⟨congrArg Ending.returned HE.out,bf⟩
 by_cases h2:8 < r
 · have HE:=y03h (zj3 (A:=A) (r:=r) (c:=c) (.inr h2))
   have g1:decide (r < 1) = false:=decide_eq_false h1
   have g2:decide (8 < r) = true:=decide_eq_true h2
   go_enter Tryz.func148,Tryz.ntmps148
   go_wp2_with fail
   refine wp_region_quiet_below (by kernel_rfl) (by kernel_rfl) ?_
   repeat (first | go_big_quiet_step (fail) | quiet_step (fail))
   refine wpQuiet_nil ?_
   intro w7 hw'
   have hb':=y03h (zac hw')
   clear hw'
   clear LB
   replace O1:=y03h (O1.out.later hb'.out)
   replace O2:=y03h (O2.out.later hb'.out)
   replace O3:=y03h (O3.out.later hb'.out)
   replace BEL:=y03h (BEL.out.trans (hb'.out.mono BEL.out.size))
   have l1:=O1.out.cell
   have z1:=O1.out.lt
   have l3:=O3.out.cell
   have f3:=O3.out.free
   have z3:=O3.out.lt
   go_wp2_with fail
   have key:=And.intro (zbl O3.out (.int .i64 (A 0)) (.int .i64 (A 1)) (.int .i64 (A 2)) (.int .i64 (A 3)) (.int .i64 (A 4)) (.int .i64 (A 5)) (.int .i64 (A 6)) (.int .i64 (A 7))) (za3 (b:=w.heap.size + 1 + 1) BEL.out (by omega) (.int .i64 (A 0)) (.int .i64 (A 1)) (.int .i64 (A 2)) (.int .i64 (A 3)) (.int .i64 (A 4)) (.int .i64 (A 5)) (.int .i64 (A 6)) (.int .i64 (A 7)))
   clear l1 z1 l3 f3 z3
   unfold st8 at key
   revert key
   generalize World.setCell (World.setCell (World.setCell (World.setCell (World.setCell (World.setCell (World.setCell (World.setCell _ _ _) _ _) _ _) _ _) _ _) _ _) _ _) _ _ = WW
   rintro ⟨of,bf⟩
   have lf:=of.cell
   refine bodyPost_ret (v:=vecV A) (by simp [results,Tryz.results148,go_sem,lf]) rfl ⟨congrArg Ending.returned HE.out,bf⟩
 obtain ⟨k,rfl⟩:∃ k:Nat,r = (k:Int) + 1:=⟨(r - 1).toNat,by omega⟩
 have hk:k < 8:=by omega
 have g1:decide ((k:Int) + 1 < 1) = false:=decide_eq_false h1
 have g2:decide (8 < (k:Int) + 1) = false:=decide_eq_false h2
 have g3:(k:Int) + 1 - 1 = (k:Int):=by omega
 have k0:(0:Int) ≤ (k:Int):=by omega
 have k1:(k:Int) < 8:=by omega
 have LA:=fun dd os=>(O1.out.has.regrown dd os k).trans (zbo A hk)
 clear h1 h2
 by_cases h:c ≤ A k
 · have HE:=y03h (zry (A:=A) (k:=k) h)
   have g4:decide (c ≤ A k) = true:=decide_eq_true h
   go_enter Tryz.func148,Tryz.ntmps148
   go_wp2_with fail
   refine wp_region_quiet_below (by kernel_rfl) (by kernel_rfl) ?_
   repeat (first | go_big_quiet_step (fail) | quiet_step (fail))
   refine wpQuiet_nil ?_
   intro w7 hw'
   have hb':=y03h (zac hw')
   clear hw'
   clear LB LA
   replace O1:=y03h (O1.out.later hb'.out)
   replace O2:=y03h (O2.out.later hb'.out)
   replace O3:=y03h (O3.out.later hb'.out)
   replace BEL:=y03h (BEL.out.trans (hb'.out.mono BEL.out.size))
   have l1:=O1.out.cell
   have z1:=O1.out.lt
   have l3:=O3.out.cell
   have f3:=O3.out.free
   have z3:=O3.out.lt
   go_wp2_with fail
   have key:=And.intro (zbl O3.out (.int .i64 (A 0)) (.int .i64 (A 1)) (.int .i64 (A 2)) (.int .i64 (A 3)) (.int .i64 (A 4)) (.int .i64 (A 5)) (.int .i64 (A 6)) (.int .i64 (A 7))) (za3 (b:=w.heap.size + 1 + 1) BEL.out (by omega) (.int .i64 (A 0)) (.int .i64 (A 1)) (.int .i64 (A 2)) (.int .i64 (A 3)) (.int .i64 (A 4)) (.int .i64 (A 5)) (.int .i64 (A 6)) (.int .i64 (A 7)))
   clear l1 z1 l3 f3 z3
   unfold st8 at key
   revert key
   generalize World.setCell (World.setCell (World.setCell (World.setCell (World.setCell (World.setCell (World.setCell (World.setCell _ _ _) _ _) _ _) _ _) _ _) _ _) _ _) _ _ = WW
   rintro ⟨of,bf⟩
   have lf:=of.cell
   refine bodyPost_ret (v:=vecV A) (by simp [results,Tryz.results148,go_sem,lf]) rfl ⟨congrArg Ending.returned HE.out,bf⟩
 · have HE:=y03h (zrx (A:=A) (k:=k) (c:=c) hk (by omega))
   have g4:decide (c ≤ A k) = false:=decide_eq_false h
   go_enter Tryz.func148,Tryz.ntmps148
   go_wp2_with fail
   refine wp_region_quiet_below (by kernel_rfl) (by kernel_rfl) ?_
   repeat (first | go_big_quiet_step (fail) | quiet_step (fail))
   refine wpQuiet_nil ?_
   intro w7 hw'
   have hb':=y03h (zac hw')
   clear hw'
   clear LB LA
   replace O1:=y03h (O1.out.later hb'.out)
   replace O2:=y03h (O2.out.later hb'.out)
   replace O3:=y03h (O3.out.later hb'.out)
   replace BEL:=y03h (BEL.out.trans (hb'.out.mono BEL.out.size))
   have c1:=(O1.out.cell k).trans (zbo A hk)
   have f1:=O1.out.free k
   have z1:=O1.out.lt
   have l2:=O2.out.cell
   have z2:=O2.out.lt
   obtain ⟨F,hF⟩:∃ F:Nat → Int,F = (fun j=>if j = k then c else A j):=⟨_,rfl⟩
   have R1:=O1.out.set k (.int .i64 c)
   rw [zdm _ hk,← hF] at R1
   have he2:=HE.out
   rw [← hF] at he2
   have HE2:=y03h he2
   have R3:=O3.out.setFar ⟨w.heap.size,k,none⟩ (.int .i64 c) (by show w.heap.size + 1 + 1 ≠ w.heap.size;omega)
   have B3:=BEL.out.setCell (p:=⟨w.heap.size,k,none⟩) (Nat.le_refl _) (.int .i64 c)
   have HX:=y03h (show Own _ _ _ _ ∧ Own _ _ _ _ ∧ Below _ _ _ from ⟨R1,R3,B3⟩)
   clear R1 R3 B3 HE hF he2
   go_upto_region 4 with fail
   revert HX
   generalize w7.setCell ⟨w.heap.size,k,none⟩ (.int .i64 c) = W8
   intro HX
   have HR3:=y03h HX.out.2.1
   have BR:=y03h HX.out.2.2
   have y1:=HX.out.1.cell
   have l3:=HX.out.2.1.cell
   have f3:=HX.out.2.1.free
   have z3:=HX.out.2.1.lt
   have z4:=HX.out.1.lt
   clear c1 f1 z1 l2 z2
   go_wp2_with fail
   have key:=And.intro (zbl HR3.out (.int .i64 (F 0)) (.int .i64 (F 1)) (.int .i64 (F 2)) (.int .i64 (F 3)) (.int .i64 (F 4)) (.int .i64 (F 5)) (.int .i64 (F 6)) (.int .i64 (F 7))) (za3 (b:=w.heap.size + 1 + 1) BR.out (by omega) (.int .i64 (F 0)) (.int .i64 (F 1)) (.int .i64 (F 2)) (.int .i64 (F 3)) (.int .i64 (F 4)) (.int .i64 (F 5)) (.int .i64 (F 6)) (.int .i64 (F 7)))
   clear y1 l3 f3 z3 z4
   unfold st8 at key
   revert key
   generalize World.setCell (World.setCell (World.setCell (World.setCell (World.setCell (World.setCell (World.setCell (World.setCell _ _ _) _ _) _ _) _ _) _ _) _ _) _ _) _ _ = WW
   rintro ⟨of,bf⟩
   have lf:=of.cell
   refine bodyPost_ret (v:=vecV F) (by simp [results,Tryz.results148,go_sem,lf]) rfl ⟨congrArg Ending.returned HE2.out,bf⟩
theorem znp (A:Nat → Int) (r c:Int) (w:World) :
   Calls Tryz.prog 145 #[vecV A,.agg #[.int .i64 r,.int .i64 c]] w fun e w'=>e = .returned (vecV (zaw A r c)) ∧ Below w.heap.size w w':=by
 have O1:=y03h (((Own.new w (arr8 A) 28).alloc (.cells #[.int .i64 r,.int .i64 c] 67)).alloc (.cells (arr8 fun _=>0) 28))
 have O2:=y03h ((Own.newAt (w.alloc (.cells (arr8 A) 28)) #[.int .i64 r,.int .i64 c] 67 (b:=w.heap.size + 1) (by simp)).alloc (.cells (arr8 fun _=>0) 28))
 have O3:=y03h (Own.newAt ((w.alloc (.cells (arr8 A) 28)).alloc (.cells #[.int .i64 r,.int .i64 c] 67)) (arr8 fun _=>0) 28 (b:=w.heap.size + 1 + 1) (by simp))
 have BEL:=y03h ((((Below.refl w.heap.size w).alloc (Nat.le_refl _) (.cells (arr8 A) 28)).alloc (by simp) (.cells #[.int .i64 r,.int .i64 c] 67)).alloc (by simp;omega) (.cells (arr8 fun _=>0) 28))
 have m:=fun W=>y03h (zhq r W)
 by_cases h:r < 1 ∨ 8 < r
 · have HE:=y03h (zj3 (A:=A) (r:=r) (c:=c) h)
   have e:=zvf h
   clear h
   rw [e] at m
   clear e
   have l1:=O1.out.cell
   have z1:=O1.out.lt
   have l3:=O3.out.cell
   have f3:=O3.out.free
   have z3:=O3.out.lt
   have BEL2:=y03h ((((Below.refl w.heap.size w).alloc (Nat.le_refl _) (.cells (arr8 A) 28)).alloc (by simp) (.cells #[.int .i64 r,.int .i64 c] 67)).alloc (by simp;omega) (.cells (arr8 A) 28))
   go_enter Tryz.func145,Tryz.ntmps145
   go_wp2_with (go_at_call 107;refine (m _).out.mono ?_;rintro e w2 ⟨rfl,rfl⟩)
   have lf:=(Own.newAt ((w.alloc (.cells (arr8 A) 28)).alloc (.cells #[.int .i64 r,.int .i64 c] 67)) (arr8 A) 28 (b:=w.heap.size + 1 + 1) (by simp)).cell
   refine bodyPost_ret (v:=vecV A) (by simp [results,Tryz.results145,go_sem,lf]) rfl ⟨congrArg Ending.returned HE.out,BEL2.out⟩
 · obtain ⟨k,rfl⟩:∃ k:Nat,r = (k:Int) + 1:=⟨(r - 1).toNat,by omega⟩
   have hk:k < 8:=by omega
   clear h
   have e:=zru hk
   rw [e] at m
   clear e
   have g3:(k:Int) + 1 - 1 = (k:Int):=by omega
   have k0:(0:Int) ≤ (k:Int):=by omega
   have k1:(k:Int) < 8:=by omega
   obtain ⟨v,hv⟩:∃ v:Int,v = if A k < c then c else A k:=⟨_,rfl⟩
   have HE:=y03h (show vecV (fun j=>if j = k then v else A j) = vecV (zaw A ((k:Int) + 1) c) by
     rw [hv]
     split
     · rename_i h;exact zrx hk h
     · rename_i h
       rw [← zry (A:=A) (k:=k) (c:=c) (by omega)]
       exact zf6 fun j _=>by
         by_cases e:j = k
         · rw [if_pos e,e]
         · rw [if_neg e])
   have HO:=y03h (And.intro O1 (And.intro O2 (And.intro O3 BEL)))
   clear O1 O2 O3 BEL
   go_enter Tryz.func145,Tryz.ntmps145
   go_upto_region 2 with (go_at_call 107;refine (m _).out.mono ?_;rintro e w2 ⟨rfl,rfl⟩)
   clear m
   revert HO
   generalize World.alloc (World.alloc (World.alloc w _) _) _ = W
   intro HO
   obtain ⟨O1,O2,O3,BEL⟩:=HO.out
   clear HO
   have c1:=(O1.out.cell k).trans (zbo A hk)
   have l2:=O2.out.cell
   have z2:=O2.out.lt
   have z1:=O1.out.lt
   by_cases h:A k < c
   all_goals
     first | have g4:decide (A k < c) = true:=decide_eq_true h | have g4:decide (A k < c) = false:=decide_eq_false h
     first | rw [if_pos h] at hv | rw [if_neg h] at hv
     refine za1 12 (by kernel_rfl) (by kernel_rfl) ?_
     simp only [List.take_succ_cons,List.take_zero,List.drop_succ_cons,List.drop_zero]
     have kw:IntKind.i64.wrap (k:Int) = (k:Int):=by rw [IntKind.wrap_i64];omega
     repeat still_step
     refine wpStill_nil ?_
     clear c1 l2 z2 z1
     replace O1:=y03h (O1.out.later (Below.refl _ _).drew)
     replace O3:=y03h (O3.out.later (Below.refl _ _).drew)
     replace BEL:=y03h (BEL.out.trans ((Below.refl _ _).drew.mono BEL.out.size))
     clear O2 kw
     revert O1 O3 BEL
     generalize W.drew = W2
     intro O1 O3 BEL
     have c1:=(O1.out.cell k).trans (zbo A hk)
     have f1:=O1.out.free k
     have z1:=O1.out.lt
     obtain ⟨F,hF⟩:∃ F:Nat → Int,F = (fun j=>if j = k then v else A j):=⟨_,rfl⟩
     have R1:=O1.out.set k (.int .i64 v)
     rw [zdm _ hk,← hF] at R1
     have he2:=HE.out
     rw [← hF] at he2
     have HE2:=y03h he2
     have R3:=O3.out.setFar ⟨w.heap.size,k,none⟩ (.int .i64 v) (by show w.heap.size + 1 + 1 ≠ w.heap.size;omega)
     have B3:=BEL.out.setCell (p:=⟨w.heap.size,k,none⟩) (Nat.le_refl _) (.int .i64 v)
     have HX:=y03h (show Own _ _ _ _ ∧ Own _ _ _ _ ∧ Below _ _ _ from ⟨R1,R3,B3⟩)
     clear R1 R3 B3 HE hF he2
     rw [hv] at HX
     clear hv
     go_upto_region 3 with fail
     revert HX
     generalize World.setCell _ _ _ = W8
     intro HX
     have HR3:=y03h HX.out.2.1
     have BR:=y03h HX.out.2.2
     clear f1 z1 c1
     have l1:=HX.out.1.cell
     have l3:=HX.out.2.1.cell
     have f3:=HX.out.2.1.free
     have z3:=HX.out.2.1.lt
     have z1:=HX.out.1.lt
     go_wp2_with fail
     have key:=And.intro (zbl HR3.out (.int .i64 (F 0)) (.int .i64 (F 1)) (.int .i64 (F 2)) (.int .i64 (F 3)) (.int .i64 (F 4)) (.int .i64 (F 5)) (.int .i64 (F 6)) (.int .i64 (F 7))) (za3 (b:=w.heap.size + 1 + 1) BR.out (by omega) (.int .i64 (F 0)) (.int .i64 (F 1)) (.int .i64 (F 2)) (.int .i64 (F 3)) (.int .i64 (F 4)) (.int .i64 (F 5)) (.int .i64 (F 6)) (.int .i64 (F 7)))
     clear l1 z1 l3 f3 z3
     unfold st8 at key
     revert key
     generalize World.setCell (World.setCell (World.setCell (World.setCell (World.setCell (World.setCell (World.setCell (World.setCell _ _ _) _ _) _ _) _ _) _ _) _ _) _ _) _ _ = WW
     rintro ⟨of,bf⟩
     have lf:=of.cell
     refine bodyPost_ret (v:=vecV F) (by simp [results,Tryz.results145,go_sem,lf]) rfl ⟨congrArg Ending.returned HE2.out,bf⟩
def mx8 (A B:Nat → Int) (k:Nat) (j:Nat):Int:=if j < k then maxV A B j else A j
theorem zw0 (A B:Nat → Int):arr8 A = arr8 (mx8 A B 0):=zbf fun j _=>by unfold mx8;rw [if_neg (by omega)]
theorem zux (A B:Nat → Int):arr8 (mx8 A B 8) = arr8 (maxV A B):=zbf fun j h=>by unfold mx8;rw [if_pos h]
theorem zzm (A B:Nat → Int) {k:Nat} {v:Int} (hv:v = maxV A B k):arr8 (fun j=>if j = k then v else mx8 A B k j) = arr8 (mx8 A B (k + 1)):=zbf fun j _=>by
 unfold mx8
 by_cases e:j = k
 · subst e;rw [if_pos rfl,if_pos (by omega)];exact hv
 · rw [if_neg e]
   by_cases h:j < k
   · rw [if_pos h,if_pos (by omega)]
   · rw [if_neg h,if_neg (by omega)]
structure CMx (A B:Nat → Int) (k:Nat) (w wr:World):Prop where
 o1:Own wr w.heap.size (arr8 (mx8 A B k)) 28
 o2:Own wr (w.heap.size + 1) (arr8 B) 28
 o3:Own wr (w.heap.size + 1 + 1) (arr8 fun _=>0) 28
 bel:Below w.heap.size w wr
def zz6 (A B:Nat → Int) (w:World) (i:Value) (wr:World):Prop:=∃ k:Nat,k ≤ 8 ∧ i = .int .i64 k ∧ Hid (CMx A B k w wr)
theorem zp5 (A B:Nat → Int) (w:World) :
   Calls Tryz.prog 161 #[vecV A,vecV B] w fun e w'=>e = .returned (vecV (maxV A B)) ∧ Below w.heap.size w w':=by
 have I0:CMx A B 0 w (((w.alloc (.cells (arr8 A) 28)).alloc (.cells (arr8 B) 28)).alloc (.cells (arr8 fun _=>0) 28)) :=
   ⟨by rw [← zw0];exact ((Own.new w _ _).alloc _).alloc _,(Own.newAt _ _ _ (by simp)).alloc _,Own.newAt _ _ _ (by simp),(((Below.refl _ _).alloc (Nat.le_refl _) _).alloc (by simp) _).alloc (by simp;omega) _⟩
 have HI0:=y03h I0
 clear I0
 go_enter Tryz.func161,Tryz.ntmps161
 go_wp2_with fail
 go_loopw [8] (fun i wr=>zz6 A B w i wr) (fun i _=>8 - (intOf i).toNat)
 case atStart=>exact ⟨0,by omega,rfl,HI0⟩
 case round =>
   clear HI0
   obtain ⟨k,hk,rfl,HP⟩:=hrel
   by_cases hlt:k < 8
   · have ix:=fun w=>idx8 B hlt w
     have ca:=(HP.out.o1.cell k).trans (zbo (mx8 A B k) hlt)
     rw [show mx8 A B k k = A k by unfold mx8;rw [if_neg (by omega)]] at ca
     have fa:=HP.out.o1.free k
     have z1:=HP.out.o1.lt
     have k0:(0:Int) ≤ (k:Int):=by omega
     have k1:(k:Int) < 8:=by omega
     have HN:∀ v,v = maxV A B k → Hid (CMx A B (k + 1) w (wr.setCell ⟨w.heap.size,k,none⟩ (.int .i64 v))):=fun v hv=>y03h (by
       refine ⟨?_,HP.out.o2.setFar _ _ (by show w.heap.size + 1 ≠ w.heap.size;omega),HP.out.o3.setFar _ _ (by show w.heap.size + 1 + 1 ≠ w.heap.size;omega),HP.out.bel.setCell (p:=⟨w.heap.size,k,none⟩) (Nat.le_refl _) _⟩
       rw [← zzm A B hv,← zdm _ hlt]
       exact HP.out.o1.set k _)
     by_cases h:A k < B k
     · have g:decide (A k < B k) = true:=decide_eq_true h
       have HR:=HN (B k) (by unfold maxV;rw [if_pos h])
       clear HN
       go_wp2_with fail
       go_roundw
       case rel=>first | exact ⟨k + 1,by omega,by go_num,HR⟩ | exact ⟨k + 1,by omega,by go_num,by rw [show max (A k) (B k) = B k by omega];exact HR⟩
       case measure=>simp [intOf];omega
     · have g:decide (A k < B k) = false:=decide_eq_false h
       have HR:=HN (A k) (by unfold maxV;rw [if_neg h])
       clear HN
       go_wp2_with fail
       go_roundw
       case rel=>first | exact ⟨k + 1,by omega,by go_num,HR⟩ | exact ⟨k + 1,by omega,by go_num,by rw [show max (A k) (B k) = A k by omega];exact HR⟩
       case measure=>simp [intOf];omega
   · have e:k = 8:=by omega
     subst e
     have o1:=HP.out.o1
     rw [zux] at o1
     have l3:=HP.out.o3.cell
     have f3:=HP.out.o3.free
     have z3:=HP.out.o3.lt
     have l4:=o1.cell
     have z4:=o1.lt
     have BEL:=y03h HP.out.bel
     go_wp2_with fail
     have key:=And.intro (zbl HP.out.o3 (.int .i64 ((maxV A B) 0)) (.int .i64 ((maxV A B) 1)) (.int .i64 ((maxV A B) 2)) (.int .i64 ((maxV A B) 3)) (.int .i64 ((maxV A B) 4)) (.int .i64 ((maxV A B) 5)) (.int .i64 ((maxV A B) 6)) (.int .i64 ((maxV A B) 7))) (za3 (b:=w.heap.size + 1 + 1) BEL.out (by omega) (.int .i64 ((maxV A B) 0)) (.int .i64 ((maxV A B) 1)) (.int .i64 ((maxV A B) 2)) (.int .i64 ((maxV A B) 3)) (.int .i64 ((maxV A B) 4)) (.int .i64 ((maxV A B) 5)) (.int .i64 ((maxV A B) 6)) (.int .i64 ((maxV A B) 7)))
     clear l3 f3 z3 l4 z4
     unfold st8 at key
     revert key
     generalize World.setCell (World.setCell (World.setCell (World.setCell (World.setCell (World.setCell (World.setCell (World.setCell _ _ _) _ _) _ _) _ _) _ _) _ _) _ _) _ _ = WW
     rintro ⟨of,bf⟩
     have lf:=of.cell
     refine bodyPost_ret (v:=vecV ((maxV A B))) (by simp [results,Tryz.results161,go_sem,lf]) rfl ⟨rfl,bf⟩
theorem zin (A:Nat → Int) (w:World) :
   Calls Tryz.prog 78 #[vecV A] w fun e w'=>e = .returned (.bool (mayV A)) ∧ Below w.heap.size w w':=by
 go_enter Tryz.func78,Tryz.ntmps78
 go_wp2_with fail
 go_loopw [6] (fun i wr=>zq3 (fun j=>0 ≤ A j ∧ A j ≤ 1000) (w.alloc (.cells (arr8 A) 28)) i wr) (fun i _=>8 - (intOf i).toNat)
 case atStart=>exact ⟨0,by omega,rfl,fun j hj=>absurd hj (by omega),Below.refl _ _⟩
 case round =>
   obtain ⟨k,hk,rfl,HS,hb⟩:=hrel
   have BW:=y03h (zai hb)
   have HB:=y03h hb
   clear hb
   by_cases hlt:k < 8
   · have ix:=fun w=>idx8 A hlt w
     have k0:(0:Int) ≤ (k:Int):=by omega
     have k1:(k:Int) < 8:=by omega
     by_cases h:A k < 0
     · have E:=y03h (ze4 hlt (.inl h))
       have g:decide (A k < 0) = true:=decide_eq_true h
       go_wp2_with fail
       go_ret
       exact ⟨zaa E.out.symm,BW.out⟩
     by_cases h':1000 < A k
     · have E:=y03h (ze4 hlt (.inr h'))
       have g:decide (A k < 0) = false:=decide_eq_false h
       have g':decide (1000 < A k) = true:=decide_eq_true h'
       go_wp2_with fail
       go_ret
       exact ⟨zaa E.out.symm,BW.out⟩
     · have HN:=y03h (zny (P:=fun j=>0 ≤ A j ∧ A j ≤ 1000) HS.out (by omega))
       have g:decide (A k < 0) = false:=decide_eq_false h
       have g':decide (1000 < A k) = false:=decide_eq_false h'
       go_wp2_with fail
       go_roundw
       case rel=>exact ⟨k + 1,by omega,by go_num,HN.out,HB.out⟩
       case measure=>simp [intOf];omega
   · have e:k = 8:=by omega
     subst e
     have E:=y03h (mayV_iff.2 HS.out)
     go_wp2_with fail
     go_ret
     exact ⟨zaa E.out.symm,BW.out⟩
end Go.Proofs.YthnllikalobmeaaGreat
