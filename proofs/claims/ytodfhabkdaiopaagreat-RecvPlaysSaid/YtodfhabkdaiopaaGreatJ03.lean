/- Joined: VecHas, VecMay, VecWith, VecMax. -/
import Derived.Test.YtodfhabkdaiopaaGreatJ02
import Derived.StillTailTactics
namespace Go.Proofs.YtodfhabkdaiopaaGreat
set_option linter.unusedVariables false
set_option linter.unusedSimpArgs false
set_option maxRecDepth 100000
set_option maxHeartbeats 8000000
open Go.RowKit
theorem y03h {p:Prop} (h:p):Go.RowKit.Hid p:=Lib.hid h
theorem zip (A:Nat→Int) (r c:Int) (w:World) :
   Calls Tryz.prog 123 #[vecV A,.agg #[.int .i64 r,.int .i64 c]] w fun e w'=>e=.returned (.bool (hasV A r c))∧Below w.heap.size w w':=by
 have G1:=y03h ((Has.new w (arr8 A) 35).alloc (.cells #[.int .i64 r,.int .i64 c] 52))
 have G2:=y03h ((Own.newAt (w.alloc (.cells (arr8 A) 35)) #[.int .i64 r,.int .i64 c] 52 (b:=w.heap.size + 1) (by simp)).has)
 have LA:=fun dd os o=>G1.out.regrown dd os o
 have LB:=fun dd os o=>G2.out.regrown dd os o
 have m:=fun dd os=>y03h (Calls.regrown_of (znk r (Sort.grow (redrawn ((w.alloc (.cells (arr8 A) 35)).alloc (.cells #[.int .i64 r,.int .i64 c] 52)) dd) os)))
 by_cases h:r < 1 ∨ 8 < r
 · have E:=y03h (zyx (A:=A) (c:=c) h)
   have e:=zut h
   clear h
   rw [e] at m
   clear e
   cases hg:decide (1≤c)
   all_goals
     go_enter Tryz.func123,Tryz.ntmps123
     go_wp2_with fail
     refine wp_region_quiet_below (by kernel_rfl) (by kernel_rfl) ?_
     repeat (first | go_big_quiet_step ((with_reducible exact (m _ _).out)) | quiet_step (with_reducible exact (m _ _).out))
     refine wpQuiet_nil ?_
     intro w7 hw'
     have hb':=y03h (zag hw')
     clear hw'
     go_wp2_with fail
     go_ret
     exact ⟨zac E.out.symm,zai (zai hb'.out)⟩
 · obtain ⟨k,rfl⟩:∃ k:Nat,r=(k:Int) + 1:=⟨(r - 1).toNat,by omega⟩
   have hk:k < 8:=by omega
   clear h
   have e:=zq7 hk
   rw [e] at m
   clear e
   have E:=y03h (show hasV A ((k:Int) + 1) c=(decide (1≤c) && decide (c≤A k)) by unfold hasV;rw [zs7 hk])
   have g3:(k:Int) + 1 - 1=(k:Int):=by omega
   have LC:=fun dd os=>(G1.out.regrown dd os k).trans (zca A hk)
   clear LA
   have k0:(0:Int)≤(k:Int):=by omega
   have k1:(k:Int) < 8:=by omega
   generalize hasV A ((k:Int) + 1) c=R at *
   cases hg:decide (1≤c)
   all_goals
     go_enter Tryz.func123,Tryz.ntmps123
     go_wp2_with fail
     refine wp_region_quiet_below (by kernel_rfl) (by kernel_rfl) ?_
     repeat (first | go_big_quiet_step ((with_reducible exact (m _ _).out)) | quiet_step (with_reducible exact (m _ _).out))
     refine wpQuiet_nil ?_
     intro w7 hw'
     have hb':=y03h (zag hw')
     clear hw'
     go_wp2_with fail
     go_ret
     exact ⟨zac (by rw [E.out,hg];simp),zai (zai hb'.out)⟩
theorem znl (A:Nat→Int) (r c:Int) (w:World) :
   Calls Tryz.prog 140 #[vecV A,.agg #[.int .i64 r,.int .i64 c]] w fun e w'=>e=.returned (vecV (zav A r c))∧Below w.heap.size w w':=by
 have O1:=y03h (((Own.new w (arr8 A) 35).alloc (.cells #[.int .i64 r,.int .i64 c] 52)).alloc (.cells (arr8 fun _=>0) 35))
 have O2:=y03h ((Own.newAt (w.alloc (.cells (arr8 A) 35)) #[.int .i64 r,.int .i64 c] 52 (b:=w.heap.size + 1) (by simp)).alloc (.cells (arr8 fun _=>0) 35))
 have O3:=y03h (Own.newAt ((w.alloc (.cells (arr8 A) 35)).alloc (.cells #[.int .i64 r,.int .i64 c] 52)) (arr8 fun _=>0) 35 (b:=w.heap.size + 1 + 1) (by simp))
 have BEL:=y03h ((((Below.refl w.heap.size w).alloc (Nat.le_refl _) (.cells (arr8 A) 35)).alloc (by simp) (.cells #[.int .i64 r,.int .i64 c] 52)).alloc (by simp;omega) (.cells (arr8 fun _=>0) 35))
 have m:=fun W=>y03h (zhw r W)
 by_cases h:r < 1 ∨ 8 < r
 · have HE:=y03h (zkb (A:=A) (r:=r) (c:=c) h)
   have e:=zut h
   clear h
   rw [e] at m
   clear e
   have l1:=O1.out.cell
   have z1:=O1.out.lt
   have l3:=O3.out.cell
   have f3:=O3.out.free
   have z3:=O3.out.lt
   have BEL2:=y03h ((((Below.refl w.heap.size w).alloc (Nat.le_refl _) (.cells (arr8 A) 35)).alloc (by simp) (.cells #[.int .i64 r,.int .i64 c] 52)).alloc (by simp;omega) (.cells (arr8 A) 35))
   go_enter Tryz.func140,Tryz.ntmps140
   go_wp2_with (go_at_call 181;refine (m _).out.mono ?_;rintro e w2 ⟨rfl,rfl⟩)
   have lf:=(Own.newAt ((w.alloc (.cells (arr8 A) 35)).alloc (.cells #[.int .i64 r,.int .i64 c] 52)) (arr8 A) 35 (b:=w.heap.size + 1 + 1) (by simp)).cell
   refine bodyPost_ret (v:=vecV A) (by simp [results,Tryz.results140,go_sem,lf]) rfl ⟨congrArg Ending.returned HE.out,BEL2.out⟩
 · obtain ⟨k,rfl⟩:∃ k:Nat,r=(k:Int) + 1:=⟨(r - 1).toNat,by omega⟩
   have hk:k < 8:=by omega
   clear h
   have e:=zq7 hk
   rw [e] at m
   clear e
   have g3:(k:Int) + 1 - 1=(k:Int):=by omega
   have k0:(0:Int)≤(k:Int):=by omega
   have k1:(k:Int) < 8:=by omega
   obtain ⟨v,hv⟩:∃ v:Int,v=if A k < c then c else A k:=⟨_,rfl⟩
   have HE:=y03h (show vecV (fun j=>if j=k then v else A j)=vecV (zav A ((k:Int) + 1) c) by
     rw [hv]
     split
     · rename_i h;exact zra hk h
     · rename_i h
       rw [← zrb (A:=A) (k:=k) (c:=c) (by omega)]
       exact zf6 fun j _=>by
         by_cases e:j=k
         · rw [if_pos e,e]
         · rw [if_neg e])
   have HO:=y03h (And.intro O1 (And.intro O2 (And.intro O3 BEL)))
   clear O1 O2 O3 BEL
   go_enter Tryz.func140,Tryz.ntmps140
   go_upto_region 2 with (go_at_call 181;refine (m _).out.mono ?_;rintro e w2 ⟨rfl,rfl⟩)
   clear m
   revert HO
   generalize World.alloc (World.alloc (World.alloc w _) _) _=W
   intro HO
   obtain ⟨O1,O2,O3,BEL⟩:=HO.out
   clear HO
   have c1:=(O1.out.cell k).trans (zca A hk)
   have l2:=O2.out.cell
   have z2:=O2.out.lt
   have z1:=O1.out.lt
   by_cases h:A k < c
   all_goals
     first | have g4:decide (A k < c)=true:=decide_eq_true h | have g4:decide (A k < c)=false:=decide_eq_false h
     first | rw [if_pos h] at hv | rw [if_neg h] at hv
     refine za2 12 (by kernel_rfl) (by kernel_rfl) ?_
     simp only [List.take_succ_cons,List.take_zero,List.drop_succ_cons,List.drop_zero]
     have kw:IntKind.i64.wrap (k:Int)=(k:Int):=by rw [IntKind.wrap_i64];omega
     repeat still_step
     refine wpStill_nil ?_
     clear c1 l2 z2 z1
     replace O1:=y03h (O1.out.later (Below.refl _ _).drew)
     replace O3:=y03h (O3.out.later (Below.refl _ _).drew)
     replace BEL:=y03h (BEL.out.trans ((Below.refl _ _).drew.mono BEL.out.size))
     clear O2 kw
     revert O1 O3 BEL
     generalize W.drew=W2
     intro O1 O3 BEL
     have c1:=(O1.out.cell k).trans (zca A hk)
     have f1:=O1.out.free k
     have z1:=O1.out.lt
     obtain ⟨F,hF⟩:∃ F:Nat→Int,F=(fun j=>if j=k then v else A j):=⟨_,rfl⟩
     have R1:=O1.out.set k (.int .i64 v)
     rw [zd6 _ hk,← hF] at R1
     have he2:=HE.out
     rw [← hF] at he2
     have HE2:=y03h he2
     have R3:=O3.out.setFar ⟨w.heap.size,k,none⟩ (.int .i64 v) (by show w.heap.size + 1 + 1 ≠ w.heap.size;omega)
     have B3:=BEL.out.setCell (p:=⟨w.heap.size,k,none⟩) (Nat.le_refl _) (.int .i64 v)
     have HX:=y03h (show Own _ _ _ _∧Own _ _ _ _∧Below _ _ _ from ⟨R1,R3,B3⟩)
     clear R1 R3 B3 HE hF he2
     rw [hv] at HX
     clear hv
     go_upto_region 3 with fail
     revert HX
     generalize World.setCell _ _ _=W8
     intro HX
     have HR3:=y03h HX.out.2.1
     have BR:=y03h HX.out.2.2
     clear f1 z1 c1
     have l1:=HX.out.1.cell
     have l3:=HX.out.2.1.cell
     have f3:=HX.out.2.1.free
     have z3:=HX.out.2.1.lt
     have z1:=HX.out.1.lt
     go_wp2_with fail
     have key:=And.intro (zbr HR3.out (.int .i64 (F 0)) (.int .i64 (F 1)) (.int .i64 (F 2)) (.int .i64 (F 3)) (.int .i64 (F 4)) (.int .i64 (F 5)) (.int .i64 (F 6)) (.int .i64 (F 7))) (za5 (b:=w.heap.size + 1 + 1) BR.out (by omega) (.int .i64 (F 0)) (.int .i64 (F 1)) (.int .i64 (F 2)) (.int .i64 (F 3)) (.int .i64 (F 4)) (.int .i64 (F 5)) (.int .i64 (F 6)) (.int .i64 (F 7)))
     clear l1 z1 l3 f3 z3
     unfold st8 at key
     revert key
     generalize World.setCell (World.setCell (World.setCell (World.setCell (World.setCell (World.setCell (World.setCell (World.setCell _ _ _) _ _) _ _) _ _) _ _) _ _) _ _) _ _=WW
     rintro ⟨of,bf⟩
     have lf:=of.cell
     refine bodyPost_ret (v:=vecV F) (by simp [results,Tryz.results140,go_sem,lf]) rfl ⟨congrArg Ending.returned HE2.out,bf⟩
def mx8 (A B:Nat→Int) (k:Nat) (j:Nat):Int:=if j < k then maxV A B j else A j
theorem zwi (A B:Nat→Int):arr8 A=arr8 (mx8 A B 0):=zbj fun j _=>by unfold mx8;rw [if_neg (by omega)]
theorem zud (A B:Nat→Int):arr8 (mx8 A B 8)=arr8 (maxV A B):=zbj fun j h=>by unfold mx8;rw [if_pos h]
theorem zy4 (A B:Nat→Int) {k:Nat} {v:Int} (hv:v=maxV A B k):arr8 (fun j=>if j=k then v else mx8 A B k j)=arr8 (mx8 A B (k + 1)):=zbj fun j _=>by
 unfold mx8
 by_cases e:j=k
 · subst e;rw [if_pos rfl,if_pos (by omega)];exact hv
 · rw [if_neg e]
   by_cases h:j < k
   · rw [if_pos h,if_pos (by omega)]
   · rw [if_neg h,if_neg (by omega)]
structure CMx (A B:Nat→Int) (k:Nat) (w wr:World):Prop where
 o1:Own wr w.heap.size (arr8 (mx8 A B k)) 35
 o2:Own wr (w.heap.size + 1) (arr8 B) 35
 o3:Own wr (w.heap.size + 1 + 1) (arr8 fun _=>0) 35
 bel:Below w.heap.size w wr
def zzo (A B:Nat→Int) (w:World) (i:Value) (wr:World):Prop:=∃ k:Nat,k≤8∧i=.int .i64 k∧Hid (CMx A B k w wr)
theorem zpi (A B:Nat→Int) (w:World) :
   Calls Tryz.prog 223 #[vecV A,vecV B] w fun e w'=>e=.returned (vecV (maxV A B))∧Below w.heap.size w w':=by
 have I0:CMx A B 0 w (((w.alloc (.cells (arr8 A) 35)).alloc (.cells (arr8 B) 35)).alloc (.cells (arr8 fun _=>0) 35)) :=
   ⟨by rw [← zwi];exact ((Own.new w _ _).alloc _).alloc _,(Own.newAt _ _ _ (by simp)).alloc _,Own.newAt _ _ _ (by simp),(((Below.refl _ _).alloc (Nat.le_refl _) _).alloc (by simp) _).alloc (by simp;omega) _⟩
 have HI0:=y03h I0
 clear I0
 go_enter Tryz.func223,Tryz.ntmps223
 go_wp2_with fail
 go_loopw [8] (fun i wr=>zzo A B w i wr) (fun i _=>8 - (intOf i).toNat)
 case atStart=>exact ⟨0,by omega,rfl,HI0⟩
 case round =>
   clear HI0
   obtain ⟨k,hk,rfl,HP⟩:=hrel
   by_cases hlt:k < 8
   · have ix:=fun w=>idx8 B hlt w
     have ca:=(HP.out.o1.cell k).trans (zca (mx8 A B k) hlt)
     rw [show mx8 A B k k=A k by unfold mx8;rw [if_neg (by omega)]] at ca
     have fa:=HP.out.o1.free k
     have z1:=HP.out.o1.lt
     have k0:(0:Int)≤(k:Int):=by omega
     have k1:(k:Int) < 8:=by omega
     have HN:∀ v,v=maxV A B k→Hid (CMx A B (k + 1) w (wr.setCell ⟨w.heap.size,k,none⟩ (.int .i64 v))):=fun v hv=>y03h (by
       refine ⟨?_,HP.out.o2.setFar _ _ (by show w.heap.size + 1 ≠ w.heap.size;omega),HP.out.o3.setFar _ _ (by show w.heap.size + 1 + 1 ≠ w.heap.size;omega),HP.out.bel.setCell (p:=⟨w.heap.size,k,none⟩) (Nat.le_refl _) _⟩
       rw [← zy4 A B hv,← zd6 _ hlt]
       exact HP.out.o1.set k _)
     by_cases h:A k < B k
     · have g:decide (A k < B k)=true:=decide_eq_true h
       have HR:=HN (B k) (by unfold maxV;rw [if_pos h])
       clear HN
       go_wp2_with fail
       go_roundw
       case rel=>first | exact ⟨k + 1,by omega,by go_num,HR⟩ | exact ⟨k + 1,by omega,by go_num,by rw [show max (A k) (B k)=B k by omega];exact HR⟩
       case measure=>simp [intOf];omega
     · have g:decide (A k < B k)=false:=decide_eq_false h
       have HR:=HN (A k) (by unfold maxV;rw [if_neg h])
       clear HN
       go_wp2_with fail
       go_roundw
       case rel=>first | exact ⟨k + 1,by omega,by go_num,HR⟩ | exact ⟨k + 1,by omega,by go_num,by rw [show max (A k) (B k)=A k by omega];exact HR⟩
       case measure=>simp [intOf];omega
   · have e:k=8:=by omega
     subst e
     have o1:=HP.out.o1
     rw [zud] at o1
     have l3:=HP.out.o3.cell
     have f3:=HP.out.o3.free
     have z3:=HP.out.o3.lt
     have l4:=o1.cell
     have z4:=o1.lt
     have BEL:=y03h HP.out.bel
     go_wp2_with fail
     have key:=And.intro (zbr HP.out.o3 (.int .i64 ((maxV A B) 0)) (.int .i64 ((maxV A B) 1)) (.int .i64 ((maxV A B) 2)) (.int .i64 ((maxV A B) 3)) (.int .i64 ((maxV A B) 4)) (.int .i64 ((maxV A B) 5)) (.int .i64 ((maxV A B) 6)) (.int .i64 ((maxV A B) 7))) (za5 (b:=w.heap.size + 1 + 1) BEL.out (by omega) (.int .i64 ((maxV A B) 0)) (.int .i64 ((maxV A B) 1)) (.int .i64 ((maxV A B) 2)) (.int .i64 ((maxV A B) 3)) (.int .i64 ((maxV A B) 4)) (.int .i64 ((maxV A B) 5)) (.int .i64 ((maxV A B) 6)) (.int .i64 ((maxV A B) 7)))
     clear l3 f3 z3 l4 z4
     unfold st8 at key
     revert key
     generalize World.setCell (World.setCell (World.setCell (World.setCell (World.setCell (World.setCell (World.setCell (World.setCell _ _ _) _ _) _ _) _ _) _ _) _ _) _ _) _ _=WW
     rintro ⟨of,bf⟩
     have lf:=of.cell
     refine bodyPost_ret (v:=vecV ((maxV A B))) (by simp [results,Tryz.results223,go_sem,lf]) rfl ⟨rfl,bf⟩
end Go.Proofs.YtodfhabkdaiopaaGreat
