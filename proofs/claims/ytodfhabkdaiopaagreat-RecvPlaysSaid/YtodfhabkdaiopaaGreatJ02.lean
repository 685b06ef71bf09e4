/- Joined: Set8, VecI, VecRep, RefVec2. -/
import Derived.Test.YtodfhabkdaiopaaGreatJ01
namespace Go.Proofs.YtodfhabkdaiopaaGreat
set_option linter.unusedVariables false
set_option linter.unusedSimpArgs false
set_option maxRecDepth 100000
set_option maxHeartbeats 8000000
open Go.RowKit
theorem y02h {p:Prop} (h:p):Go.RowKit.Hid p:=Lib.hid h
def st8 (X:World) (b:Nat) (c0 c1 c2 c3 c4 c5 c6 c7:Value):World:=((((((((X.setCell ⟨b,0,none⟩ c0).setCell ⟨b,1,none⟩ c1).setCell ⟨b,2,none⟩ c2).setCell ⟨b,3,none⟩ c3).setCell ⟨b,4,none⟩ c4).setCell ⟨b,5,none⟩ c5).setCell ⟨b,6,none⟩ c6).setCell ⟨b,7,none⟩ c7)
theorem z1s (z0 z1 z2 z3 z4 z5 z6 z7 c0 c1 c2 c3 c4 c5 c6 c7:Value):(((((((((#[z0,z1,z2,z3,z4,z5,z6,z7]:Array Value).setIfInBounds 0 c0).setIfInBounds 1 c1).setIfInBounds 2 c2).setIfInBounds 3 c3).setIfInBounds 4 c4).setIfInBounds 5 c5).setIfInBounds 6 c6).setIfInBounds 7 c7)=#[c0,c1,c2,c3,c4,c5,c6,c7]:=by simp
theorem zbr {X:World} {b:Nat} {z0 z1 z2 z3 z4 z5 z6 z7:Value} {T:TypeId} (o:Own X b #[z0,z1,z2,z3,z4,z5,z6,z7] T) (c0 c1 c2 c3 c4 c5 c6 c7:Value):Own (st8 X b c0 c1 c2 c3 c4 c5 c6 c7) b #[c0,c1,c2,c3,c4,c5,c6,c7] T:=by
 have h:=((((((((o.set 0 c0).set 1 c1).set 2 c2).set 3 c3).set 4 c4).set 5 c5).set 6 c6).set 7 c7)
 rw [z1s] at h
 exact h
theorem za5 {w X:World} {B b:Nat} (hb:Below B w X) (hp:B≤b) (c0 c1 c2 c3 c4 c5 c6 c7:Value):Below B w (st8 X b c0 c1 c2 c3 c4 c5 c6 c7):=by
 unfold st8
 exact ((((((((hb.setCell (p:=⟨b,0,none⟩) hp c0).setCell (p:=⟨b,1,none⟩) hp c1).setCell (p:=⟨b,2,none⟩) hp c2).setCell (p:=⟨b,3,none⟩) hp c3).setCell (p:=⟨b,4,none⟩) hp c4).setCell (p:=⟨b,5,none⟩) hp c5).setCell (p:=⟨b,6,none⟩) hp c6).setCell (p:=⟨b,7,none⟩) hp c7)
theorem z0c (A:Nat→Int) (w:World):(Instr.index 35 (vecV A) (.int .i64 0)).run Tryz.prog w=.ok (.int .i64 (A 0)) w:=by kernel_rfl
theorem z0d (A:Nat→Int) (w:World):(Instr.index 35 (vecV A) (.int .i64 1)).run Tryz.prog w=.ok (.int .i64 (A 1)) w:=by kernel_rfl
theorem z0e (A:Nat→Int) (w:World):(Instr.index 35 (vecV A) (.int .i64 2)).run Tryz.prog w=.ok (.int .i64 (A 2)) w:=by kernel_rfl
theorem z0f (A:Nat→Int) (w:World):(Instr.index 35 (vecV A) (.int .i64 3)).run Tryz.prog w=.ok (.int .i64 (A 3)) w:=by kernel_rfl
theorem z0g (A:Nat→Int) (w:World):(Instr.index 35 (vecV A) (.int .i64 4)).run Tryz.prog w=.ok (.int .i64 (A 4)) w:=by kernel_rfl
theorem z0h (A:Nat→Int) (w:World):(Instr.index 35 (vecV A) (.int .i64 5)).run Tryz.prog w=.ok (.int .i64 (A 5)) w:=by kernel_rfl
theorem z0i (A:Nat→Int) (w:World):(Instr.index 35 (vecV A) (.int .i64 6)).run Tryz.prog w=.ok (.int .i64 (A 6)) w:=by kernel_rfl
theorem z0j (A:Nat→Int) (w:World):(Instr.index 35 (vecV A) (.int .i64 7)).run Tryz.prog w=.ok (.int .i64 (A 7)) w:=by kernel_rfl
theorem idx8 (A:Nat→Int) {k:Nat} (h:k < 8) (w:World):(Instr.index 35 (vecV A) (.int .i64 (k:Int))).run Tryz.prog w=.ok (.int .i64 (A k)) w:=by
 match k,h with
 | 0,_=>exact z0c A w
 | 1,_=>exact z0d A w
 | 2,_=>exact z0e A w
 | 3,_=>exact z0f A w
 | 4,_=>exact z0g A w
 | 5,_=>exact z0h A w
 | 6,_=>exact z0i A w
 | 7,_=>exact z0j A w
def repB (r:Int):Bool:=decide (1≤r) && decide (r≤8)
theorem zhw (r:Int) (w:World) :
   Calls Tryz.prog 181 #[.int .i64 r] w fun e w'=>e=.returned (.bool (repB r))∧w'=w:=by
 unfold repB
 cases g1:decide (1≤r)
 all_goals
   cases g2:decide (r≤8)
   all_goals
     go_enter Tryz.func181,Tryz.ntmps181
     go_wp2_with fail
     go_ret
     simp
theorem znk (r:Int) (w:World) :
   Calls Tryz.prog 181 #[.int .i64 r] w fun e w'=>e=.returned (.bool (repB r))∧Below w.heap.size w w' :=
 (zhw r w).mono (by rintro e w' ⟨h,rfl⟩;exact ⟨h,Below.refl _ _⟩)
theorem zut {r:Int} (h:r < 1 ∨ 8 < r):repB r=false:=by
 unfold repB
 rcases h with h | h
 · rw [show decide (1≤r)=false from decide_eq_false (by omega)];rfl
 · rw [show decide (r≤8)=false from decide_eq_false (by omega)];simp
theorem zq7 {k:Nat} (h:k < 8):repB ((k:Int) + 1)=true:=by
 unfold repB
 rw [show decide (1≤(k:Int) + 1)=true from decide_eq_true (by omega),show decide ((k:Int) + 1≤8)=true from decide_eq_true (by omega)]
 rfl
theorem zyx {A:Nat→Int} {r c:Int} (h:r < 1 ∨ 8 < r):hasV A r c=false:=by
 unfold hasV
 rw [zlp h]
 by_cases h1:1≤c
 · rw [show decide (c≤0)=false from decide_eq_false (by omega)];simp
 · rw [decide_eq_false h1];rfl
theorem zvf (M:Nat→Int):arr8 (fun _=>0)=arr8 (upTo 0 M):=zbj fun j _=>by unfold upTo;rw [if_neg (by omega)]
theorem zsy (M:Nat→Int):arr8 (upTo 8 M)=arr8 M:=zbj fun j h=>by unfold upTo;rw [if_pos h]
theorem zkb {A:Nat→Int} {r c:Int} (h:r < 1 ∨ 8 < r):vecV A=vecV (zav A r c):=zf6 fun j _=>by unfold zav;rw [if_neg (by omega)]
theorem zrb {A:Nat→Int} {c:Int} {k:Nat} (hc:c≤A k):vecV A=vecV (zav A ((k:Int) + 1) c):=zf6 fun j _=>by
 unfold zav
 rw [if_neg]
 rintro ⟨h1,_,_,h2⟩
 have e:((k:Int) + 1 - 1).toNat=k:=by omega
 rw [e] at h1;subst h1;omega
theorem zra {A:Nat→Int} {c:Int} {k:Nat} (hk:k < 8) (hc:A k < c):vecV (fun j=>if j=k then c else A j)=vecV (zav A ((k:Int) + 1) c):=zf6 fun j _=>by
 have e:((k:Int) + 1 - 1).toNat=k:=by omega
 unfold zav
 rw [e]
 by_cases h:j=k
 · subst h;rw [if_pos rfl,if_pos ⟨rfl,by omega,by omega,hc⟩]
 · rw [if_neg h,if_neg (fun h'=>h h'.1)]
theorem zo5 (A B:Nat→Int) (w:World) :
   Calls Tryz.prog 178 #[vecV A,vecV B] w fun e w'=>e=.returned (vecV (maxV A B))∧Below w.heap.size w w':=by
 have I0:MSt A B (maxV A B) 0 w ((((w.alloc (.cells (arr8 A) 35)).alloc (.cells (arr8 B) 35)).alloc (.cells (arr8 fun _=>0) 35)).alloc (.cells (arr8 fun _=>0) 35)) :=
   ⟨(((Own.new w _ _).alloc _).alloc _).alloc _,((Own.newAt _ _ _ (by simp)).alloc _).alloc _,(Own.newAt _ _ _ (by simp)).alloc _,by rw [← zvf];exact Own.newAt _ _ _ (by simp),((((Below.refl _ _).alloc (Nat.le_refl _) _).alloc (by simp) _).alloc (by simp;omega) _).alloc (by simp;omega) _⟩
 have HI0:=y02h I0
 clear I0
 go_enter Tryz.func178,Tryz.ntmps178
 go_wp2_with fail
 go_loopw [6] (fun i wr=>z1b A B (maxV A B) w i wr) (fun i _=>8 - (intOf i).toNat)
 case atStart=>exact ⟨0,by omega,rfl,HI0⟩
 case round =>
   clear HI0
   obtain ⟨k,hk,rfl,HP⟩:=hrel
   by_cases hlt:k < 8
   · have ca:=(HP.out.o1.cell k).trans (zca A hlt)
     have c4:=(HP.out.o4.cell k).trans (zca (upTo k (maxV A B)) hlt)
     have f4:=HP.out.o4.free k
     have z1:=HP.out.o1.lt
     have z2:=HP.out.o2.lt
     have z3:=HP.out.o3.lt
     have z4:=HP.out.o4.lt
     have k0:(0:Int)≤(k:Int):=by omega
     have k1:(k:Int) < 8:=by omega
     -- behind the first store
     have P1:=(HP.out.put hlt (A k)).1
     have b1:=HP.out.bel.setCell (p:=⟨w.heap.size + 1 + 1 + 1,k,none⟩) (by show w.heap.size≤w.heap.size + 1 + 1 + 1;omega) (.int .i64 (A k))
     have q1:=HP.out.o1.setFar ⟨w.heap.size + 1 + 1 + 1,k,none⟩ (.int .i64 (A k)) (by show w.heap.size ≠ w.heap.size + 1 + 1 + 1;omega)
     have q2:=HP.out.o2.setFar ⟨w.heap.size + 1 + 1 + 1,k,none⟩ (.int .i64 (A k)) (by show w.heap.size + 1 ≠ w.heap.size + 1 + 1 + 1;omega)
     have q3:=HP.out.o3.setFar ⟨w.heap.size + 1 + 1 + 1,k,none⟩ (.int .i64 (A k)) (by show w.heap.size + 1 + 1 ≠ w.heap.size + 1 + 1 + 1;omega)
     have HQ:=y02h (show Own _ _ _ _∧Own _ _ _ _∧Own _ _ _ _∧Own _ _ _ _∧Below _ _ _ from ⟨q1,q2,q3,P1,b1⟩)
     clear P1 b1 q1 q2 q3
     have LA:=fun dd os=>(HQ.out.1.has.regrown dd os k).trans (zca A hlt)
     have LB:=fun dd os=>(HQ.out.2.1.has.regrown dd os k).trans (zca B hlt)
     by_cases h:A k < B k
     · have g:decide (A k < B k)=true:=decide_eq_true h
       have hm:maxV A B k=B k:=by unfold maxV;rw [if_pos h]
       go_wp2_with fail
       refine wp_region_quiet_below (by kernel_rfl) (by kernel_rfl) ?_
       repeat (first | go_big_quiet_step (fail) | quiet_step (fail))
       refine wpQuiet_nil ?_
       intro w7 hw'
       have hb':=y02h (zag hw')
       clear hw'
       clear LA LB
       have O1:=HQ.out.1.later hb'.out
       have O2:=HQ.out.2.1.later hb'.out
       have O3:=HQ.out.2.2.1.later hb'.out
       have O4:=HQ.out.2.2.2.1.later hb'.out
       have B4:=HQ.out.2.2.2.2.trans (hb'.out.mono HQ.out.2.2.2.2.size)
       have cb:=(O2.cell k).trans (zca B hlt)
       have c5:=(O4.cell k).trans (zca _ hlt)
       have f5:=O4.free k
       have y2:=O2.lt
       have y4:=O4.lt
       have R1:=O1.setFar ⟨w.heap.size + 1 + 1 + 1,k,none⟩ (.int .i64 (B k)) (by show w.heap.size ≠ w.heap.size + 1 + 1 + 1;omega)
       have R2:=O2.setFar ⟨w.heap.size + 1 + 1 + 1,k,none⟩ (.int .i64 (B k)) (by show w.heap.size + 1 ≠ w.heap.size + 1 + 1 + 1;omega)
       have R3:=O3.setFar ⟨w.heap.size + 1 + 1 + 1,k,none⟩ (.int .i64 (B k)) (by show w.heap.size + 1 + 1 ≠ w.heap.size + 1 + 1 + 1;omega)
       have R4:=O4.set k (.int .i64 (B k))
       rw [zd6 _ hlt] at R4
       have R5:=B4.setCell (p:=⟨w.heap.size + 1 + 1 + 1,k,none⟩) (by show w.heap.size≤w.heap.size + 1 + 1 + 1;omega) (.int .i64 (B k))
       have HR:=y02h (HP.out.step R1 R2 R3 (by
         have e:arr8 (fun j=>if j=k then B k else (fun j=>if j=k then A k else upTo k (maxV A B) j) j)=arr8 (fun j=>if j=k then maxV A B k else upTo k (maxV A B) j):=zbj fun j _=>by
           by_cases hj:j=k
           · simp [hj,hm]
           · simp [hj]
         rw [← e];exact R4) R5)
       clear O1 O2 O3 O4 B4 R1 R2 R3 R4 R5 ca c4 f4
       go_wp2_with fail
       go_roundw
       case rel=>exact ⟨k + 1,by omega,by go_num,HR⟩
       case measure=>simp [intOf];omega
     · have g:decide (A k < B k)=false:=decide_eq_false h
       have hm:maxV A B k=A k:=by unfold maxV;rw [if_neg h]
       have HS:=y02h (HP.out.step HQ.out.1 HQ.out.2.1 HQ.out.2.2.1 (by rw [hm];exact HQ.out.2.2.2.1) HQ.out.2.2.2.2)
       go_wp2_with fail
       refine wp_region_quiet_below (by kernel_rfl) (by kernel_rfl) ?_
       repeat (first | go_big_quiet_step (fail) | quiet_step (fail))
       refine wpQuiet_nil ?_
       intro w7 hw'
       have hb':=y02h (zag hw')
       clear hw'
       clear LA LB ca c4 f4
       go_wp2_with fail
       go_roundw
       case rel=>exact ⟨k + 1,by omega,by go_num,y02h (HS.out.later hb'.out)⟩
       case measure=>simp [intOf];omega
   · have e:k=8:=by omega
     subst e
     have o4:=HP.out.o4
     rw [zsy] at o4
     have l3:=HP.out.o3.cell
     have f3:=HP.out.o3.free
     have z3:=HP.out.o3.lt
     have l4:=o4.cell
     have z4:=o4.lt
     have BEL:=y02h HP.out.bel
     go_wp2_with fail
     have key:=And.intro (zbr HP.out.o3 (.int .i64 ((maxV A B) 0)) (.int .i64 ((maxV A B) 1)) (.int .i64 ((maxV A B) 2)) (.int .i64 ((maxV A B) 3)) (.int .i64 ((maxV A B) 4)) (.int .i64 ((maxV A B) 5)) (.int .i64 ((maxV A B) 6)) (.int .i64 ((maxV A B) 7))) (za5 (b:=w.heap.size + 1 + 1) BEL.out (by omega) (.int .i64 ((maxV A B) 0)) (.int .i64 ((maxV A B) 1)) (.int .i64 ((maxV A B) 2)) (.int .i64 ((maxV A B) 3)) (.int .i64 ((maxV A B) 4)) (.int .i64 ((maxV A B) 5)) (.int .i64 ((maxV A B) 6)) (.int .i64 ((maxV A B) 7)))
     clear l3 f3 z3 l4 z4
     unfold st8 at key
     revert key
     generalize World.setCell (World.setCell (World.setCell (World.setCell (World.setCell (World.setCell (World.setCell (World.setCell _ _ _) _ _) _ _) _ _) _ _) _ _) _ _) _ _=WW
     rintro ⟨of,bf⟩
     have lf:=of.cell
     refine bodyPost_ret (v:=vecV ((maxV A B))) (by simp [results,Tryz.results178,go_sem,lf]) rfl ⟨rfl,bf⟩
theorem zhv (A:Nat→Int) (r c:Int) (w:World) :
   Calls Tryz.prog 146 #[vecV A,.agg #[.int .i64 r,.int .i64 c]] w fun e w'=>e=.returned (vecV (zav A r c))∧Below w.heap.size w w':=by
 have O1:=y02h (((Own.new w (arr8 A) 35).alloc (.cells #[.int .i64 r,.int .i64 c] 52)).alloc (.cells (arr8 fun _=>0) 35))
 have O2:=y02h ((Own.newAt (w.alloc (.cells (arr8 A) 35)) #[.int .i64 r,.int .i64 c] 52 (b:=w.heap.size + 1) (by simp)).alloc (.cells (arr8 fun _=>0) 35))
 have O3:=y02h (Own.newAt ((w.alloc (.cells (arr8 A) 35)).alloc (.cells #[.int .i64 r,.int .i64 c] 52)) (arr8 fun _=>0) 35 (b:=w.heap.size + 1 + 1) (by simp))
 have BEL:=y02h ((((Below.refl w.heap.size w).alloc (Nat.le_refl _) (.cells (arr8 A) 35)).alloc (by simp) (.cells #[.int .i64 r,.int .i64 c] 52)).alloc (by simp;omega) (.cells (arr8 fun _=>0) 35))
 have LB:=fun dd os o=>O2.out.has.regrown dd os o
 by_cases h1:r < 1
 · have HE:=y02h (zkb (A:=A) (r:=r) (c:=c) (.inl h1))
   have g1:decide (r < 1)=true:=decide_eq_true h1
   go_enter Tryz.func146,Tryz.ntmps146
   go_wp2_with fail
   refine wp_region_quiet_below (by kernel_rfl) (by kernel_rfl) ?_
   repeat (first | go_big_quiet_step (fail) | quiet_step (fail))
   refine wpQuiet_nil ?_
   intro w7 hw'
   have hb':=y02h (zag hw')
   clear hw'
   clear LB
   replace O1:=y02h (O1.out.later hb'.out)
   replace O2:=y02h (O2.out.later hb'.out)
   replace O3:=y02h (O3.out.later hb'.out)
   replace BEL:=y02h (BEL.out.trans (hb'.out.mono BEL.out.size))
   have l1:=O1.out.cell
   have z1:=O1.out.lt
   have l3:=O3.out.cell
   have f3:=O3.out.free
   have z3:=O3.out.lt
   go_wp2_with fail
   have key:=And.intro (zbr O3.out (.int .i64 (A 0)) (.int .i64 (A 1)) (.int .i64 (A 2)) (.int .i64 (A 3)) (.int .i64 (A 4)) (.int .i64 (A 5)) (.int .i64 (A 6)) (.int .i64 (A 7))) (za5 (b:=w.heap.size + 1 + 1) BEL.out (by omega) (.int .i64 (A 0)) (.int .i64 (A 1)) (.int .i64 (A 2)) (.int .i64 (A 3)) (.int .i64 (A 4)) (.int .i64 (A 5)) (.int .i64 (A 6)) (.int .i64 (A 7)))
   clear l1 z1 l3 f3 z3
   unfold st8 at key
   revert key
   generalize World.setCell (World.setCell (World.setCell (World.setCell (World.setCell (World.setCell (World.setCell (World.setCell _ _ _) _ _) _ _) _ _) _ _) _ _) _ _) _ _=WW
   rintro ⟨of,bf⟩
   have lf:=of.cell
   refine bodyPost_ret (v:=vecV A) (by simp [results,Tryz.results146,go_sem,lf]) rfl ⟨congrArg Ending.returned HE.out,bf⟩
 by_cases h2:8 < r
 · have HE:=y02h (zkb (A:=A) (r:=r) (c:=c) (.inr h2))
   have g1:decide (r < 1)=false:=decide_eq_false h1
   have g2:decide (8 < r)=true:=decide_eq_true h2
   go_enter Tryz.func146,Tryz.ntmps146
   go_wp2_with fail
   refine wp_region_quiet_below (by kernel_rfl) (by kernel_rfl) ?_
   repeat (first | go_big_quiet_step (fail) | quiet_step (fail))
   refine wpQuiet_nil ?_
   intro w7 hw'
   have hb':=y02h (zag hw')
   clear hw'
   clear LB
   replace O1:=y02h (O1.out.later hb'.out)
   replace O2:=y02h (O2.out.later hb'.out)
   replace O3:=y02h (O3.out.later hb'.out)
   replace BEL:=y02h (BEL.out.trans (hb'.out.mono BEL.out.size))
   have l1:=O1.out.cell
   have z1:=O1.out.lt
   have l3:=O3.out.cell
   have f3:=O3.out.free
   have z3:=O3.out.lt
   go_wp2_with fail
   have key:=And.intro (zbr O3.out (.int .i64 (A 0)) (.int .i64 (A 1)) (.int .i64 (A 2)) (.int .i64 (A 3)) (.int .i64 (A 4)) (.int .i64 (A 5)) (.int .i64 (A 6)) (.int .i64 (A 7))) (za5 (b:=w.heap.size + 1 + 1) BEL.out (by omega) (.int .i64 (A 0)) (.int .i64 (A 1)) (.int .i64 (A 2)) (.int .i64 (A 3)) (.int .i64 (A 4)) (.int .i64 (A 5)) (.int .i64 (A 6)) (.int .i64 (A 7)))
   clear l1 z1 l3 f3 z3
   unfold st8 at key
   revert key
   generalize World.setCell (World.setCell (World.setCell (World.setCell (World.setCell (World.setCell (World.setCell (World.setCell _ _ _) _ _) _ _) _ _) _ _) _ _) _ _) _ _=WW
   rintro ⟨of,bf⟩
   have lf:=of.cell
   refine bodyPost_ret (v:=vecV A) (by simp [results,Tryz.results146,go_sem,lf]) rfl ⟨congrArg Ending.returned HE.out,bf⟩
 obtain ⟨k,rfl⟩:∃ k:Nat,r=(k:Int) + 1:=⟨(r - 1).toNat,by omega⟩
 have hk:k < 8:=by omega
 have g1:decide ((k:Int) + 1 < 1)=false:=decide_eq_false h1
 have g2:decide (8 < (k:Int) + 1)=false:=decide_eq_false h2
 have g3:(k:Int) + 1 - 1=(k:Int):=by omega
 have k0:(0:Int)≤(k:Int):=by omega
 have k1:(k:Int) < 8:=by omega
 have LA:=fun dd os=>(O1.out.has.regrown dd os k).trans (zca A hk)
 clear h1 h2
 by_cases h:c≤A k
 · have HE:=y02h (zrb (A:=A) (k:=k) h)
   have g4:decide (c≤A k)=true:=decide_eq_true h
   go_enter Tryz.func146,Tryz.ntmps146
   go_wp2_with fail
   refine wp_region_quiet_below (by kernel_rfl) (by kernel_rfl) ?_
   repeat (first | go_big_quiet_step (fail) | quiet_step (fail))
   refine wpQuiet_nil ?_
   intro w7 hw'
   have hb':=y02h (zag hw')
   clear hw'
   clear LB LA
   replace O1:=y02h (O1.out.later hb'.out)
   replace O2:=y02h (O2.out.later hb'.out)
   replace O3:=y02h (O3.out.later hb'.out)
   replace BEL:=y02h (BEL.out.trans (hb'.out.mono BEL.out.size))
   have l1:=O1.out.cell
   have z1:=O1.out.lt
   have l3:=O3.out.cell
   have f3:=O3.out.free
   have z3:=O3.out.lt
   go_wp2_with fail
   have key:=And.intro (zbr O3.out (.int .i64 (A 0)) (.int .i64 (A 1)) (.int .i64 (A 2)) (.int .i64 (A 3)) (.int .i64 (A 4)) (.int .i64 (A 5)) (.int .i64 (A 6)) (.int .i64 (A 7))) (za5 (b:=w.heap.size + 1 + 1) BEL.out (by omega) (.int .i64 (A 0)) (.int .i64 (A 1)) (.int .i64 (A 2)) (.int .i64 (A 3)) (.int .i64 (A 4)) (.int .i64 (A 5)) (.int .i64 (A 6)) (.int .i64 (A 7)))
   clear l1 z1 l3 f3 z3
   unfold st8 at key
   revert key
   generalize World.setCell (World.setCell (World.setCell (World.setCell (World.setCell (World.setCell (World.setCell (World.setCell _ _ _) _ _) _ _) _ _) _ _) _ _) _ _) _ _=WW
   rintro ⟨of,bf⟩
   have lf:=of.cell
   refine bodyPost_ret (v:=vecV A) (by simp [results,Tryz.results146,go_sem,lf]) rfl ⟨congrArg Ending.returned HE.out,bf⟩
 · have HE:=y02h (zra (A:=A) (k:=k) (c:=c) hk (by omega))
   have g4:decide (c≤A k)=false:=decide_eq_false h
   go_enter Tryz.func146,Tryz.ntmps146
   go_wp2_with fail
   refine wp_region_quiet_below (by kernel_rfl) (by kernel_rfl) ?_
   repeat (first | go_big_quiet_step (fail) | quiet_step (fail))
   refine wpQuiet_nil ?_
   intro w7 hw'
   have hb':=y02h (zag hw')
   clear hw'
   clear LB LA
   replace O1:=y02h (O1.out.later hb'.out)
   replace O2:=y02h (O2.out.later hb'.out)
   replace O3:=y02h (O3.out.later hb'.out)
   replace BEL:=y02h (BEL.out.trans (hb'.out.mono BEL.out.size))
   have c1:=(O1.out.cell k).trans (zca A hk)
   have f1:=O1.out.free k
   have z1:=O1.out.lt
   have l2:=O2.out.cell
   have z2:=O2.out.lt
   obtain ⟨F,hF⟩:∃ F:Nat→Int,F=(fun j=>if j=k then c else A j):=⟨_,rfl⟩
   have R1:=O1.out.set k (.int .i64 c)
   rw [zd6 _ hk,← hF] at R1
   have he2:=HE.out
   rw [← hF] at he2
   have HE2:=y02h he2
   have R3:=O3.out.setFar ⟨w.heap.size,k,none⟩ (.int .i64 c) (by show w.heap.size + 1 + 1 ≠ w.heap.size;omega)
   have B3:=BEL.out.setCell (p:=⟨w.heap.size,k,none⟩) (Nat.le_refl _) (.int .i64 c)
   have HX:=y02h (show Own _ _ _ _∧Own _ _ _ _∧Below _ _ _ from ⟨R1,R3,B3⟩)
   clear R1 R3 B3 HE hF he2
   go_upto_region 4 with fail
   revert HX
   generalize w7.setCell ⟨w.heap.size,k,none⟩ (.int .i64 c)=W8
   intro HX
   have HR3:=y02h HX.out.2.1
   have BR:=y02h HX.out.2.2
   have y1:=HX.out.1.cell
   have l3:=HX.out.2.1.cell
   have f3:=HX.out.2.1.free
   have z3:=HX.out.2.1.lt
   have z4:=HX.out.1.lt
   clear c1 f1 z1 l2 z2
   go_wp2_with fail
   have key:=And.intro (zbr HR3.out (.int .i64 (F 0)) (.int .i64 (F 1)) (.int .i64 (F 2)) (.int .i64 (F 3)) (.int .i64 (F 4)) (.int .i64 (F 5)) (.int .i64 (F 6)) (.int .i64 (F 7))) (za5 (b:=w.heap.size + 1 + 1) BR.out (by omega) (.int .i64 (F 0)) (.int .i64 (F 1)) (.int .i64 (F 2)) (.int .i64 (F 3)) (.int .i64 (F 4)) (.int .i64 (F 5)) (.int .i64 (F 6)) (.int .i64 (F 7)))
   clear y1 l3 f3 z3 z4
   unfold st8 at key
   revert key
   generalize World.setCell (World.setCell (World.setCell (World.setCell (World.setCell (World.setCell (World.setCell (World.setCell _ _ _) _ _) _ _) _ _) _ _) _ _) _ _) _ _=WW
   rintro ⟨of,bf⟩
   have lf:=of.cell
   refine bodyPost_ret (v:=vecV F) (by simp [results,Tryz.results146,go_sem,lf]) rfl ⟨congrArg Ending.returned HE2.out,bf⟩
end Go.Proofs.YtodfhabkdaiopaaGreat
