/- Joined: RefSame, RefMayK, StM, RefSt2. -/
import Derived.Test.YtodfhabkdaiopaaGreatJ17
import Derived.Test.YtodfhabkdaiopaaGreatJ13
import Derived.Test.YtodfhabkdaiopaaGreatJ11
import Derived.Deep.RegionHeld3
import Derived.Test.YtodfhabkdaiopaaGreatJ12
import Derived.Test.YtodfhabkdaiopaaGreatJ14
import Derived.Test.YtodfhabkdaiopaaGreatJ15
import Derived.Deep.CutBlock
import Derived.Deep.DeepCutAuto
namespace Go.Proofs.YtodfhabkdaiopaaGreat
set_option linter.unusedVariables false
set_option linter.unusedSimpArgs false
set_option maxRecDepth 100000
set_option maxHeartbeats 8000000
open Go.RowKit
theorem y24h {p:Prop} (h:p):Go.RowKit.Hid p:=Lib.hid h
def zsv (k:Pr):Prop:=∀ (q:Pr) (v v':Value) (w:World),LP w k v→LP w q v' →
   Calls Tryz.prog 82 #[.agg #[.int .i64 k.op,.string k.text,.int .i64 k.n,.complex .f64 k.x k.y,v],.agg #[.int .i64 q.op,.string q.text,.int .i64 q.n,.complex .f64 q.x q.y,v']] w fun e w'=>e=.returned (.bool (Pr.same k q))∧Below w.heap.size w w'
theorem zp7 (p:Pr):zsv p:=by
 induction p using Pr.ind with
 | h op t n x y l ih =>
   intro q v v' w hL hL'
   obtain ⟨op',t',n',x',y',m⟩:=q
   obtain ⟨oa,cap,b,o,V,rfl,_,hl,hc,hn,hcell,hrec⟩:=zba hL
   obtain ⟨ob,cap',b',o',V',rfl,_,hl',hc',hn',hcell',hrec'⟩:=zba hL'
   simp only [Pr.kids_node,Pr.text_node,Pr.op_node,Pr.n_node,Pr.x_node,Pr.y_node] at *
   unfold maxLen at hc hc'
   have HC:=y24h hcell
   have HR:=y24h hrec
   have HN:=y24h hn
   have HC':=y24h hcell'
   have HR':=y24h hrec'
   have HN':=y24h hn'
   have HH:=y24h ih
   clear hL hcell hrec hn hL' hcell' hrec' hn' ih
   have f2:Pr.same (.node op t n x y l) (.node op' t' n' x' y' m)=(decide (op=op') && (decide (t.toList=t'.toList) && (decide (n=n') && ((feq x x' && feq y y') && Pr.sames l m)))):=by simp [Pr.same]
   have HLen:=y24h (fun h=>Pr.sames_not_len (l:=l) (m:=m) h)
   rw [f2]
   clear f2
   generalize hs:Pr.sames l m=sm
   have HSM:=y24h hs
   clear hs
   rw [HSM.out] at HLen
   generalize hla:l.length=la at *
   generalize hlb:m.length=lb at *
   have HLA:=y24h hla
   have HLB:=y24h hlb
   clear hla hlb
   by_cases e1:¬ op=op'
   · go_enter Tryz.func82,Tryz.ntmps82
     go_wp2_with fail
     go_ret
     exact ⟨zac (by simp [e1]),((Below.refl _ _).alloc (Nat.le_refl _) _).alloc (by simp) _⟩
   have e1:=Decidable.not_not.1 e1
   by_cases e2:¬ t.toList=t'.toList
   · subst e1
     go_enter Tryz.func82,Tryz.ntmps82
     go_wp2_with fail
     go_ret
     exact ⟨zac (by simp [e2]),((Below.refl _ _).alloc (Nat.le_refl _) _).alloc (by simp) _⟩
   have e2:=Decidable.not_not.1 e2
   by_cases e3:¬ n=n'
   · subst e1
     go_enter Tryz.func82,Tryz.ntmps82
     go_wp2_with fail
     go_ret
     exact ⟨zac (by simp [e3]),((Below.refl _ _).alloc (Nat.le_refl _) _).alloc (by simp) _⟩
   have e3:=Decidable.not_not.1 e3
   subst e1
   subst e3
   by_cases g4:¬ (FloatKind.f64.format.order x x'=some .eq)
   · have e4:feq x x'=false:=by simp [feq,g4]
     rw [e4]
     go_enter Tryz.func82,Tryz.ntmps82
     go_wp2_with fail
     go_ret
     exact ⟨zac (by simp),((Below.refl _ _).alloc (Nat.le_refl _) _).alloc (by simp) _⟩
   have g4:=Decidable.not_not.1 g4
   have e4:feq x x'=true:=by simp [feq,g4]
   rw [e4]
   by_cases g5:¬ (FloatKind.f64.format.order y y'=some .eq)
   · have e5:feq y y'=false:=by simp [feq,g5]
     rw [e5]
     go_enter Tryz.func82,Tryz.ntmps82
     go_wp2_with fail
     go_ret
     exact ⟨zac (by simp),((Below.refl _ _).alloc (Nat.le_refl _) _).alloc (by simp) _⟩
   have g5:=Decidable.not_not.1 g5
   have e5:feq y y'=true:=by simp [feq,g5]
   rw [e5]
   by_cases e6:¬ la=lb
   · have hz:=HLen.out e6
     subst hz
     go_enter Tryz.func82,Tryz.ntmps82
     go_wp2_with fail
     go_ret
     exact ⟨zac (by simp),((Below.refl _ _).alloc (Nat.le_refl _) _).alloc (by simp) _⟩
   have e6:=Decidable.not_not.1 e6
   subst e6
   rw [decide_eq_true rfl,decide_eq_true e2,decide_eq_true rfl,Bool.true_and,Bool.true_and,Bool.true_and,Bool.true_and,Bool.true_and]
   go_enter Tryz.func82,Tryz.ntmps82
   go_wp2_with fail
   go_loopw [5] (fun i wr=>z04 l m la ((w.alloc (.cells #[.int .i64 op,.string t,.int .i64 n,.complex .f64 x y,.slice oa la cap] 32)).alloc (.cells #[.int .i64 op,.string t',.int .i64 n,.complex .f64 x' y',.slice ob la cap'] 32)) i wr) (fun i _=>la - (intOf i).toNat)
   case atStart=>exact ⟨0,Nat.zero_le _,rfl,by simp [Hid,Pr.sames],Below.refl _ _⟩
   case round =>
     obtain ⟨k,hk,rfl,HS,hb⟩:=hrel
     have G1:=y24h (((Has.new w #[.int .i64 op,.string t,.int .i64 n,.complex .f64 x y,.slice oa la cap] 32).alloc (.cells #[.int .i64 op,.string t',.int .i64 n,.complex .f64 x' y',.slice ob la cap'] 32)).below hb (by simp;omega))
     have G2:=y24h ((Own.newAt (w.alloc (.cells #[.int .i64 op,.string t,.int .i64 n,.complex .f64 x y,.slice oa la cap] 32)) #[.int .i64 op,.string t',.int .i64 n,.complex .f64 x' y',.slice ob la cap'] 32 (b:=w.heap.size + 1) (by simp)).has.below hb (by simp))
     by_cases hlt:k < la
     · obtain ⟨p,hp⟩:∃ p,l[k]?=some p:=⟨_,List.getElem?_eq_getElem (by rw [HLA.out];exact hlt)⟩
       obtain ⟨q,hq⟩:∃ q,m[k]?=some q:=⟨_,List.getElem?_eq_getElem (by rw [HLB.out];exact hlt)⟩
       obtain ⟨rfl,hB⟩:=HN.out (by omega)
       obtain ⟨rfl,hB'⟩:=HN'.out (by omega)
       obtain ⟨oq,cq,hV⟩:=zao (HR.out k p hp)
       obtain ⟨oq',cq',hV'⟩:=zao (HR'.out k q hq)
       have hbw:Below w.heap.size w wr:=zai (zai hb)
       obtain ⟨c0,c1,c2,c3,c4⟩:=zce (w:=wr) (fun j u hu=>(hbw.cell (p:=⟨b,o + k * 5 + j,none⟩) hB).trans (HC.out k p hp j u hu))
       obtain ⟨d0,d1,d2,d3,d4⟩:=zce (w:=wr) (fun j u hu=>(hbw.cell (p:=⟨b',o' + k * 5 + j,none⟩) hB').trans (HC'.out k q hq j u hu))
       have L0:=(HR.out k p hp).later hbw (Nat.le_refl _)
       have M0:=(HR'.out k q hq).later hbw (Nat.le_refl _)
       rw [hV] at c4 L0
       rw [hV'] at d4 M0
       have CC:=fun dd os=>HH.out p (List.mem_of_getElem? hp) q (.slice oq p.kids.length cq) (.slice oq' q.kids.length cq') (Sort.grow (redrawn wr dd) os) (L0.later (below_regrown _ _ _) (Nat.le_refl _)) (M0.later (below_regrown _ _ _) (Nat.le_refl _))
       have HB:=y24h hb
       have HS0:=HS.out
       have r0:=fun dd os=>cell_regrown c0 dd os
       have r1:=fun dd os=>cell_regrown c1 dd os
       have r2:=fun dd os=>cell_regrown c2 dd os
       have r3:=fun dd os=>cell_regrown c3 dd os
       have r4:=fun dd os=>cell_regrown c4 dd os
       have s0:=fun dd os=>cell_regrown d0 dd os
       have s1:=fun dd os=>cell_regrown d1 dd os
       have s2:=fun dd os=>cell_regrown d2 dd os
       have s3:=fun dd os=>cell_regrown d3 dd os
       have s4:=fun dd os=>cell_regrown d4 dd os
       have LA:=fun dd os o=>G1.out.regrown dd os o
       have LB:=fun dd os o=>G2.out.regrown dd os o
       have l1:=G1.out.cell
       have l2:=G2.out.cell
       cases hs:Pr.same p q
       · have HF:=y24h (Pr.sames_at hp hq hs)
         rw [hs] at CC
         have m3:=fun dd os=>y24h (Calls.regrown_of (CC dd os))
         clear hb hV hV' L0 M0 HS0 hs hp hq CC hbw
         go_wp2_with fail
         refine wp_region_quiet_below (by kernel_rfl) (by kernel_rfl) ?_
         repeat (first | go_big_quiet_step ((with_reducible exact (m3 _ _).out)) | quiet_step (with_reducible exact (m3 _ _).out))
         refine wpQuiet_nil ?_
         intro w7 hw'
         have hb':=y24h (zag hw')
         clear hw' m3 r0 r1 r2 r3 r4 s0 s1 s2 s3 s4 LA LB
         go_wp2_with fail
         go_ret
         have HF:=HF.out
         rw [HSM.out] at HF
         exact ⟨zac HF.symm,zai (zai (HB.out.trans (hb'.out.mono HB.out.size)))⟩
       · have HF:=y24h (Pr.sames_take hp hq HS0 hs)
         rw [hs] at CC
         have m3:=fun dd os=>y24h (Calls.regrown_of (CC dd os))
         clear hb hV hV' L0 M0 HS0 hs hp hq CC hbw
         go_wp2_with fail
         refine wp_region_quiet_below (by kernel_rfl) (by kernel_rfl) ?_
         repeat (first | go_big_quiet_step ((with_reducible exact (m3 _ _).out)) | quiet_step (with_reducible exact (m3 _ _).out))
         refine wpQuiet_nil ?_
         intro w7 hw'
         have hb':=y24h (zag hw')
         clear hw' m3 r0 r1 r2 r3 r4 s0 s1 s2 s3 s4 LA LB
         go_wp2_with fail
         go_roundw
         case rel=>exact ⟨k + 1,by omega,by go_num,HF.out,HB.out.trans (hb'.out.mono HB.out.size)⟩
         case measure=>simp [intOf];omega
     · have HB:=y24h hb
       clear hb
       have e:k=la:=by omega
       have h7:=HS.out
       rw [Pr.take_all l (by rw [HLA.out];omega),Pr.take_all m (by rw [HLB.out];omega),HSM.out] at h7
       subst h7
       clear e
       have l1:=G1.out.cell
       have l2:=G2.out.cell
       have z1:=G1.out.lt
       have z2:=G2.out.lt
       go_wp2_with fail
       go_ret
       exact ⟨rfl,zai (zai HB.out)⟩
def zk0 (nm:ByteArray→Bool) (f:Fr):Bool:=mayV f.v && f.ids.all nm
def mayK (nm:ByteArray→Bool) (a:Kn):Bool:=(zc8 a (zah a) && mayV a.star) && a.l.all (zk0 nm)
structure MkS (w:World) (X:Array Value) (wr:World):Prop where
 o1:Has wr w.heap.size X
 bel:Below w.heap.size w wr
theorem MkS.later {w wr w':World} {X:Array Value} (h:MkS w X wr) (hb:Below wr.heap.size wr w'):MkS w X w' :=
 ⟨h.o1.below hb h.o1.lt,h.bel.trans (hb.mono h.bel.size)⟩
structure St where
 r:Int
 f:Pr
 store:List Itm
 out:List Itm
 k:Kn
 count:Int
 clock:Int
 epoch:Int
abbrev prV (p:Pr) (v:Value):Value:=.agg #[.int .i64 p.op,.string p.text,.int .i64 p.n,.complex .f64 p.x p.y,v]
abbrev stA (s:St) (fv sv ov kv:Value):Array Value:=#[.int .i64 s.r,.int .i64 s.f.op,.string s.f.text,.int .i64 s.f.n,.complex .f64 s.f.x s.f.y,fv,sv,ov,.int .i64 (s.k.star 0),.int .i64 (s.k.star 1),.int .i64 (s.k.star 2),.int .i64 (s.k.star 3),.int .i64 (s.k.star 4),.int .i64 (s.k.star 5),.int .i64 (s.k.star 6),.int .i64 (s.k.star 7),kv,.int .i64 s.count,.int .i64 s.clock,.int .i64 s.epoch]
abbrev stV (s:St) (fv sv ov kv:Value):Value:=.agg #[.int .i64 s.r,.int .i64 s.f.op,.string s.f.text,.int .i64 s.f.n,.complex .f64 s.f.x s.f.y,fv,sv,ov,.int .i64 (s.k.star 0),.int .i64 (s.k.star 1),.int .i64 (s.k.star 2),.int .i64 (s.k.star 3),.int .i64 (s.k.star 4),.int .i64 (s.k.star 5),.int .i64 (s.k.star 6),.int .i64 (s.k.star 7),kv,.int .i64 s.count,.int .i64 s.clock,.int .i64 s.epoch]
structure StW (w:World) (s:St) (fv sv ov kv:Value):Prop where
 lf:LP w s.f fv
 ls:Row 8 ic w s.store sv
 lo:Row 8 ic w s.out ov
 lk:FrW w s.k.l kv
theorem StW.later {w w':World} {s:St} {fv sv ov kv:Value} (h:StW w s fv sv ov kv) (hb:Below w.heap.size w w'):StW w' s fv sv ov kv :=
 ⟨h.lf.later hb (Nat.le_refl _),h.ls.later hb,h.lo.later hb,h.lk.later hb (Nat.le_refl _)⟩
theorem StW.alloc {w:World} {s:St} {fv sv ov kv:Value} (h:StW w s fv sv ov kv) (o:Obj):StW (w.alloc o) s fv sv ov kv:=h.later ((Below.refl _ _).alloc (Nat.le_refl _) _)
theorem StW.drew {w:World} {s:St} {fv sv ov kv:Value} (h:StW w s fv sv ov kv):StW w.drew s fv sv ov kv:=h.later (Below.refl _ _).drew
theorem StW.regrown {w:World} {s:St} {fv sv ov kv:Value} (h:StW w s fv sv ov kv) (d:Nat) (os:Array Obj):StW (Sort.grow (redrawn w d) os) s fv sv ov kv:=h.later (below_regrown w d os)
structure StB (s:St):Prop where
 f:s.f.size≤60
 ls:s.store.length≤200
 lo:s.out.length≤200
 kl:s.k.l.length≤5000
 ki:(zaf s.k.l).length≤5000
def Itm.it (i:Itm):It:=⟨i.id,i.kd,i.num,i.x,i.y⟩
def hasT (f:Pr) (i:Itm):Bool:=f.hasB i.it
theorem zkt (i:Itm) (hid:i.id.size≤maxLen) (p:Pr) (v:Value) (w:World) (h:LP w p v) (hp:p.size≤1000) :
   Calls Tryz.prog 38 #[prV p v,iV i] w fun e w'=>e=.returned (.bool (hasT p i))∧Below w.heap.size w w' :=
 zo4 i.it i.r i.c i.st i.d hid p v w h hp
def beyS (k:Kn) (r count:Int):Bool:=decide (count < cntV k.star r) || k.l.any fun q=>decide (count < cntV q.v r)
def zlf (a b:St):Bool:=(decide (a.r=b.r) && (decide (a.count=b.count) && (decide (a.clock=b.clock) && decide (a.epoch=b.epoch)))) && (Pr.same a.f b.f && (zcl zds a.store b.store && (zcl zds a.out b.out && zc8 a.k b.k)))
end Go.Proofs.YtodfhabkdaiopaaGreat
