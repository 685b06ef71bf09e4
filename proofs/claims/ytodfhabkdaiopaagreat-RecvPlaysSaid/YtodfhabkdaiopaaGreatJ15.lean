/- Joined: Fits, OpenS, Open, RefHasK. -/
import Derived.Test.YtodfhabkdaiopaaGreatJ14
import Derived.Deep.Slices
import Derived.Test.YtodfhabkdaiopaaGreatJ08
import Derived.Test.YtodfhabkdaiopaaGreatJ01
import Derived.Test.YtodfhabkdaiopaaGreatJ11
namespace Go.Proofs.YtodfhabkdaiopaaGreat
set_option linter.unusedVariables false
set_option linter.unusedSimpArgs false
set_option maxRecDepth 100000
set_option maxHeartbeats 8000000
open Go.RowKit
theorem y15h {p:Prop} (h:p):Go.RowKit.Hid p:=Lib.hid h
theorem zmd {p:Pr} {s d:Int} (h:s < p.size):p.fitsB s d=false:=by
 unfold Pr.fitsB;simp;omega
theorem zko {p:Pr} {s d:Int} (h:d < p.depth):p.fitsB s d=false:=by
 unfold Pr.fitsB;simp;omega
theorem zn4 {p:Pr} {s d:Int} (h:p.all=false):p.fitsB s d=false:=by
 unfold Pr.fitsB;simp [h]
theorem fits_true {p:Pr} {s d:Int}:p.fitsB s d=true ↔ (p.size:Int)≤s∧(p.depth:Int)≤d∧p.all=true:=by
 unfold Pr.fitsB;simp
theorem zln {l:List Pr} {q:Pr} (h:q∈l) (ha:q.all=false):Pr.alls l=false:=by
 cases e:Pr.alls l with
 | false=>rfl
 | true=>rw [Pr.all_mem h e] at ha;cases ha
theorem zvv {op:Int} {t:ByteArray} {n:Int} {x y:Nat} {kids:List Pr} {k:Nat} {q:Pr} {s d r:Int} (hq:kids[k]?=some q) (hr:s=r + 1 + (Pr.sizes (kids.take k):Nat)) (h:q.fitsB r (d - 1)=false) :
   (Pr.node op t n x y kids).fitsB s d=false:=by
 have h1:=Pr.sizes_take hq
 have h2:=Pr.sizes_take_le kids (k + 1)
 have h3:=Pr.depth_mem (List.mem_of_getElem? hq)
 by_cases c1:(q.size:Int)≤r
 · by_cases c2:(q.depth:Int)≤d - 1
   · refine zn4 ?_
     have c3:q.all=false:=by
       cases e:q.all with
       | false=>rfl
       | true=>rw [fits_true.2 ⟨c1,c2,e⟩] at h;cases h
     simp only [Pr.all]
     rw [zln (List.mem_of_getElem? hq) c3];simp
   · exact zko (by simp only [Pr.depth];omega)
 · exact zmd (by simp only [Pr.size];omega)
def zzp (l:List Pr) (len:Nat) (s d:Int) (w0:World) (left ok i:Value) (wr:World):Prop :=
 ∃ (k:Nat) (r:Int),k≤len∧i=.int .i64 k∧left=.int .i64 r∧ok=.bool true∧0≤r∧r≤30∧Hid (s=r + 1 + (Pr.sizes (l.take k):Nat))∧Hid ((Pr.depths (l.take k):Int)≤d - 1∧Pr.alls (l.take k)=true)∧Below w0.heap.size w0 wr
def fitV (p:Pr) (s d:Int):Ending:=if p.fitsB s d=true then .returned (.tuple #[.int .i64 (s - p.size),.bool true]) else .returned (.tuple #[.int .i64 0,.bool false])
theorem zdo {p:Pr} {s d:Int} (h:p.fitsB s d=false):fitV p s d=.returned (.tuple #[.int .i64 0,.bool false]):=by
 unfold fitV;rw [h];rfl
theorem zh6 {p:Pr} {s d:Int} (h:p.fitsB s d=true):fitV p s d=.returned (.tuple #[.int .i64 (s - p.size),.bool true]):=by
 unfold fitV;rw [h];rfl
theorem zrq (p:Pr):∀ (v:Value) (s d:Int) (w:World),LP w p v→0≤s→s≤30→0≤d→d≤6 →
   Calls Tryz.prog 127 #[.agg #[.int .i64 p.op,.string p.text,.int .i64 p.n,.complex .f64 p.x p.y,v],.int .i64 s,.int .i64 d] w fun e w'=>e=fitV p s d∧Below w.heap.size w w':=by
 induction p using Pr.ind with
 | h op t n x y kids ih =>
   intro v s d w hL hs0 hs1 hd0 hd1
   obtain ⟨oa,cap,b,o,V,rfl,ht,hl,hc,hn,hcell,hrec⟩:=zba hL
   simp only [Pr.kids_node,Pr.text_node,Pr.op_node,Pr.n_node,Pr.x_node,Pr.y_node] at *
   unfold maxLen at hc
   have HC:=y15h hcell
   have HR:=y15h hrec
   have HN:=y15h hn
   have HI:=y15h ih
   clear hL hcell hrec hn ih
   by_cases e1:s=0
   · subst e1
     rw [zdo (zmd (by simp only [Pr.size];omega))]
     go_enter Tryz.func127,Tryz.ntmps127
     go_wp2_with fail
     go_ret2
     exact ⟨rfl,(Below.refl _ _).alloc (Nat.le_refl _) _⟩
   by_cases e2:d=0
   · subst e2
     rw [zdo (zko (by simp only [Pr.depth];omega))]
     have g1:(s == 0)=false:=by rw [beq_eq_false_iff_ne];exact e1
     go_enter Tryz.func127,Tryz.ntmps127
     go_wp2_with fail
     go_ret2
     exact ⟨rfl,(Below.refl _ _).alloc (Nat.le_refl _) _⟩
   have g1:(s == 0)=false:=by rw [beq_eq_false_iff_ne];exact e1
   have g2:(d == 0)=false:=by rw [beq_eq_false_iff_ne];exact e2
   have hs2:1≤s:=by omega
   have hd2:1≤d:=by omega
   have P:=fun w=>zlz op t n x y oa kids.length cap w
   cases hp:Pr.partB op t n x y kids.length
   · rw [hp] at P
     have P:=fun w=>y15h (P w)
     rw [zdo (zn4 (by simp only [Pr.all];rw [hp];rfl))]
     clear hp
     go_enter Tryz.func127,Tryz.ntmps127
     go_wp2_with (go_at_call 184;refine (P _).out.mono ?_;rintro e w' ⟨rfl,hb⟩)
     go_ret2
     exact ⟨rfl,zai hb⟩
   · rw [hp] at P
     have P:=fun w=>y15h (P w)
     have HP:=y15h hp
     clear hp e1 e2
     generalize hlen:kids.length=len at *
     have HLEN:=y15h hlen
     clear hlen
     generalize hV0:fitV (.node op t n x y kids) s d=E0
     have HV0:=y15h hV0
     clear hV0
     go_enter Tryz.func127,Tryz.ntmps127
     go_wp2_with fail
     refine (P _).out.mono ?_;rintro e w1 ⟨rfl,hb1⟩
     have g:=(Has.new w #[.int .i64 op,.string t,.int .i64 n,.complex .f64 x y,.slice oa len cap] 32).below hb1 (by simp)
     have HB1:=y15h hb1
     clear hb1
     have l:=g.cell
     have z:=g.lt
     go_wp2_with fail
     clear l z
     go_loopw [8,9,28] (fun left ok i wr=>zzp kids len s d w1 left ok i wr) (fun _ _ i _=>len - (intOf i).toNat)
     case atStart=>exact ⟨0,s - 1,Nat.zero_le _,rfl,rfl,rfl,by omega,by omega,by simp [Hid,Pr.sizes],by simp [Hid,Pr.depths,Pr.alls];omega,Below.refl _ _⟩
     case round =>
       obtain ⟨k,r,hk,rfl,rfl,rfl,hr0,hr1,HRr,HD,hb⟩:=hrel
       have g:=g.below hb g.lt
       by_cases hlt:k < len
       · obtain ⟨q,hq⟩:∃ q,kids[k]?=some q:=⟨_,List.getElem?_eq_getElem (by rw [HLEN.out];exact hlt)⟩
         obtain ⟨rfl,hB⟩:=HN.out (by omega)
         obtain ⟨oq,cq,hV⟩:=zao (HR.out k q hq)
         have hbw:Below w.heap.size w wr:=(zai HB1.out).trans (hb.mono (zai HB1.out).size)
         obtain ⟨c0,c1,c2,c3,c4⟩:=zce (w:=wr) (fun j u hu=>(hbw.cell (p:=⟨b,o + k * 5 + j,none⟩) hB).trans (HC.out k q hq j u hu))
         have L0:=(HR.out k q hq).later hbw (Nat.le_refl _)
         rw [hV] at c4 L0
         have CC:=fun w' h=>HI.out q (List.mem_of_getElem? hq) (.slice oq q.kids.length cq) r (d - 1) w' h hr0 hr1 (by omega) (by omega)
         have L1:=fun ob=>y15h (L0.atAlloc ob)
         have h3:=Pr.sizes_take hq
         have h5:=Pr.depths_take hq
         have h6:=Pr.alls_take hq
         have h7:=HRr.out
         have h8:=HD.out
         have HB:=y15h hb
         cases hf:q.fitsB r (d - 1)
         · have HF:=y15h (zvv (op:=op) (t:=t) (n:=n) (x:=x) (y:=y) hq h7 hf)
           rw [zdo hf] at CC
           have CC:=fun w' h=>y15h (CC w' h)
           clear hb hbw hq L0 h3 h5 h6 h7 h8 hV hf
           have l:=g.cell
           have z:=g.lt
           clear g
           go_wp2_with (go_at_call 127;refine (CC _ (L1 _).out).out.mono ?_;rintro e w' ⟨rfl,hb'⟩)
           go_ret2
           exact ⟨(HV0.out.symm.trans (zdo HF.out)).symm,(zai HB1.out).trans ((HB.out.trans ((zai hb').mono HB.out.size)).mono (zai HB1.out).size)⟩
         · obtain ⟨f1,f2,f3⟩:=fits_true.1 hf
           have q1:(0:Int)≤r - q.size:=by omega
           have q2:r - q.size≤30:=by omega
           have HRr1:=y15h (show s=(r - q.size) + 1 + (Pr.sizes (kids.take (k + 1)):Nat) by rw [h3];omega)
           have HD1:=y15h (show (Pr.depths (kids.take (k + 1)):Int)≤d - 1∧Pr.alls (kids.take (k + 1))=true from ⟨by rw [h5];omega,by rw [h6,h8.2,f3];rfl⟩)
           rw [zh6 hf] at CC
           have CC:=fun w' h=>y15h (CC w' h)
           clear hb hbw hq L0 h3 h5 h6 h7 h8 hV hf f2 f3
           have l:=g.cell
           have z:=g.lt
           clear g
           go_wp2_with (go_at_call 127;refine (CC _ (L1 _).out).out.mono ?_;rintro e w' ⟨rfl,hb'⟩)
           go_roundw
           case rel=>exact ⟨k + 1,r - q.size,by omega,by go_num,rfl,rfl,q1,q2,HRr1.out,HD1.out,HB.out.trans ((zai hb').mono HB.out.size)⟩
           case measure=>simp [intOf];omega
       · have HB:=y15h hb
         clear hb
         have l:=g.cell
         have z:=g.lt
         clear g
         have e:k=len:=by omega
         have h7:=HRr.out
         have h8:=HD.out
         rw [Pr.take_all kids (by rw [HLEN.out];omega)] at h7 h8
         have hf:(Pr.node op t n x y kids).fitsB s d=true:=fits_true.2 ⟨by simp only [Pr.size];omega,by simp only [Pr.depth];omega,by simp only [Pr.all];rw [HLEN.out,HP.out,h8.2];rfl⟩
         have HE:=y15h (show E0=.returned (.tuple #[.int .i64 r,.bool true]) by rw [← HV0.out,zh6 hf];simp only [Pr.size];congr 5;omega)
         clear h7 h8 e hf
         go_wp2_with fail
         go_ret2
         exact ⟨HE.out.symm,(zai HB1.out).trans (HB.out.mono (zai HB1.out).size)⟩
theorem ze1 (p:Pr) (v:Value) (w:World) (hL:LP w p v) :
   Calls Tryz.prog 55 #[.agg #[.int .i64 p.op,.string p.text,.int .i64 p.n,.complex .f64 p.x p.y,v]] w fun e w'=>e=.returned (.bool p.mayB)∧Below w.heap.size w w':=by
 have H:=fun w' h=>zrq p v 30 6 w' h (by omega) (by omega) (by omega) (by omega)
 have L1:=fun o=>y15h (hL.atAlloc o)
 clear hL
 unfold Pr.mayB
 cases hf:p.fitsB 30 6
 · rw [zdo hf] at H
   have H:=fun w' h=>y15h (H w' h)
   clear hf
   go_enter Tryz.func55,Tryz.ntmps55
   go_wp2_with (go_at_call 127;refine (H _ (L1 _).out).out.mono ?_;rintro e w' ⟨rfl,hb⟩)
   go_ret
   exact ⟨rfl,zai hb⟩
 · rw [zh6 hf] at H
   have H:=fun w' h=>y15h (H w' h)
   clear hf
   go_enter Tryz.func55,Tryz.ntmps55
   go_wp2_with (go_at_call 127;refine (H _ (L1 _).out).out.mono ?_;rintro e w' ⟨rfl,hb⟩)
   go_ret
   exact ⟨rfl,zai hb⟩
end Go.Proofs.YtodfhabkdaiopaaGreat
namespace Go.Proofs.YtodfhabkdaiopaaGreat
set_option linter.unusedVariables false
set_option linter.unusedSimpArgs false
set_option maxRecDepth 100000
set_option maxHeartbeats 8000000
open Go.ChangeShapes Go.WideShapes Go.ChangeAt Go.RowKit Go.Deep
theorem zqj {a:Addr} (h:a.spot=none) (n:Nat):a.add n=⟨a.block,a.off + n,none⟩:=by
 obtain ⟨b,o,s⟩:=a
 simp only at h;subst h
 unfold Addr.add;split <;> simp_all
theorem zvc {a:Addr} (h:a.spot=none):a=⟨a.block,a.off,none⟩:=by
 obtain ⟨b,o,s⟩:=a
 simp only at h;subst h;rfl
theorem zmp {α:Type} (P:Nat→α) {n i:Nat} {q:α} (h:((List.range n).map P)[i]?=some q):i < n∧q=P i:=by
 rw [List.getElem?_map] at h
 cases e:(List.range n)[i]? with
 | none=>rw [e] at h;cases h
 | some k =>
   rw [e] at h
   obtain ⟨h1,h2⟩:=List.getElem?_eq_some_iff.1 e
   simp at h1 h2 h
   subst h2
   exact ⟨h1,h.symm⟩
section
variable {H:Type} {enc:TypeId × Value→H} {w:World} {base:Nat} {spare:Nat→Bool} {held:Bool} {fuel:Nat} {cs:List Value} {x:DataW H × List MemPlace}
def zvb (cs:List Value):Prop:=∃ (id:ByteArray) (r c st:Int) (kd:ByteArray) (n:Int) (x y:Nat) (d:Bool),
 cs=[.string id,.int .i64 r,.int .i64 c,.int .i64 st,.string kd,.int .i64 n,.float .f64 x,.float .f64 y,.bool d]∧id.size≤maxLen∧kd.size≤maxLen ∧
 (Lit.int .i64 r).wf=true∧(Lit.int .i64 c).wf=true∧(Lit.int .i64 st).wf=true∧(Lit.int .i64 n).wf=true
theorem zxm (h:DataW.trod enc Tryz.prog w base spare held fuel 50 cs=some x):zvb cs:=by
 obtain ⟨xs,n,hn,hx,hl,hxl,hf⟩:=DataW.trod_struct Tryz.underlying50 h
 have hl':cs.length=9:=hl.trans (by kernel_rfl)
 have F:=fun i f hi=>zju (P:=Tryz.prog) (by kernel_rfl) (by rw [hl'];rfl) hxl hf i f hi
 match cs,hl' with
 | [c0,c1,c2,c3,c4,c5,c6,c7,c8],_ =>
   obtain ⟨_,_,e0,t0⟩:=F 0 _ rfl
   obtain ⟨_,_,e1,t1⟩:=F 1 _ rfl
   obtain ⟨_,_,e2,t2⟩:=F 2 _ rfl
   obtain ⟨_,_,e3,t3⟩:=F 3 _ rfl
   obtain ⟨_,_,e4,t4⟩:=F 4 _ rfl
   obtain ⟨_,_,e5,t5⟩:=F 5 _ rfl
   obtain ⟨_,_,e6,t6⟩:=F 6 _ rfl
   obtain ⟨_,_,e7,t7⟩:=F 7 _ rfl
   obtain ⟨_,_,e8,t8⟩:=F 8 _ rfl
   obtain ⟨s0,k0,_,z0⟩:=DataW.trod_string Tryz.underlying9 t0
   obtain ⟨s1,k1,_,z1⟩:=DataW.trod_int Tryz.underlying3 t1
   obtain ⟨s2,k2,_,z2⟩:=DataW.trod_int Tryz.underlying3 t2
   obtain ⟨s3,k3,_,z3⟩:=DataW.trod_int Tryz.underlying3 t3
   obtain ⟨s4,k4,_,z4⟩:=DataW.trod_string Tryz.underlying9 t4
   obtain ⟨s5,k5,_,z5⟩:=DataW.trod_int Tryz.underlying3 t5
   obtain ⟨s6,k6⟩:=zdv Tryz.underlying22 t6
   obtain ⟨s7,k7⟩:=zdv Tryz.underlying22 t7
   obtain ⟨s8,k8,_⟩:=DataW.trod_bool Tryz.underlying4 t8
   simp only [List.cons.injEq,and_true] at k0 k1 k2 k3 k4 k5 k6 k7 k8
   simp at e0 e1 e2 e3 e4 e5 e6 e7 e8
   subst e0 e1 e2 e3 e4 e5 e6 e7 e8 k0 k1 k2 k3 k4 k5 k6 k7 k8
   exact ⟨s0,s1,s2,s3,s4,s5,s6,s7,s8,rfl,z0,z4,z1,z2,z3,z5⟩
end
end Go.Proofs.YtodfhabkdaiopaaGreat
namespace Go.Proofs.YtodfhabkdaiopaaGreat
set_option linter.unusedVariables false
set_option linter.unusedSimpArgs false
set_option maxRecDepth 100000
set_option maxHeartbeats 8000000
open Go.RowKit
def z09 (l:List Fr) (id:ByteArray) (r c:Int) (len:Nat) (X Y:Array Value) (w:World) (iv:Value) (wr:World):Prop :=
 ∃ k:Nat,k≤len∧iv=.int .i64 k∧Hid (∀ j f,j < k→l[j]?=some f→zdb id r c f=false)∧Hid (AlS w X Y wr)
theorem zng (K:Kn) (id:ByteArray) (r c:Int) (v:Value) (w:World) (hR:FrW w K.l v) :
   Calls Tryz.prog 37 #[knV K.star v,.string id,.agg #[.int .i64 r,.int .i64 c]] w fun e w'=>e=.returned (.bool (hasK K id r c))∧Below w.heap.size w w':=by
 obtain ⟨A,l⟩:=K
 simp only at hR ⊢
 obtain ⟨U,oa,cap,b0,o,rfl,hr⟩:=hR
 have HR:=y15h hr
 have hcap:=hr.len
 have hmax:=hr.max
 unfold maxLen at hmax
 clear hr
 have HE:=y15h (show hasK ⟨A,l⟩ id r c=(hasV A r c || l.any (zdb id r c)) from rfl)
 generalize hasK ⟨A,l⟩ id r c=res at *
 generalize hn:l.length=len at *
 have HN:=y15h hn
 clear hn
 have I0:AlS w (knA A (.slice oa len cap)) #[.int .i64 r,.int .i64 c] ((w.alloc (.cells (knA A (.slice oa len cap)) 38)).alloc (.cells #[.int .i64 r,.int .i64 c] 52)) :=
   ⟨(Has.new w _ _).alloc _,(Own.newAt _ _ _ (by simp)).has,((Below.refl _ _).alloc (Nat.le_refl _) _).alloc (by simp) _⟩
 have HI0:=y15h I0
 clear I0
 have C:=y15h (zia A r c ((w.alloc (.cells (knA A (.slice oa len cap)) 38)).alloc (.cells #[.int .i64 r,.int .i64 c] 52)))
 cases hq:hasV A r c
 case true =>
   rw [hq] at C
   have E:=y15h (show res=true by rw [HE.out,hq];rfl)
   clear hq
   go_enter Tryz.func37,Tryz.ntmps37
   go_wp2_with (go_at_call 102;refine C.out.mono ?_;rintro e w2 ⟨rfl,hb2⟩)
   go_ret
   exact ⟨zac E.out.symm,(HI0.out.later hb2).bel⟩
 rw [hq] at C
 have HE2:=y15h (show res=l.any (zdb id r c) by rw [HE.out,hq];rfl)
 clear hq HE
 go_enter Tryz.func37,Tryz.ntmps37
 go_wp2_with (go_at_call 102;refine C.out.mono ?_;rintro e w2 ⟨rfl,hb2⟩;have HI2:=y15h (HI0.out.later hb2))
 clear hb2 HI0 C
 go_loopw [7] (fun iv wr=>z09 l id r c len (knA A (.slice oa len cap)) #[.int .i64 r,.int .i64 c] w iv wr) (fun iv _=>len - (intOf iv).toNat)
 case atStart=>exact ⟨0,Nat.zero_le _,rfl,fun j f hj=>absurd hj (by omega),HI2⟩
 case round =>
   clear HI2
   obtain ⟨k,hk,rfl,HA,HS⟩:=hrel
   have l1:=HS.out.o1.cell
   have z1:=HS.out.o1.lt
   by_cases hlt:k < len
   · obtain ⟨f,hf⟩:∃ f,l[k]?=some f:=⟨_,List.getElem?_eq_getElem (by rw [HN.out];exact hlt)⟩
     obtain ⟨rfl,hb0⟩:=HR.out.at0 (by rw [HN.out];omega)
     obtain ⟨c0,c1,c2,c3,c4,c5,c6,c7,c8⟩:=zb6 (w:=wr) (fun j z hz=>(HS.out.bel.cell (p:=⟨b0,o + k * 9 + j,none⟩) hb0).trans (HR.out.cell k f hf j z hz))
     have htx:=(HR.out.ids k f hf).later HS.out.bel (Nat.le_refl _)
     obtain ⟨ou,cu,hu⟩:=htx.val
     rw [hu] at c0 htx
     have m1:=fun dd os=>y15h (Calls.regrown_of ((zjd f.ids id _ (Sort.grow (redrawn wr dd) os) (htx.later (below_regrown _ _ _) (Nat.le_refl _))).mono (fun e w' h=>(⟨h.1,by rw [← h.2];exact Below.refl _ _⟩:e=.returned (.bool (za6 f.ids id))∧Below _ _ w'))))
     have m2:=fun dd os=>y15h (Calls.regrown_of (zia f.v r c (Sort.grow (redrawn wr dd) os)))
     have HF:=y15h hf
     clear hf hu htx
     have LA:=fun dd os q=>HS.out.o1.regrown dd os q
     have LB:=fun dd os q=>HS.out.o2.regrown dd os q
     have r0:=fun dd os=>cell_regrown c0 dd os
     have r1:=fun dd os=>cell_regrown c1 dd os
     have r2:=fun dd os=>cell_regrown c2 dd os
     have r3:=fun dd os=>cell_regrown c3 dd os
     have r4:=fun dd os=>cell_regrown c4 dd os
     have r5:=fun dd os=>cell_regrown c5 dd os
     have r6:=fun dd os=>cell_regrown c6 dd os
     have r7:=fun dd os=>cell_regrown c7 dd os
     have r8:=fun dd os=>cell_regrown c8 dd os
     clear c0 c1 c2 c3 c4 c5 c6 c7 c8
     have k0:(0:Int)≤(k:Int):=by omega
     have k1:(k:Int) < (len:Int):=by omega
     have HFR:=y15h (show zdb id r c f=(za6 f.ids id && hasV f.v r c) from rfl)
     have HNX:Hid (zdb id r c f=false→∀ j g,j < k + 1→l[j]?=some g→zdb id r c g=false):=fun h j g hj hg=>by
       by_cases e:j=k
       · subst e;rw [HF.out] at hg;cases hg;exact h
       · exact HA.out j g (by omega) hg
     generalize za6 f.ids id=am at *
     generalize hasV f.v r c=hv at *
     cases am
     · have HN2:=y15h (HNX.out (by rw [HFR.out];rfl))
       go_wp2_with fail
       refine wp_region_quiet_below (by kernel_rfl) (by kernel_rfl) ?_
       repeat (first | go_big_quiet_step ((first | with_reducible exact (m1 _ _).out | with_reducible exact (m2 _ _).out)) | quiet_step (first | with_reducible exact (m1 _ _).out | with_reducible exact (m2 _ _).out))
       refine wpQuiet_nil ?_
       intro w7 hw'
       have hb':=y15h (zag hw')
       clear hw' m1 m2 LA LB r0 r1 r2 r3 r4 r5 r6 r7 r8
       have HS7:=y15h (HS.out.later hb'.out)
       clear l1
       go_wp2_with fail
       go_roundw
       case rel=>exact ⟨k + 1,by omega,by go_num,HN2,HS7⟩
       case measure=>simp [intOf];omega
     · cases hv
       · have HN2:=y15h (HNX.out (by rw [HFR.out];rfl))
         go_wp2_with fail
         refine wp_region_quiet_below (by kernel_rfl) (by kernel_rfl) ?_
         repeat (first | go_big_quiet_step ((first | with_reducible exact (m1 _ _).out | with_reducible exact (m2 _ _).out)) | quiet_step (first | with_reducible exact (m1 _ _).out | with_reducible exact (m2 _ _).out))
         refine wpQuiet_nil ?_
         intro w7 hw'
         have hb':=y15h (zag hw')
         clear hw' m1 m2 LA LB r0 r1 r2 r3 r4 r5 r6 r7 r8
         have HS7:=y15h (HS.out.later hb'.out)
         clear l1
         go_wp2_with fail
         go_roundw
         case rel=>exact ⟨k + 1,by omega,by go_num,HN2,HS7⟩
         case measure=>simp [intOf];omega
       · have E:=y15h (show res=true by
           rw [HE2.out,List.any_eq_true]
           exact ⟨f,List.mem_of_getElem? HF.out,by rw [HFR.out];rfl⟩)
         go_wp2_with fail
         refine wp_region_quiet_below (by kernel_rfl) (by kernel_rfl) ?_
         repeat (first | go_big_quiet_step ((first | with_reducible exact (m1 _ _).out | with_reducible exact (m2 _ _).out)) | quiet_step (first | with_reducible exact (m1 _ _).out | with_reducible exact (m2 _ _).out))
         refine wpQuiet_nil ?_
         intro w7 hw'
         have hb':=y15h (zag hw')
         clear hw' m1 m2 LA LB r0 r1 r2 r3 r4 r5 r6 r7 r8
         clear l1
         go_wp2_with fail
         go_ret
         exact ⟨zac E.out.symm,HS.out.bel.trans (hb'.out.mono HS.out.bel.size)⟩
   · have e:len=k:=by omega
     subst e
     have E:=y15h (show res=false by
       rw [HE2.out,List.any_eq_false]
       intro f hf
       obtain ⟨j,hj,e⟩:=List.mem_iff_getElem.1 hf
       have:=HA.out j f (by have:=HN.out;omega) (by rw [List.getElem?_eq_getElem hj,e])
       simp [this])
     go_wp2_with fail
     go_ret
     exact ⟨zac E.out.symm,HS.out.bel⟩
end Go.Proofs.YtodfhabkdaiopaaGreat
