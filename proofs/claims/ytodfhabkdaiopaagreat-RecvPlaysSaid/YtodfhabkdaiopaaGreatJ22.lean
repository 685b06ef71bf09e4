/- Joined: LCmp, Has, LMay, HasC. -/
import Derived.Test.YtodfhabkdaiopaaGreatJ18
import Derived.Test.YtodfhabkdaiopaaGreatJ11
import Derived.Test.YtodfhabkdaiopaaGreatJ19
import Derived.Test.YtodfhabkdaiopaaGreatJ17
import Derived.Test.YtodfhabkdaiopaaGreatJ01
import Derived.Test.YtodfhabkdaiopaaGreatJ20
import Derived.Test.YtodfhabkdaiopaaGreatJ12
import Derived.Deep.DeepCutAuto
namespace Go.Proofs.YtodfhabkdaiopaaGreat
set_option linter.unusedVariables false
set_option linter.unusedSimpArgs false
set_option maxRecDepth 100000
set_option maxHeartbeats 8000000
open Go.RowKit
theorem y22h {p:Prop} (h:p):Go.RowKit.Hid p:=Lib.hid h
def cmpS (a b:ByteArray):Int:=if lsB a b=true then -1 else if lsB b a=true then 1 else 0
theorem zn0 (a b:ByteArray):decide (cmpS a b < 0)=lsB a b:=by
 unfold cmpS
 cases lsB a b <;> cases lsB b a <;> simp
theorem zl8 (a b:ByteArray):decide (cmpS a b=0)=(a.toList == b.toList):=by
 unfold cmpS
 rcases zdy a b with h | h | h
 · rw [h,tl_ne.2 (zfd h)];simp
 · rw [h,zbl,tl_eq.2 rfl];simp
 · rw [zeb h,h,tl_ne.2 fun e=>zfd h e.symm];simp
theorem zok (a:ByteArray) (w:World) :
   Calls Tryz.prog 191 #[.string a] w fun e w'=>e=.returned (.bool false)∧w=w':=by
 go_enter Tryz.func191,Tryz.ntmps191
 go_wp2
 go_ret
 exact ⟨zac (by simp),rfl⟩
theorem zkh (a b:ByteArray) (w:World) :
   Calls Tryz.prog 135 #[.string a,.string b] w fun e w'=>e=.returned (.int .i64 (cmpS a b))∧w=w':=by
 have H:=fun a w=>y22h (zok a w)
 cases h1:Op.bytesLess a.toList b.toList
 · cases h2:(a.toList == b.toList)
   · have e:cmpS a b=1:=by
       unfold cmpS lsB
       have:=zdy a b
       unfold lsB at this
       rcases this with h | h | h
       · rw [h1] at h;cases h
       · rw [tl_eq.2 h] at h2;cases h2
       · rw [h1,h];rfl
     rw [e]
     go_enter Tryz.func135,Tryz.ntmps135
     go_wp2_with (go_at_call 191;refine ((H _ _).out).mono ?_;rintro e w' ⟨rfl,rfl⟩)
     all_goals
       go_ret
       first | exact ⟨zcq (by simp_all),rfl⟩ | simp_all
   · have e:cmpS a b=0:=by
       unfold cmpS
       rw [tl_eq.1 h2,zbl];rfl
     rw [e]
     go_enter Tryz.func135,Tryz.ntmps135
     go_wp2_with (go_at_call 191;refine ((H _ _).out).mono ?_;rintro e w' ⟨rfl,rfl⟩)
     all_goals
       go_ret
       first | exact ⟨zcq (by simp_all),rfl⟩ | simp_all
 · have e:cmpS a b=-1:=by
     unfold cmpS lsB
     rw [h1];rfl
   rw [e]
   go_enter Tryz.func135,Tryz.ntmps135
   go_wp2_with (go_at_call 191;refine ((H _ _).out).mono ?_;rintro e w' ⟨rfl,rfl⟩)
   all_goals
     go_ret
     first | exact ⟨zcq (by simp_all),rfl⟩ | simp_all
theorem zqe (x:Itm) (id:ByteArray) (w:World) :
   Calls Tryz.prog 193 #[iV x,.string id] w fun e w'=>e=.returned (.int .i64 (cmpS x.id id))∧Below w.heap.size w w':=by
 have H:=fun a b w=>y22h (zkh a b w)
 have BEL:=y22h ((Below.refl w.heap.size w).alloc (Nat.le_refl _) (.cells (iA x) 58))
 go_enter Tryz.func193,Tryz.ntmps193
 go_wp2_with (go_at_call 135;refine ((H _ _ _).out).mono ?_;rintro e w' ⟨rfl,rfl⟩)
 go_ret
 exact ⟨rfl,BEL.out⟩
def z03 (k len:Nat) (w:World) (iv jv:Value) (wr:World):Prop :=
 ∃ i j:Nat,iv=.int .i64 i∧jv=.int .i64 j∧i≤k∧k≤j∧j≤len∧Hid (Below w.heap.size w wr)
theorem zm3 (l:List Itm) (id:ByteArray) (v:Value) (w:World) (hR:Row 8 ic w l v) (hr:zap l) (hl:l.length≤10000) :
   Calls Tryz.prog 192 #[v,.string id,.func (.func 193) #[] #[]] w fun e w'=>e=.returned (.tuple #[.int .i64 (posI l id),.bool (hitI l id)])∧Below w.heap.size w w':=by
 obtain ⟨oa,cap,b,o,rfl,hR⟩:=hR
 have HR:=y22h hR
 have HC:=fun x w=>y22h (zqe x id w)
 have hcap:=hR.len
 have hmax:=hR.max
 unfold maxLen at hmax
 have PI:=fun (j:Nat) (i:Itm) (h:l[j]?=some i)=>y22h (zly (id:=id) hr h)
 have hk:=zgi l id
 have HH:=y22h (show ∀ i,l[posI l id]?=some i→hitI l id=(i.id.toList == id.toList) from fun i hi=>by unfold hitI;rw [hi])
 have HN0:=y22h (show l[posI l id]?=none→hitI l id=false from fun hi=>by unfold hitI;rw [hi])
 clear hR hr
 generalize hn:l.length=len at *
 have HN:=y22h hn
 clear hn
 generalize posI l id=k at *
 generalize hitI l id=hit at *
 go_enter Tryz.func192,Tryz.ntmps192
 go_wp2_with fail
 go_loopw [9,10] (fun iv jv wr=>z03 k len w iv jv wr) (fun iv jv _=>(intOf jv).toNat - (intOf iv).toNat)
 case atStart=>exact ⟨0,len,rfl,rfl,Nat.zero_le _,hk,Nat.le_refl _,Below.refl _ _⟩
 case round =>
   obtain ⟨i,j,rfl,rfl,hi,hj,hjl,HB⟩:=hrel
   by_cases hlt:i < j
   · obtain ⟨x,hx⟩:∃ x,l[(i + j) / 2]?=some x:=⟨_,List.getElem?_eq_getElem (by rw [HN.out];omega)⟩
     obtain ⟨rfl,hb0⟩:=HR.out.at0 (by rw [HN.out];omega)
     obtain ⟨c0,c1,c2,c3,c4,c5,c6,c7⟩:=zbe (w:=wr) (fun q u hu=>(HB.out.cell (p:=⟨b,o + (i + j) / 2 * 8 + q,none⟩) hb0).trans (HR.out.cell _ x hx q u hu))
     have zb:=Nat.lt_of_lt_of_le hb0 HB.out.size
     have P:=PI _ _ hx
     have k1:(i:Int) < (j:Int):=by omega
     have h1:(i + j) / 2 < j:=by omega
     have h2:i≤(i + j) / 2:=by omega
     have e1:((i:Int) + (j:Int)) / 2=(((i + j) / 2:Nat):Int):=by omega
     generalize (i + j) / 2=h at *
     have q0:(0:Int)≤(h:Int):=by omega
     have q1:(h:Int) < (len:Int):=by omega
     cases hs:lsB x.id id
     · have g:decide (cmpS x.id id < 0)=false:=by rw [zn0];exact hs
       have hle:k≤h:=by have:=P.out;rw [hs] at this;have:=of_decide_eq_false this.symm;omega
       clear P PI HH HN0 hs
       go_wp2_with (go_at_call 193;refine (HC _ _).out.mono ?_;rintro e w' ⟨rfl,hb⟩)
       go_roundw
       case rel=>exact ⟨i,h,rfl,rfl,hi,hle,by omega,y22h (HB.out.trans (hb.mono HB.out.size))⟩
       case measure=>simp [intOf];omega
     · have g:decide (cmpS x.id id < 0)=true:=by rw [zn0];exact hs
       have hle:h < k:=by have:=P.out;rw [hs] at this;have:=of_decide_eq_true this.symm;omega
       clear P PI HH HN0 hs
       go_wp2_with (go_at_call 193;refine (HC _ _).out.mono ?_;rintro e w' ⟨rfl,hb⟩)
       go_roundw
       case rel=>exact ⟨h + 1,j,by go_num,rfl,hle,hj,hjl,y22h (HB.out.trans (hb.mono HB.out.size))⟩
       case measure=>simp [intOf];omega
   · have e:i=k:=by omega
     subst e
     have e:j=i:=by omega
     subst e
     clear hi hj
     by_cases hlt2:j < len
     · obtain ⟨x,hx⟩:∃ x,l[j]?=some x:=⟨_,List.getElem?_eq_getElem (by rw [HN.out];omega)⟩
       obtain ⟨rfl,hb0⟩:=HR.out.at0 (by rw [HN.out];omega)
       obtain ⟨c0,c1,c2,c3,c4,c5,c6,c7⟩:=zbe (w:=wr) (fun q u hu=>(HB.out.cell (p:=⟨b,o + j * 8 + q,none⟩) hb0).trans (HR.out.cell _ x hx q u hu))
       have zb:=Nat.lt_of_lt_of_le hb0 HB.out.size
       have q0:(0:Int)≤(j:Int):=by omega
       have q1:(j:Int) < (len:Int):=by omega
       have E:=y22h (HH.out x hx)
       clear PI HH HN0 hx
       cases hs:(x.id.toList == id.toList)
       · have g:(cmpS x.id id == 0)=false:=by
           have:=zl8 x.id id;rw [hs] at this
           rw [beq_eq_false_iff_ne];exact of_decide_eq_false this
         have E:=y22h (E.out.trans hs)
         go_wp2_with (go_at_call 193;refine (HC _ _).out.mono ?_;rintro e w' ⟨rfl,hb⟩)
         go_ret2
         exact ⟨by rw [E.out];rfl,HB.out.trans (hb.mono HB.out.size)⟩
       · have g:(cmpS x.id id == 0)=true:=by
           have:=zl8 x.id id;rw [hs] at this
           rw [beq_iff_eq];exact of_decide_eq_true this
         have E:=y22h (E.out.trans hs)
         go_wp2_with (go_at_call 193;refine (HC _ _).out.mono ?_;rintro e w' ⟨rfl,hb⟩)
         go_ret2
         exact ⟨by rw [E.out];rfl,HB.out.trans (hb.mono HB.out.size)⟩
     · have E:=y22h (HN0.out (List.getElem?_eq_none (by rw [HN.out];omega)))
       go_wp2_with fail
       go_ret2
       exact ⟨by rw [E.out];rfl,HB.out⟩
theorem zhd (l:List Itm) (id:ByteArray) (v:Value) (w:World) (hR:Row 8 ic w l v) (hr:zap l) (hl:l.length≤10000) :
   Calls Tryz.prog 136 #[v,.string id] w fun e w'=>e=.returned (.tuple #[.int .i64 (posI l id),.int .i64 (toI l id)])∧Below w.heap.size w w':=by
 have H:=y22h (zm3 l id v w hR hr hl)
 obtain ⟨oa,cap,rfl⟩:=hR.val
 have hk:=zgi l id
 unfold toI
 clear hR hr
 generalize hitI l id=hit at *
 generalize posI l id=k at *
 cases hit
 · go_enter Tryz.func136,Tryz.ntmps136
   go_wp2_with (go_at_call 192;refine H.out.mono ?_;rintro e w' ⟨rfl,hb⟩)
   go_ret2
   exact ⟨rfl,hb⟩
 · go_enter Tryz.func136,Tryz.ntmps136
   go_wp2_with (go_at_call 192;refine H.out.mono ?_;rintro e w' ⟨rfl,hb⟩)
   go_ret2
   exact ⟨rfl,hb⟩
abbrev itV (i:It) (r c st:Int) (d:Bool):Value:=.agg #[.string i.id,.int .i64 r,.int .i64 c,.int .i64 st,.string i.kd,.int .i64 i.num,.complex .f64 i.ax i.ay,.bool d]
abbrev itC (i:It) (r c st:Int) (d:Bool):Array Value:=#[.string i.id,.int .i64 r,.int .i64 c,.int .i64 st,.string i.kd,.int .i64 i.num,.complex .f64 i.ax i.ay,.bool d]
def zkc (i:It) (r c st:Int) (d:Bool) (k:Pr):Prop:=∀ (v:Value) (w:World),LP w k v →
   Calls Tryz.prog 139 #[.agg #[.int .i64 k.op,.string k.text,.int .i64 k.n,.complex .f64 k.x k.y,v],itV i r c st d] w fun e w'=>e=.returned (.bool (k.hasB i))∧Below w.heap.size w w'
theorem zqd (i:It) (r c st:Int) (d b:Bool) (k:Pr) (H:zkc i r c st d k) (v:Value) (w:World) (hL:LP w k v) (bx bh:Nat) (hx:Has w bx (itC i r c st d)) (hh:Has w bh #[.bool b]) :
   Calls Tryz.prog 231 #[.agg #[.int .i64 k.op,.string k.text,.int .i64 k.n,.complex .f64 k.x k.y,v],.pointer (some ⟨bx,0,none⟩),.pointer (some ⟨bh,0,none⟩)] w fun e w'=>e=.returned (.bool (k.hasB i == b))∧Below w.heap.size w w':=by
 obtain ⟨oq,cq,rfl⟩:=zao hL
 have CC:=fun dd os o=>H (.slice oq k.kids.length cq) (Sort.grow (redrawn (w.alloc o) dd) os) ((hL.atAlloc o).later (below_regrown _ _ _) (Nat.le_refl _))
 have m3:=fun dd os o=>y22h (Calls.regrown_of (CC dd os o))
 have G1:=y22h (Has.new w #[.int .i64 k.op,.string k.text,.int .i64 k.n,.complex .f64 k.x k.y,.slice oq k.kids.length cq] 32)
 have l1:=G1.out.cell
 have LA:=fun dd os o=>G1.out.regrown dd os o
 have LB:=fun dd os a o=>(hx.alloc a).regrown dd os o
 have LC:=fun dd os a o=>(hh.alloc a).regrown dd os o
 have z1:=hx.lt
 have z2:=hh.lt
 generalize Pr.hasB i k=kb at *
 clear CC hL H hx hh
 go_enter Tryz.func231,Tryz.ntmps231
 go_wp2_with fail
 refine wp_region_quiet_below (by kernel_rfl) (by kernel_rfl) ?_
 repeat (first | go_big_quiet_step ((with_reducible exact (m3 _ _ _).out)) | quiet_step (with_reducible exact (m3 _ _ _).out))
 refine wpQuiet_nil ?_
 intro w7 hw'
 have hb':=y22h (zag hw')
 clear hw' m3 LA LB LC
 go_wp2_with fail
 go_ret
 exact ⟨rfl,zai hb'.out⟩
def z1a (P:Pr→Bool) (l:List Pr) (len:Nat) (w0:World) (i:Value) (wr:World):Prop :=
 ∃ k:Nat,k≤len∧i=.int .i64 k∧Hid ((l.take k).any P=false)∧Below w0.heap.size w0 wr
theorem zve {P:Pr→Bool} {l:List Pr} {k:Nat} {q:Pr} (hq:l[k]?=some q) (h:(l.take k).any P=false) (hs:P q=false):(l.take (k + 1)).any P=false:=by
 rw [Pr.take_one hq,List.any_append,h];simp [hs]
theorem zye {P:Pr→Bool} {l:List Pr} {k:Nat} {q:Pr} (hq:l[k]?=some q) (hs:P q=true):l.any P=true:=by
 rw [List.any_eq_true];exact ⟨q,List.mem_of_getElem? hq,hs⟩
theorem zoe (i:It) (r c st:Int) (d b:Bool) (l:List Pr) (H:∀ k∈l,zkc i r c st d k) (oa:Option Addr) (cap:Nat) (w:World) (hL:LK w l (.slice oa l.length cap)) (bx bh:Nat) (hx:Has w bx (itC i r c st d)) (hh:Has w bh #[.bool b]) :
   Calls Tryz.prog 242 #[.slice oa l.length cap,.func (Fn.func 231) #[] #[.pointer (some ⟨bx,0,none⟩),.pointer (some ⟨bh,0,none⟩)]] w fun e w' =>
     ∃ n:Int,e=.returned (.int .i64 n)∧decide (0≤n)=(l.any fun k=>k.hasB i == b)∧Below w.heap.size w w':=by
 obtain ⟨_,_,ba,o,V,e1,_,hl,hc,hn,hcell,hrec⟩:=zba hL
 cases e1
 simp only [Pr.kids_node] at *
 unfold maxLen at hc
 have HC:=y22h hcell
 have HR:=y22h hrec
 have HN:=y22h hn
 have HH:=y22h H
 have HX:=y22h hx
 have HB2:=y22h hh
 clear hL hcell hrec hn H hx hh
 generalize hla:l.length=la at *
 have HLA:=y22h hla
 clear hla
 go_enter Tryz.func242,Tryz.ntmps242
 go_wp2_with fail
 go_loopw [8] (fun j wr=>z1a (fun k=>k.hasB i == b) l la w j wr) (fun j _=>la - (intOf j).toNat)
 case atStart=>exact ⟨0,Nat.zero_le _,rfl,by simp [Hid],Below.refl _ _⟩
 case round =>
   obtain ⟨k,hk,rfl,HS,hb⟩:=hrel
   by_cases hlt:k < la
   · obtain ⟨p,hp⟩:∃ p,l[k]?=some p:=⟨_,List.getElem?_eq_getElem (by rw [HLA.out];exact hlt)⟩
     obtain ⟨rfl,hB⟩:=HN.out (by omega)
     obtain ⟨oq,cq,hV⟩:=zao (HR.out k p hp)
     obtain ⟨c0,c1,c2,c3,c4⟩:=zce (w:=wr) (fun j u hu=>(hb.cell (p:=⟨ba,o + k * 5 + j,none⟩) hB).trans (HC.out k p hp j u hu))
     have L0:=(HR.out k p hp).later hb (Nat.le_refl _)
     rw [hV] at c4 L0
     have CC:=zqd i r c st d b p (HH.out p (List.mem_of_getElem? hp)) (.slice oq p.kids.length cq) wr L0 bx bh (HX.out.below hb HX.out.lt) (HB2.out.below hb HB2.out.lt)
     have HB:=y22h hb
     have HS0:=HS.out
     cases hs:(p.hasB i == b)
     · have HF:=y22h (zve (P:=fun k=>k.hasB i == b) hp HS0 hs)
       rw [hs] at CC
       have CC:=y22h CC
       clear hb hV L0 HS0 hs hp
       go_wp2_with (go_at_call 231;refine CC.out.mono ?_;rintro e w' ⟨rfl,hb'⟩)
       go_roundw
       case rel=>exact ⟨k + 1,by omega,by go_num,HF.out,HB.out.trans (hb'.mono HB.out.size)⟩
       case measure=>simp [intOf];omega
     · have HF:=y22h (zye (P:=fun k=>k.hasB i == b) hp hs)
       rw [hs] at CC
       have CC:=y22h CC
       clear hb hV L0 HS0 hs hp
       go_wp2_with (go_at_call 231;refine CC.out.mono ?_;rintro e w' ⟨rfl,hb'⟩)
       go_ret
       exact ⟨_,rfl,by rw [HF.out];simp,HB.out.trans (hb'.mono HB.out.size)⟩
   · have HB:=y22h hb
     clear hb
     have e:k=la:=by omega
     have h7:=HS.out
     rw [Pr.take_all l (by rw [HLA.out];omega)] at h7
     have H7:=y22h h7
     clear h7 e
     go_wp2_with fail
     go_ret
     exact ⟨_,rfl,by rw [H7.out];simp,HB.out⟩
theorem zkj (i:It) (r c st:Int) (d b:Bool) (l:List Pr) (H:∀ k∈l,zkc i r c st d k) (oa:Option Addr) (cap:Nat) (w:World) (hL:LK w l (.slice oa l.length cap)) (bx bh:Nat) (hx:Has w bx (itC i r c st d)) (hh:Has w bh #[.bool b]) :
   Calls Tryz.prog 230 #[.slice oa l.length cap,.func (Fn.func 231) #[] #[.pointer (some ⟨bx,0,none⟩),.pointer (some ⟨bh,0,none⟩)]] w fun e w' =>
     e=.returned (.bool (l.any fun k=>k.hasB i == b))∧Below w.heap.size w w':=by
 have C:=y22h (zoe i r c st d b l H oa cap w hL bx bh hx hh)
 clear H hL hx hh
 go_enter Tryz.func230,Tryz.ntmps230
 go_wp2_with (go_at_call 242;refine C.out.mono ?_;rintro e w' ⟨n,rfl,hn,hb⟩)
 go_ret
 exact ⟨zac (by rw [← hn]),hb⟩
theorem zsi (i:It) (r c st:Int) (d b:Bool) (l:List Pr) (H:∀ k∈l,zkc i r c st d k) (oa:Option Addr) (cap:Nat) (w:World) (hL:LK w l (.slice oa l.length cap)) :
   Calls Tryz.prog 197 #[.slice oa l.length cap,itV i r c st d,.bool b] w fun e w' =>
     e=.returned (.bool (l.any fun k=>k.hasB i == b))∧Below w.heap.size w w':=by
 have C:=y22h (zkj i r c st d b l H oa cap ((w.alloc (.cells (itC i r c st d) 58)).alloc (.cells #[.bool b] 4)) ((hL.atAlloc _).atAlloc _) w.heap.size (w.heap.size + 1) ((Has.new w _ _).alloc _) ((Own.newAt _ _ _ (by simp)).has))
 clear H hL
 go_enter Tryz.func197,Tryz.ntmps197
 go_wp2_with (go_at_call 230;refine C.out.mono ?_;rintro e w' ⟨rfl,hb⟩)
 go_ret
 exact ⟨rfl,zai (zai hb)⟩
theorem zkz (i:Itm) (w:World) :
   Calls Tryz.prog 134 #[iV i] w fun e w'=>e=.returned (.bool (mayT i))∧Below w.heap.size w w' :=
 znb i.id i.r i.c i.st i.kd i.num i.x i.y i.d w
theorem zd0 (l:List Itm) (id:ByteArray) (v:Value) (w:World) (hR:Row 8 ic w l v) (hr:zap l) (hl:l.length≤1000) (_:id.size≤maxLen) :
   Calls Tryz.prog 61 #[v,.string id] w fun e w'=>e=.returned (.tuple #[iV (getI l id).1,.bool (getI l id).2])∧Below w.heap.size w w':=by
 have LR:=y22h (hR.alloc (.cells (iA Itm.zero) 58))
 have S:=y22h (zhd l id v _ LR.out hr (by omega))
 have OT:=y22h (Own.new w (iA Itm.zero) 58)
 have BEL:=y22h ((Below.refl w.heap.size w).alloc (Nat.le_refl _) (.cells (iA Itm.zero) 58))
 clear hR
 cases hh:hitI l id
 · have e:=zto hr hh
   have et:toI l id=posI l id:=by unfold toI;rw [hh];rfl
   rw [e]
   rw [et] at S
   clear hr hh
   obtain ⟨oa,cap,rfl⟩:=LR.out.val
   have hk:=zgi l id
   clear e et
   generalize posI l id=k at *
   go_enter Tryz.func61,Tryz.ntmps61
   go_wp2_with (go_at_call 136;refine S.out.mono ?_;rintro e w' ⟨rfl,hb⟩;replace OT:=y22h (OT.out.later hb);replace BEL:=y22h (BEL.out.trans (hb.mono BEL.out.size));have l1:=OT.out.cell;have f1:=OT.out.free;have z1:=OT.out.lt)
   have key:=And.intro (zbr OT.out (.string ⟨#[]⟩) (.int .i64 0) (.int .i64 0) (.int .i64 0) (.string ⟨#[]⟩) (.int .i64 0) (.complex .f64 0 0) (.bool false)) (za5 (b:=w.heap.size) BEL.out (Nat.le_refl _) (.string ⟨#[]⟩) (.int .i64 0) (.int .i64 0) (.int .i64 0) (.string ⟨#[]⟩) (.int .i64 0) (.complex .f64 0 0) (.bool false))
   unfold st8 at key
   revert key
   generalize World.setCell (World.setCell (World.setCell (World.setCell (World.setCell (World.setCell (World.setCell (World.setCell _ _ _) _ _) _ _) _ _) _ _) _ _) _ _) _ _=WW
   rintro ⟨of,bf⟩
   exact zab (by rfl) (by rfl) (by rfl) (l:=ic Itm.zero) of.range Tryz.underlying58 (by rfl) (by kernel_rfl) rfl ⟨rfl,bf⟩
 · obtain ⟨i,hi,e⟩:=zv1 hr hh
   have et:toI l id=posI l id + 1:=by unfold toI;rw [hh];rfl
   rw [e]
   rw [et] at S
   clear hr hh
   obtain ⟨oa,cap,b,o,rfl,hL⟩:=LR.out
   have hk:=zbo hi
   clear e et
   generalize posI l id=k at *
   obtain ⟨rfl,hb0⟩:=hL.at0 (by omega)
   have cs:=fun j u hu=>hL.cell k i hi j u hu
   have k0:(0:Int)≤(k:Int):=by omega
   have k1:(k:Int) < (l.length:Int):=by omega
   have CS:=y22h cs
   have hne:decide ((k:Int)=(k:Int) + 1)=false:=decide_eq_false (by omega)
   have hne2:((k:Int) == (k:Int) + 1)=false:=by rw [beq_eq_false_iff_ne];omega
   clear cs hL
   go_enter Tryz.func61,Tryz.ntmps61
   go_wp2_with (go_at_call 136;refine S.out.mono ?_;rintro e w' ⟨rfl,hb⟩;obtain ⟨c0,c1,c2,c3,c4,c5,c6,c7⟩:=zbe (w:=w') (fun j u hu=>(hb.cell (p:=⟨b,o + k * 8 + j,none⟩) hb0).trans (CS.out j u hu));have zb:=Nat.lt_of_lt_of_le hb0 hb.size;replace OT:=y22h (OT.out.later hb);replace BEL:=y22h (BEL.out.trans (hb.mono BEL.out.size));have l1:=OT.out.cell;have f1:=OT.out.free;have z1:=OT.out.lt)
   have key:=And.intro (zbr OT.out (.string i.id) (.int .i64 i.r) (.int .i64 i.c) (.int .i64 i.st) (.string i.kd) (.int .i64 i.num) (.complex .f64 i.x i.y) (.bool i.d)) (za5 (b:=w.heap.size) BEL.out (Nat.le_refl _) (.string i.id) (.int .i64 i.r) (.int .i64 i.c) (.int .i64 i.st) (.string i.kd) (.int .i64 i.num) (.complex .f64 i.x i.y) (.bool i.d))
   unfold st8 at key
   revert key
   generalize World.setCell (World.setCell (World.setCell (World.setCell (World.setCell (World.setCell (World.setCell (World.setCell _ _ _) _ _) _ _) _ _) _ _) _ _) _ _) _ _=WW
   rintro ⟨of,bf⟩
   exact zab (by rfl) (by rfl) (by rfl) (l:=ic i) of.range Tryz.underlying58 (by rfl) (by kernel_rfl) rfl ⟨rfl,bf⟩
theorem zyc (i:It) (l:List Pr):Pr.hasAll i l=!(l.any fun k=>k.hasB i == false):=by
 induction l with
 | nil=>simp [Pr.hasAll]
 | cons a l ih=>simp only [Pr.hasAll,ih,List.any_cons,Bool.not_or];cases Pr.hasB i a <;> simp
theorem zyd (i:It) (l:List Pr):Pr.hasAny i l=l.any fun k=>k.hasB i == true:=by
 induction l with
 | nil=>simp [Pr.hasAny]
 | cons a l ih=>simp only [Pr.hasAny,ih,List.any_cons];cases Pr.hasB i a <;> simp
theorem zml (i:It) (r c st:Int) (d:Bool) (hid:i.id.size≤maxLen) (p:Pr):zkc i r c st d p:=by
 induction p using Pr.ind with
 | h op t n x y kids ih =>
   intro v w hL
   obtain ⟨oa,cap,b,o,V,rfl,ht,hl,hc,hn,hcell,hrec⟩:=zba hL
   have LK0:=zt6 hL
   simp only [Pr.kids_node,Pr.text_node,Pr.op_node,Pr.n_node,Pr.x_node,Pr.y_node] at *
   unfold maxLen at hc
   have SM:=fun b w' h=>y22h (zsi i r c st d b kids ih oa cap w' h)
   have LL:=fun a a'=>y22h ((LK0.atAlloc a).atAlloc a')
   have HC:=y22h hcell
   have HR:=y22h hrec
   have HN:=y22h hn
   have HI:=y22h ih
   have HT:=y22h ht
   have HID:=y22h hid
   clear hL LK0 hcell hrec hn ih ht hid
   have HAll:=y22h (zyc i kids)
   have HAny:=y22h (zyd i kids)
   generalize hlen:kids.length=len at *
   have HLEN:=y22h hlen
   clear hlen
   generalize hres:Pr.hasB i (.node op t n x y kids)=res
   have HRES:=y22h hres
   clear hres
   have BE:=fun (a a':Obj)=>y22h (((Below.refl w.heap.size w).alloc (Nat.le_refl _) a).alloc (by simp) a')
   have hop:op=1 ∨ op=3 ∨ op=4 ∨ op=5 ∨ op=6 ∨ op=7 ∨ op=8 ∨ op=9 ∨ op=10 ∨ (op ≠ 1∧op ≠ 3∧op ≠ 4∧op ≠ 5∧op ≠ 6∧op ≠ 7∧op ≠ 8∧op ≠ 9∧op ≠ 10):=by omega
   rcases hop with rfl | rfl | rfl | rfl | rfl | rfl | rfl | rfl | rfl | ⟨n1,n3,n4,n5,n6,n7,n8,n9,n10⟩
   · have E:=y22h (show res=true by rw [← HRES.out];simp [Pr.hasB])
     go_enter Tryz.func139,Tryz.ntmps139
     go_wp2_with fail
     go_ret
     exact ⟨zac E.out.symm,(BE _ _).out⟩
   · have E:=y22h (show res=decide (i.kd.toList=t.toList) by rw [← HRES.out];simp [Pr.hasB])
     go_enter Tryz.func139,Tryz.ntmps139
     go_wp2_with fail
     all_goals
       go_ret
       exact ⟨zac (by rw [E.out];first | done | (rw [Bool.eq_iff_iff];simp;done) | (simp_all;done)),(BE _ _).out⟩
   · have E:=y22h (show res=begB i.id t by rw [← HRES.out];simp [Pr.hasB])
     have C:=fun w=>y22h (zoz i.id t w HID.out HT.out)
     go_enter Tryz.func139,Tryz.ntmps139
     go_wp2_with (go_at_call 195;refine (C _).out.mono ?_;rintro e w' ⟨rfl,rfl⟩)
     go_ret
     exact ⟨zac E.out.symm,(BE _ _).out⟩
   · have E:=y22h (show res=decide (i.num < n) by rw [← HRES.out];simp [Pr.hasB])
     go_enter Tryz.func139,Tryz.ntmps139
     go_wp2_with fail
     all_goals
       go_ret
       exact ⟨zac (by rw [E.out];first | done | (rw [Bool.eq_iff_iff];simp;done) | (simp_all;done)),(BE _ _).out⟩
   · have E:=y22h (show res=decide (n≤i.num) by rw [← HRES.out];simp [Pr.hasB])
     go_enter Tryz.func139,Tryz.ntmps139
     go_wp2_with fail
     all_goals
       go_ret
       exact ⟨zac (by rw [E.out];first | done | (rw [Bool.eq_iff_iff];simp;done) | (simp_all;done)),(BE _ _).out⟩
   · have E:=y22h (show res=zix i.ax i.ay x y n by rw [← HRES.out];simp [Pr.hasB])
     have C:=fun w=>y22h (zr3 i.ax i.ay x y n w)
     generalize zix i.ax i.ay x y n=fv at *
     go_enter Tryz.func139,Tryz.ntmps139
     go_wp2_with (go_at_call 196;refine (C _).out.mono ?_;rintro e w' ⟨rfl,rfl⟩)
     go_ret
     exact ⟨zac E.out.symm,(BE _ _).out⟩
   · have E:=y22h (show res=!(kids.any fun k=>k.hasB i == false) by rw [← HRES.out,← HAll.out];simp [Pr.hasB])
     go_enter Tryz.func139,Tryz.ntmps139
     go_wp2_with (go_at_call 197;refine (SM _ _ (LL _ _).out).out.mono ?_;rintro e w' ⟨rfl,hb⟩)
     go_ret
     exact ⟨zac (by rw [E.out];simp),zai (zai hb)⟩
   · have E:=y22h (show res=(kids.any fun k=>k.hasB i == true) by rw [← HRES.out,← HAny.out];simp [Pr.hasB])
     go_enter Tryz.func139,Tryz.ntmps139
     go_wp2_with (go_at_call 197;refine (SM _ _ (LL _ _).out).out.mono ?_;rintro e w' ⟨rfl,hb⟩)
     go_ret
     exact ⟨zac (by rw [E.out];simp),zai (zai hb)⟩
   · by_cases h0:len=0
     · subst h0
       have E:=y22h (show res=false by rw [← HRES.out,List.length_eq_zero_iff.1 HLEN.out];simp [Pr.hasB,Pr.hasNot])
       have G1:=y22h ((Has.new w #[.int .i64 10,.string t,.int .i64 n,.complex .f64 x y,.slice oa 0 cap] 32).alloc (.cells (itC i r c st d) 58))
       have G2:=y22h ((Own.newAt (w.alloc (.cells #[.int .i64 10,.string t,.int .i64 n,.complex .f64 x y,.slice oa 0 cap] 32)) (itC i r c st d) 58 (b:=w.heap.size + 1) (by simp)).has)
       have LA:=fun dd os o=>G1.out.regrown dd os o
       have LB:=fun dd os o=>G2.out.regrown dd os o
       have l1:=G1.out.cell
       go_enter Tryz.func139,Tryz.ntmps139
       go_wp2_with fail
       refine wp_region_quiet_below (by kernel_rfl) (by kernel_rfl) ?_
       repeat (first | go_big_quiet_step (fail) | quiet_step (fail))
       refine wpQuiet_nil ?_
       intro w7 hw'
       have hb':=y22h (zag hw')
       clear hw'
       go_wp2_with fail
       go_ret
       exact ⟨zac E.out.symm,zai (zai hb'.out)⟩
     · obtain ⟨q,hq⟩:∃ q,kids[0]?=some q:=⟨_,List.getElem?_eq_getElem (by rw [HLEN.out];omega)⟩
       obtain ⟨rfl,hB⟩:=HN.out (by omega)
       obtain ⟨oq,cq,hV⟩:=zao (HR.out 0 q hq)
       have hbw:Below w.heap.size w ((w.alloc (.cells #[.int .i64 10,.string t,.int .i64 n,.complex .f64 x y,.slice (some ⟨b,o,none⟩) len cap] 32)).alloc (.cells (itC i r c st d) 58)):=(BE _ _).out
       obtain ⟨c0,c1,c2,c3,c4⟩:=zce (w:=((w.alloc (.cells #[.int .i64 10,.string t,.int .i64 n,.complex .f64 x y,.slice (some ⟨b,o,none⟩) len cap] 32)).alloc (.cells (itC i r c st d) 58))) (fun j u hu=>(hbw.cell (p:=⟨b,o + 0 * 5 + j,none⟩) hB).trans (HC.out 0 q hq j u hu))
       have L0:=(HR.out 0 q hq).later hbw (Nat.le_refl _)
       rw [hV] at c4 L0
       have CC:=fun dd os=>HI.out q (List.mem_of_getElem? hq) (.slice oq q.kids.length cq) (Sort.grow (redrawn ((w.alloc (.cells #[.int .i64 10,.string t,.int .i64 n,.complex .f64 x y,.slice (some ⟨b,o,none⟩) len cap] 32)).alloc (.cells (itC i r c st d) 58)) dd) os) (L0.later (below_regrown _ _ _) (Nat.le_refl _))
       have r0:=fun dd os=>cell_regrown c0 dd os
       have r1:=fun dd os=>cell_regrown c1 dd os
       have r2:=fun dd os=>cell_regrown c2 dd os
       have r3:=fun dd os=>cell_regrown c3 dd os
       have r4:=fun dd os=>cell_regrown c4 dd os
       have G1:=y22h ((Has.new w #[.int .i64 10,.string t,.int .i64 n,.complex .f64 x y,.slice (some ⟨b,o,none⟩) len cap] 32).alloc (.cells (itC i r c st d) 58))
       have G2:=y22h ((Own.newAt (w.alloc (.cells #[.int .i64 10,.string t,.int .i64 n,.complex .f64 x y,.slice (some ⟨b,o,none⟩) len cap] 32)) (itC i r c st d) 58 (b:=w.heap.size + 1) (by simp)).has)
       have LA:=fun dd os o=>G1.out.regrown dd os o
       have LB:=fun dd os o=>G2.out.regrown dd os o
       have l1:=G1.out.cell
       have E:=y22h (show res=!(Pr.hasB i q) by
         rw [← HRES.out]
         match kids,hq with
         | a :: l,hq=>simp at hq;subst hq;simp [Pr.hasB,Pr.hasNot])
       have m3:=fun dd os=>y22h (Calls.regrown_of (CC dd os))
       have hk0:(0:Int) < (len:Int):=by omega
       have hk1:0 < len:=by omega
       have hk2:decide (0 < len)=true:=by simp;omega
       have hk3:decide ((0:Int) < (len:Int))=true:=by simp;omega
       generalize Pr.hasB i q=rq at *
       clear hV L0 hq CC hbw
       simp only [Nat.zero_mul,Nat.add_zero] at r0 r1 r2 r3 r4
       go_enter Tryz.func139,Tryz.ntmps139
       go_wp2_with fail
       refine wp_region_quiet_below (by kernel_rfl) (by kernel_rfl) ?_
       repeat (first | go_big_quiet_step ((with_reducible exact (m3 _ _).out)) | quiet_step (with_reducible exact (m3 _ _).out))
       refine wpQuiet_nil ?_
       intro w7 hw'
       have hb':=y22h (zag hw')
       clear hw' m3 r0 r1 r2 r3 r4 LA LB
       go_wp2_with fail
       go_ret
       exact ⟨zac E.out.symm,zai (zai hb'.out)⟩
   · have E:=y22h (show res=false by rw [← HRES.out];simp [Pr.hasB,n1,n3,n4,n5,n6,n7,n8,n9,n10])
     go_enter Tryz.func139,Tryz.ntmps139
     go_wp2_with fail
     go_ret
     exact ⟨zac E.out.symm,(BE _ _).out⟩
end Go.Proofs.YtodfhabkdaiopaaGreat
